import PyProof.Rows.All
import Wide.All
import OpenK.AllK
import Wide.FinOn
import PySem.Challenge.RW_leftasleep_k27_whole_spoilt_texts_of_run
import HandS.ForMost
import HandS.ForExc
import HandS.IsInst
import HandS.Rev
import HandS.TupAny
import HandS.Zip
import HandS.Strs
import HandS.Style
import KE.GoesMore
import KE.GoesEnum
import HandS.ExcIs
import HandS.Small
import PyProof.ExcBaseAll.ValueError
import HandS.Ends
import PyProof.Rows.ReprOcc
import PyProof.Rows.RegStrFacts
import HandS.FStr
import HandS.Deep
import HandS.DictComp
import HandS.More
import KE.SortData
import KE.DataMinMax
import KE.DataEq
import HandS.Conv
import HandS.SetFor
import HandS.ExcInit
import HandS.ExcField
import HandS.WordsExc
import KE.KExcIs
import HandS.SortKw
import HandS.IterVal
import HandS.TupMul
import HandS.Sort
import HandS.RaiseMore
import HandS.Text
import KE.KDictZip
import KE.GoesZip
import HandS.Zip0
import KE.DataFind
set_option Elab.async false
set_option linter.all false
set_option maxRecDepth 100000
set_option maxHeartbeats 4000000
namespace Y
open PySem PySem.Spec PyProof.Rows L2

/-! ### effects -/
abbrev D := PyData
structure Ev where
  cls : Str
  arg : Option D
inductive T (α : Type) where
  | ret (a : α)
  | exc (e : Ev)
  | bad
  | draw (n : Int) (k : Int → T α)
namespace T
variable {α β γ : Type}
def bind : T α → (α → T β) → T β
  | .ret a, f => f a
  | .exc e, _ => .exc e
  | .bad, _ => .bad
  | .draw n k, f => .draw n fun r => (k r).bind f
/-- errors as values -/
def attempt : T α → T (Except Ev α)
  | .ret a => .ret (.ok a)
  | .exc e => .ret (.error e)
  | .bad => .bad
  | .draw n k => .draw n fun r => (k r).attempt
def sat : T α → Nat → (α → Nat → Prop) → (Ev → Nat → Prop) → Prop
  | .ret a, b, Q, _ => Q a b
  | .exc e, b, _, E => E e b
  | .bad, _, _, _ => False
  | .draw n k, b, Q, E => ∃ c, b = c + 1 ∧ 0 < n ∧ n < 2 ^ 30 ∧ ∀ r, 0 ≤ r → r < n → (k r).sat c Q E
theorem sat_mono {Q Q' : α → Nat → Prop} {E E' : Ev → Nat → Prop} (hQ : ∀ a c, Q a c → Q' a c) (hE : ∀ e c, E e c → E' e c) :
    ∀ {t : T α} {b : Nat}, t.sat b Q E → t.sat b Q' E'
  | .ret _, _, h => hQ _ _ h
  | .exc _, _, h => hE _ _ h
  | .bad, _, h => h
  | .draw _ k, _, ⟨c, e, h0, h1, h⟩ => ⟨c, e, h0, h1, fun r r0 r1 => sat_mono hQ hE (h r r0 r1)⟩
theorem sat_bind {f : α → T β} {Q : β → Nat → Prop} {E : Ev → Nat → Prop} :
    ∀ {t : T α} {b : Nat}, (t.bind f).sat b Q E → t.sat b (fun a c => (f a).sat c Q E) E
  | .ret _, _, h => h
  | .exc _, _, h => h
  | .bad, _, h => h
  | .draw _ k, _, ⟨c, e, h0, h1, h⟩ => ⟨c, e, h0, h1, fun r r0 r1 => sat_bind (h r r0 r1)⟩
theorem bind_sat {f : α → T β} {Q : β → Nat → Prop} {E : Ev → Nat → Prop} :
    ∀ {t : T α} {b : Nat}, t.sat b (fun a c => (f a).sat c Q E) E → (t.bind f).sat b Q E
  | .ret _, _, h => h
  | .exc _, _, h => h
  | .bad, _, h => h
  | .draw _ k, _, ⟨c, e, h0, h1, h⟩ => ⟨c, e, h0, h1, fun r r0 r1 => bind_sat (h r r0 r1)⟩
theorem sat_attempt {Q : Except Ev α → Nat → Prop} {E : Ev → Nat → Prop} :
    ∀ {t : T α} {b : Nat}, t.attempt.sat b Q E → t.sat b (fun a c => Q (.ok a) c) (fun e c => Q (.error e) c)
  | .ret _, _, h => h
  | .exc _, _, h => h
  | .bad, _, h => h
  | .draw _ k, _, ⟨c, e, h0, h1, h⟩ => ⟨c, e, h0, h1, fun r r0 r1 => sat_attempt (h r r0 r1)⟩
theorem attempt_sat {Q : Except Ev α → Nat → Prop} {E : Ev → Nat → Prop} :
    ∀ {t : T α} {b : Nat}, t.sat b (fun a c => Q (.ok a) c) (fun e c => Q (.error e) c) → t.attempt.sat b Q E
  | .ret _, _, h => h
  | .exc _, _, h => h
  | .bad, _, h => h
  | .draw _ k, _, ⟨c, e, h0, h1, h⟩ => ⟨c, e, h0, h1, fun r r0 r1 => attempt_sat (h r r0 r1)⟩
@[simp] theorem ret_bind (a : α) (f : α → T β) : (T.ret a).bind f = f a := rfl
@[simp] theorem exc_bind (e : Ev) (f : α → T β) : (T.exc e : T α).bind f = .exc e := rfl
@[simp] theorem bad_bind (f : α → T β) : (T.bad : T α).bind f = .bad := rfl
@[simp] theorem attempt_ret (a : α) : (T.ret a).attempt = .ret (.ok a) := rfl
@[simp] theorem attempt_exc (e : Ev) : (T.exc e : T α).attempt = .ret (.error e) := rfl
end T

/-! ### what data a value is -/
def keyD : Key → D
  | .inl i => .int i
  | .inr x => .str x
/-- a tuple that is read, without a dict of its own -/
def SqP (K : PySem.W.Frag) (H : Hp) (a : Addr) (xs : List V) : Prop :=
  (∃ o : Obj, H a = some (.frz o (.tup xs)) ∧ o.cls = .type "tuple" ∧ o.dict = none) ∨
    ∃ (o : Obj) (its : Array Value) (n : Nat), K.lookup a = some o ∧ o.cls = .type "tuple" ∧ o.dict = none ∧ o.data = .seq its n ∧ its.size ≤ sizeLine ∧ Vals xs its.toList
theorem SqP.T {K : PySem.W.Frag} {H : Hp} {a : Addr} {xs : List V} (h : SqP K H a xs) : SqT K H a xs := by
  rcases h with ⟨o, h, _, _⟩ | ⟨o, its, n, h1, h2, _, h3, h4, h5⟩
  · exact .inl (.inr ⟨o, h⟩)
  · exact .inr ⟨o, its, n, h1, h2, h3, h4, h5⟩
theorem SqP.of {K : PySem.W.Frag} {H : Hp} {a : Addr} {xs : List V} {o : Obj} (h : H a = some (.frz o (.tup xs))) (c : o.cls = .type "tuple") (d : o.dict = none) : SqP K H a xs := .inl ⟨o, h, c, d⟩
theorem SqP.mono {K : PySem.W.Frag} {G G' : Hp} (h : ∀ a o, G a = some o → G' a = some o) {a : Addr} {xs : List V} (s : SqP K G a xs) : SqP K G' a xs := by
  rcases s with ⟨o, s, c, d⟩ | s
  · exact .inl ⟨o, h _ _ s, c, d⟩
  · exact .inr s
/-- an opaque handle -/
def hdl (n : Int) : D := .dict [(.dict [], .int n)]
/-- a range that is held -/
def rgD (lo hi : Int) : D := .dict [(.dict [], .int lo), (.dict [], .int hi)]
mutual
inductive RD (O : V → Int → Prop) (K : PySem.W.Frag) (G : Hp) : V → D → Prop
  | non : RD O K G .non .none
  | bl (b : Bool) : RD O K G (.bl b) (.bool b)
  | int (i : Int) : RD O K G (.int i) (.int i)
  | str (x : Str) : RD O K G (.str x) (.str x)
  | lst {a : Addr} {xs : List V} {ds : List D} : G a = some (.lst xs) → RDs O K G xs ds → RD O K G (.ref a) (.list ds)
  | tup {a : Addr} {xs : List V} {ds : List D} : SqP K G a xs → RDs O K G xs ds → RD O K G (.ref a) (.tuple ds)
  | dct {a : Addr} {kvs : List (Key × V)} {ds : List (D × D)} : G a = some (.dK kvs) → RDk O K G kvs ds → RD O K G (.ref a) (.dict ds)
  | opq {v : V} {n : Int} : O v n → RD O K G v (hdl n)
  | rng {a : Addr} {lo hi : Int} : G a = some (.rng lo hi) → RD O K G (.ref a) (rgD lo hi)
inductive RDs (O : V → Int → Prop) (K : PySem.W.Frag) (G : Hp) : List V → List D → Prop
  | nil : RDs O K G [] []
  | cons {v : V} {vs : List V} {d : D} {ds : List D} : RD O K G v d → RDs O K G vs ds → RDs O K G (v :: vs) (d :: ds)
inductive RDk (O : V → Int → Prop) (K : PySem.W.Frag) (G : Hp) : List (Key × V) → List (D × D) → Prop
  | nil : RDk O K G [] []
  | cons {k : Key} {v : V} {kvs : List (Key × V)} {d : D} {ds : List (D × D)} : RD O K G v d → RDk O K G kvs ds → RDk O K G ((k, v) :: kvs) ((keyD k, d) :: ds)
end
section
variable {O : V → Int → Prop} {K : PySem.W.Frag} {G G' : Hp}
theorem sqt_mono (h : ∀ a o, G a = some o → G' a = some o) {a : Addr} {xs : List V} (s : SqT K G a xs) : SqT K G' a xs := by
  rcases s with (s | ⟨o, s⟩) | s
  · exact .inl (.inl (h _ _ s))
  · exact .inl (.inr ⟨o, h _ _ s⟩)
  · exact .inr s
mutual
theorem RD.mono (h : ∀ a o, G a = some o → G' a = some o) : ∀ {v : V} {d : D}, RD O K G v d → RD O K G' v d
  | _, _, .non => .non
  | _, _, .bl b => .bl b
  | _, _, .int i => .int i
  | _, _, .str x => .str x
  | _, _, .lst e r => .lst (h _ _ e) (RDs.mono h r)
  | _, _, .tup e r => .tup (e.mono h) (RDs.mono h r)
  | _, _, .dct e r => .dct (h _ _ e) (RDk.mono h r)
  | _, _, .opq o => .opq o
  | _, _, .rng e => .rng (h _ _ e)
theorem RDs.mono (h : ∀ a o, G a = some o → G' a = some o) : ∀ {v : List V} {d : List D}, RDs O K G v d → RDs O K G' v d
  | _, _, .nil => .nil
  | _, _, .cons r t => .cons (RD.mono h r) (RDs.mono h t)
theorem RDk.mono (h : ∀ a o, G a = some o → G' a = some o) : ∀ {v : List (Key × V)} {d : List (D × D)}, RDk O K G v d → RDk O K G' v d
  | _, _, .nil => .nil
  | _, _, .cons r t => .cons (RD.mono h r) (RDk.mono h t)
end
theorem RDs.len : ∀ {xs : List V} {ds : List D}, RDs O K G xs ds → xs.length = ds.length
  | _, _, .nil => rfl
  | _, _, .cons _ t => by rw [List.length_cons, List.length_cons, RDs.len t]
theorem RDs.get : ∀ {xs : List V} {ds : List D} {i : Nat} {d : D}, RDs O K G xs ds → ds[i]? = some d → ∃ v, xs[i]? = some v ∧ RD O K G v d
  | _, _, _, _, .nil, e => by simp at e
  | _, _, 0, _, .cons r _, e => by simp at e; subst e; exact ⟨_, rfl, r⟩
  | _, _, i + 1, d, .cons _ t, e => by
    obtain ⟨v, h1, h2⟩ := RDs.get (i := i) (d := d) t (by simpa using e)
    exact ⟨v, by simpa using h1, h2⟩
theorem RDs.app : ∀ {xs ys : List V} {ds es : List D}, RDs O K G xs ds → RDs O K G ys es → RDs O K G (xs ++ ys) (ds ++ es)
  | _, _, _, _, .nil, t => t
  | _, _, _, _, .cons r s, t => .cons r (RDs.app s t)
theorem RDs.one {v : V} {d : D} (r : RD O K G v d) : RDs O K G [v] [d] := .cons r .nil
theorem RDs.set : ∀ {xs : List V} {ds : List D} {v : V} {d : D} (i : Nat), RDs O K G xs ds → RD O K G v d → RDs O K G (xs.set i v) (ds.set i d)
  | _, _, _, _, _, .nil, _ => .nil
  | _, _, _, _, 0, .cons _ t, q => .cons q t
  | _, _, _, _, i + 1, .cons r t, q => .cons r (RDs.set i t q)
theorem RDs.rev : ∀ {xs : List V} {ds : List D}, RDs O K G xs ds → RDs O K G xs.reverse ds.reverse
  | _, _, .nil => .nil
  | _, _, .cons r t => by
    rw [List.reverse_cons, List.reverse_cons]
    exact RDs.app (RDs.rev t) (.one r)
theorem RDs.take : ∀ {xs : List V} {ds : List D} (i : Nat), RDs O K G xs ds → RDs O K G (xs.take i) (ds.take i)
  | _, _, 0, _ => .nil
  | _, _, _ + 1, .nil => .nil
  | _, _, i + 1, .cons r t => .cons r (RDs.take i t)
theorem RDs.drop : ∀ {xs : List V} {ds : List D} (i : Nat), RDs O K G xs ds → RDs O K G (xs.drop i) (ds.drop i)
  | _, _, 0, r => r
  | _, _, _ + 1, .nil => .nil
  | _, _, i + 1, .cons _ t => RDs.drop i t
end

/-! ### the heap's growth -/
structure Post (fp : Addr → Prop) (G H G' H' : Hp) : Prop where
  gg : ∀ a o, G a = some o → G' a = some o
  sub : ∀ a o, G' a = some o → H' a = some o
  hh : ∀ a o, ¬ fp a → H a = some o → H' a = some o
  th : ∀ a, H a ≠ none → H' a ≠ none
  fr : ∀ a, G' a ≠ none → G a ≠ none ∨ H a = none
section
variable {fp : Addr → Prop} {G H G1 H1 G2 H2 : Hp}
theorem Post.refl (s : ∀ a o, G a = some o → H a = some o) : Post fp G H G H := ⟨fun _ _ e => e, s, fun _ _ _ e => e, fun _ e => e, fun _ e => .inl e⟩
theorem Post.trans (x : Post fp G H G1 H1) (y : Post fp G1 H1 G2 H2) : Post fp G H G2 H2 :=
  ⟨fun a o e => y.gg a o (x.gg a o e), y.sub, fun a o n e => y.hh a o n (x.hh a o n e), fun a e => y.th a (x.th a e), fun a e => by
    rcases y.fr a e with q | q
    · exact x.fr a q
    · refine .inr ?_
      cases z : H a with
      | none => rfl
      | some o => exact absurd q (x.th a (by rw [z]; simp))⟩
/-- a new object, data -/
theorem Post.new {p : Addr} {o : HO} (s : ∀ a o, G a = some o → H a = some o) (n : H p = none) : Post fp G H (upd G p o) (upd H p o) := by
  have gp : G p = none := by
    cases z : G p with
    | none => rfl
    | some u => have := s p u z; rw [n] at this; cases this
  refine ⟨fun a u e => ?_, fun a u e => ?_, fun a u _ e => ?_, fun a e => ?_, fun a e => ?_⟩
  · rw [upd_ne (ne_of_none e gp)]; exact e
  · by_cases h : a = p
    · subst h; rw [upd_same] at e ⊢; exact e
    · rw [upd_ne h] at e ⊢; exact s a u e
  · rw [upd_ne (ne_of_none e n)]; exact e
  · by_cases h : a = p
    · subst h; rw [upd_same]; simp
    · rw [upd_ne h]; exact e
  · by_cases h : a = p
    · subst h; exact .inr n
    · rw [upd_ne h] at e; exact .inl e
/-- a new object of ours -/
theorem Post.newH {p : Addr} {o : HO} (s : ∀ a o, G a = some o → H a = some o) (n : H p = none) : Post fp G H G (upd H p o) := by
  refine ⟨fun a u e => e, fun a u e => ?_, fun a u _ e => ?_, fun a e => ?_, fun a e => .inl e⟩
  · rw [upd_ne (ne_of_none (s a u e) n)]; exact s a u e
  · rw [upd_ne (ne_of_none e n)]; exact e
  · by_cases h : a = p
    · subst h; rw [upd_same]; simp
    · rw [upd_ne h]; exact e
/-- an object of ours becomes data -/
theorem Post.give {p : Addr} {o : HO} (s : ∀ a o, G a = some o → H a = some o) (x : Post fp G1 H1 G H) (e : H p = some o) (n : H1 p = none) : Post fp G1 H1 (upd G p o) H := by
  refine ⟨fun a u q => ?_, fun a u q => ?_, x.hh, x.th, fun a q => ?_⟩
  · by_cases h : a = p
    · subst h
      have := x.sub a u (x.gg a u q)
      rw [e] at this; cases this
      rw [upd_same]
    · rw [upd_ne h]; exact x.gg a u q
  · by_cases h : a = p
    · subst h; rw [upd_same] at q; cases q; exact e
    · rw [upd_ne h] at q; exact s a u q
  · by_cases h : a = p
    · subst h; exact .inr n
    · rw [upd_ne h] at q; exact x.fr a q
end

/-! ### a jar: what may change under calls -/
structure Jr where
  fp : Addr → Prop
  ok : Nat → Hp → Prop
  loc : ∀ b H H', ok b H → (∀ a, fp a → H' a = H a) → ok b H'
  O : V → Int → Prop
def noJar : Jr := ⟨fun _ => False, fun _ _ => True, fun _ _ _ _ _ => trivial, fun _ _ => False⟩

/-! ### the frame -/
inductive S where
  | un
  | dt (d : D)
  | ow (ds : List D)
  | ex (e : Ev)
abbrev Rho := List S
/-- the context of a body: the jar, the written part, the heaps at the entry, what is wished of errors -/
structure Ct where
  J : Jr
  K : PySem.W.Frag
  mg : Str → Option Value
  G0 : Hp
  H0 : Hp
  W : WX
structure Rel (C : Ct) (G H : Hp) (ρ : Rho) (σ : L2.St) (b : Nat) : Prop where
  post : Post C.J.fp C.G0 C.H0 G H
  jar : C.J.ok b H
  jfr : ∀ a, C.J.fp a → G a = none
  jth : ∀ a, C.J.fp a → C.H0 a ≠ none
  own : ∃ α : Nat → Addr, (∀ (i : Nat) (ds : List D), ρ[i]? = some (S.ow ds) → σ[i]? = some (some (.ref (α i))) ∧ G (α i) = none ∧ C.H0 (α i) = none ∧ ∃ xs, H (α i) = some (.lst xs) ∧ RDs C.J.O C.K G xs ds) ∧
    (∀ (i k : Nat) (ds es : List D), ρ[i]? = some (S.ow ds) → ρ[k]? = some (S.ow es) → α i = α k → i = k)
  dat : ∀ (i : Nat) (d : D), ρ[i]? = some (S.dt d) → ∃ v, σ[i]? = some (some v) ∧ RD C.J.O C.K G v d
  len : ρ.length = σ.length
section
variable {C : Ct} {G H G' H' : Hp} {ρ : Rho} {σ : L2.St} {b c : Nat}
theorem Rel.sub (R : Rel C G H ρ σ b) : ∀ a o, G a = some o → H a = some o := R.post.sub
/-- behind an expression -/
theorem Rel.step (R : Rel C G H ρ σ b) (P : Post C.J.fp G H G' H') (j : C.J.ok c H') : Rel C G' H' ρ σ c := by
  obtain ⟨α, ho, hi⟩ := R.own
  refine ⟨R.post.trans P, j, fun a ha => ?_, R.jth, ⟨α, fun i ds e => ?_, hi⟩, fun i d e => ?_, R.len⟩
  · cases z : G' a with
    | none => rfl
    | some o =>
      rcases P.fr a (by rw [z]; simp) with q | q
      · exact absurd (R.jfr a ha) q
      · exact absurd q (R.post.th a (R.jth a ha))
  · obtain ⟨h1, h2, h3, xs, h4, h5⟩ := ho i ds e
    have nf : ¬ C.J.fp (α i) := fun f => R.jth _ f h3
    refine ⟨h1, ?_, h3, xs, P.hh _ _ nf h4, h5.mono P.gg⟩
    cases z : G' (α i) with
    | none => rfl
    | some o =>
      rcases P.fr (α i) (by rw [z]; simp) with q | q
      · exact absurd h2 q
      · rw [h4] at q; cases q
  · obtain ⟨v, h1, h2⟩ := R.dat i d e
    exact ⟨v, h1, h2.mono P.gg⟩
end

/-- the field of an error of ours -/
def excF (c : Str) : Str := if c = "BadText" ∨ c = "BadLog" then "place" else if c = "Refused" then "word" else if c = "TooMany" then "limit" else "error"
/-- how an error of ours lies behind its raising -/
def Exc (C : Ct) (ev : Ev) (c : Value) (od : Option Addr) (G H : Hp) : Prop :=
  ∃ Ca : Addr, c = .ref Ca ∧ C.mg ev.cls = some (.ref Ca) ∧
    match ev.arg with
    | none => od = none
    | some d => ∃ dd v, od = some dd ∧ H dd = some (.xd [(excF ev.cls, v)]) ∧ G dd = none ∧ ¬ C.J.fp dd ∧ RD C.J.O C.K G v d

/-! ### readings -/
/-- from here on, t -/
def Go {α : Type} (C : Ct) (σ : L2.St) (G H : Hp) (ρ : Rho) (b : Nat) (t : T α) (Q : α → Hp → Hp → Nat → Prop) : Prop :=
  t.sat b (fun d c => ∀ G' H', Post C.J.fp G H G' H' → C.J.ok c H' → Q d G' H' c)
    (fun ev c => ∀ cl od G' H', Rel C G' H' ρ σ c → Exc C ev cl od G' H' → C.W cl od σ H')
/-- an expression that gives data -/
def tD (C : Ct) (f : Rho → T D) : TE := fun σ H Q => ∃ G ρ b, Rel C G H ρ σ b ∧ Go C σ G H ρ b (f ρ) fun d G' H' _ => ∀ v, RD C.J.O C.K G' v d → Q v H'
/-- .. a new list of ours -/
def tL (C : Ct) (f : Rho → T (List D)) : TE := fun σ H Q => ∃ G ρ b, Rel C G H ρ σ b ∧ Go C σ G H ρ b (f ρ) fun ds G' H' _ => ∀ p xs, H p = none → G' p = none → H' p = some (.lst xs) → RDs C.J.O C.K G' xs ds → Q (.ref p) H'
def tT (C : Ct) (f : Rho → T Bool) : TT := fun σ H Q => ∃ G ρ b, Rel C G H ρ σ b ∧ Go C σ G H ρ b (f ρ) fun d _ H' _ => Q d H'
def tA (C : Ct) (f : Rho → T (List D)) : TA := fun σ H Q => ∃ G ρ b, Rel C G H ρ σ b ∧ Go C σ G H ρ b (f ρ) fun ds G' H' _ => ∀ vs, RDs C.J.O C.K G' vs ds → Q vs H'
section
variable {α β : Type} {C : Ct} {σ : L2.St} {G H G' H' : Hp} {ρ : Rho} {b c : Nat}
theorem Go.bind {t : T α} {k : α → T β} {Q : β → Hp → Hp → Nat → Prop} (R : Rel C G H ρ σ b) (h : Go C σ G H ρ b (t.bind k) Q) :
    Go C σ G H ρ b t fun d G' H' c => Rel C G' H' ρ σ c ∧ Go C σ G' H' ρ c (k d) fun e G2 H2 c2 => Post C.J.fp G H G2 H2 ∧ Q e G2 H2 c2 := by
  refine T.sat_mono (fun d c q G1 H1 P j => ?_) (fun ev c q => q) (T.sat_bind h)
  exact ⟨R.step P j, T.sat_mono (fun e c2 q2 G2 H2 P2 j2 => ⟨P.trans P2, q2 G2 H2 (P.trans P2) j2⟩) (fun ev c q => q) q⟩
theorem Go.mono {t : T α} {Q Q' : α → Hp → Hp → Nat → Prop} (h : Go C σ G H ρ b t Q) (q : ∀ d G' H' c, Post C.J.fp G H G' H' → C.J.ok c H' → Q d G' H' c → Q' d G' H' c) : Go C σ G H ρ b t Q' :=
  T.sat_mono (fun d c z G1 H1 P j => q d G1 H1 c P j (z G1 H1 P j)) (fun _ _ z => z) h
theorem Go.ret {a : α} {Q : α → Hp → Hp → Nat → Prop} (h : Go C σ G H ρ b (.ret a) Q) (R : Rel C G H ρ σ b) : Q a G H b := h G H (.refl R.sub) R.jar
theorem Go.to {a : α} {Q : α → Hp → Hp → Nat → Prop} (h : Go C σ G H ρ b (.ret a) Q) (P : Post C.J.fp G H G' H') (j : C.J.ok b H') : Q a G' H' b := h G' H' P j
theorem tD.bindv {f : Rho → T D} {k : Rho → D → T α} {Q : α → Hp → Hp → Nat → Prop} {R : VK} (hR : Rel C G H ρ σ b) (h : Go C σ G H ρ b ((f ρ).bind (k ρ)) Q)
    (q : ∀ v d G' H' c, Rel C G' H' ρ σ c → Post C.J.fp G H G' H' → RD C.J.O C.K G' v d → Go C σ G' H' ρ c (k ρ d) (fun e G2 H2 c2 => Post C.J.fp G H G2 H2 ∧ Q e G2 H2 c2) → R v H') : tD C f σ H R :=
  ⟨G, ρ, b, hR, (Go.bind hR h).mono fun d G1 H1 c P _ z v r => q v d G1 H1 c z.1 P r z.2⟩
end
end Y
namespace Y
open PySem PySem.Spec PyProof.Rows L2

/-! ### defs, where nothing is being shown -/
structure FnG (P : Program) (w : World) (K : PySem.W.Frag) (mg : Str → Option Value) (base : Heap) (k : Nat) (f : Addr) (fd : FuncData) (ps : List Str) (sp : Sp) : Prop where
  len : ∀ vs H Q E, sp vs H Q E → vs.length = ps.length
  run : ∀ (A : Around) (l : List Env) (s : Shared) (H : Hp) (args : Args) (us : List Value) (vs : List V) (Q : VK) (E : XK), Room k A → A.guards = some [] → Env0 P w K mg base A l s H →
    BindsTo s fd args (ps.zip us) → Vals vs us → sp vs H Q E → codeAny (model P w) A (.call (.ref f) args) (CR (L2.CX P w) l P w H s Q E) s
theorem FnG.up {P : Program} {w : World} {K : PySem.W.Frag} {mg : Str → Option Value} {base : Heap} {j k : Nat} {f : Addr} {fd : FuncData} {ps : List Str} {sp : Sp} (F : FnG P w K mg base j f fd ps sp) (h : j ≤ k) : FnG P w K mg base k f fd ps sp :=
  ⟨F.len, fun A l s H args us vs Q E hr => F.run A l s H args us vs Q E (hr.mono h)⟩
theorem FnG.weak {P : Program} {w : World} {K : PySem.W.Frag} {mg : Str → Option Value} {base : Heap} {k : Nat} {f : Addr} {fd : FuncData} {ps : List Str} {sp sp' : Sp} (F : FnG P w K mg base k f fd ps sp)
    (h : ∀ vs H Q E, sp' vs H Q E → sp vs H Q E) : FnG P w K mg base k f fd ps sp' :=
  ⟨fun vs H Q E q => F.len vs H Q E (h _ _ _ _ q), fun A l s H args us vs Q E r g e b v q => F.run A l s H args us vs Q E r g e b v (h _ _ _ _ q)⟩

/-- a def of the text by its body, as HandS's rule, with nothing being shown -/
theorem fnG_of {P : Program} {w : World} {K : PySem.W.Frag} {mg : Str → Option Value} {base : Heap} {x qual : Str} {st : Stmt} {f : Addr} {fd : FuncData} {N ps : List Str} {k : Nat} {sp : Sp} (F : Fun K x qual st f fd) (S : FnScope N ps (defScope st))
    (len : ∀ vs H Q E, sp vs H Q E → vs.length = ps.length)
    (hb : ∀ (cdv : Value) (A : Around) (l : List Env) (s : Shared) (H : Hp) (vs : List V) (Q : VK) (E : XK), Room k (A.deeper (envOfC qual (defScope st) s.heap.objs.size f cdv)) → A.guards = some [] → sp vs H Q E →
      ∃ t, PSs (cxOf (L2.CX P w) P w K mg base N qual (defScope st) f cdv A l s H E) (defBody st) t ∧ t { nx := fun _ H' => Q .non H', rt := Q } (start N vs) H) :
    FnG P w K mg base (k + 1) f fd ps sp := by
  obtain ⟨oc, od, kV, dc, pm, an, cdv, ct, osl, hfd, lk, hcd⟩ := F.ex
  subst hfd
  refine ⟨len, fun A l s H args us vs Q E hr hg e0 bnd rv hsp => ?_⟩
  have inK : K.In s.heap := e0.mod.kin.keeps fun b o z => (e0.bs b o z).1
  have noL : s.heap.NoLimit := e0.mod.nolimit.keeps fun b o z => (e0.bs b o z).1
  have kinds : ∀ y ∈ ps.zip us, (defScope st).names.lookup y.1 = some .local ∨ ((defScope st).names.lookup y.1 = some .cell ∧ ((cellsFrom (s.heap.objs.size + 1) (defScope st).names []).lookup y.1).isSome = true) := fun y hy =>
    (S.par y.1 (List.of_mem_zip (a := y.1) (b := y.2) hy).1).elim .inl fun q => .inr ⟨q, PySem.W.cellsFrom_some _ _ _ (.inl q)⟩
  refine codeAny_call_function hr.depth (inK _ _ lk) rfl S.co S.gen rfl (PySem.W.codeRec_of inK hcd) (bnd _ _ _ _ ?_)
  refine wpAny_newFunctionEnv_cells S.kind kinds fun env hE s1 hx => ?_
  subst hE
  refine ⟨noL.keeps hx.toInCall.keep, codeAny_func ?_⟩
  obtain ⟨t, ht, q⟩ := hb cdv A l s H vs Q E (hr.deeper _) hg hsp
  refine wpAny_mono (ht.run [] s1 (start N vs) H _ (inv_start S hr.hd e0 (len _ _ _ _ hsp) rv hx) q) (fun fl s2 z => ?_) fun e s2 z => z
  cases fl with
  | next =>
    obtain ⟨σ2, H2, J, q2⟩ := z
    exact ⟨.non, H2, J.os, J.bare, J.base, J.hok, rfl, q2⟩
  | ret u =>
    obtain ⟨v, σ2, H2, J, r2, q2⟩ := z
    exact ⟨v, H2, J.os, J.bare, J.base, J.hok, r2, q2⟩
  | brk => exact z.elim fun _ y => y.elim fun _ y => y.2.elim
  | cont => exact z.elim fun _ y => y.elim fun _ y => y.2.elim

section
variable {X : Cx} {k : Nat} {f : Addr} {fd : FuncData} {ps ks : List Str} {sp : Sp} {W : WX} {x : Str} {p pos : Pos} {e : Expr} {es : List Expr} {kws : List Keyword} {ta t tk : TA} {g : List Value → List Value → List Value} {gV : List V → List V → List V}
theorem runG {pins : List (Addr × Obj)} {σ : L2.St} {H : Hp} {s : Shared} {Q : VK} {args : Args} {us : List Value} {vs : List V} (F : FnG X.prog X.w X.K X.mg X.base k f fd ps sp) (hr : Room k X.A) (hg : X.A.guards = some []) (tk : Takes X W)
    (I : Inv X pins σ H s) (b : us.length = ps.length → BindsTo s fd args (ps.zip us)) (r : Vals vs us) (h : sp vs H Q (WE W σ)) : wpAny (model X.prog X.w) X.A (call (.ref f) args.pos args.kw) (EP X pins σ Q) X.xe s := by
  have b' := b (by rw [← r.length]; exact F.len _ _ _ _ h)
  obtain ⟨pa, kw⟩ := args
  refine wpAny_call (codeAny_mono (F.run X.A X.stack s H ⟨pa, kw⟩ us vs Q (WE W σ) hr hg I.env0 b' r h) fun res s2 z => ?_)
  cases res with
  | error er => exact passAt tk σ pins H s er s2 I z
  | ok fl =>
    cases fl with
    | ret u => exact I.after z
    | next => exact z.elim
    | brk => exact z.elim
    | cont => exact z.elim
/-- f(e, ..) -/
theorem pe_callG (F : FnG X.prog X.w X.K X.mg X.base k f fd ps sp) (hr : Room k X.A) (hgu : X.A.guards = some []) (hg : Gl X x) (hm : X.mg x = some (.ref f)) (hk : PySem.W.keepIn X.K (.ref f) = true) (hb : Binds X.K fd ps []) (tk : Takes X W)
    (ha : PA X (e :: es) ta) (hdb : (x == ("__debug__" : Str)) = false := by decide) (he : starEach (e :: es) X.env = (false, eval e X.env) :: starEach es X.env := by rfl) (hpl : (backTo pos (starEach es X.env)).any (·.1) = false := by rfl) :
    PE X (.Call (.Name x p) (e :: es) [] pos) (fun σ H Q => ta σ H fun vs H1 => sp vs H1 Q (WE W σ)) := by
  refine ⟨fun pins s σ H Q I h => wpAny_Call_Name_kw (ld_glob I hg hm ?_ hdb)⟩
  refine PySem.W.callWith_K (h₀ := X.base) I.ok.mod.kin hk (thn (ha.run pos pins s σ H _ I h) fun us s1 ⟨vs, H1, I1, r, q⟩ => ⟨I1.kIn, ?_⟩) he hpl
  exact runG (args := ⟨us, []⟩) F hr hgu tk I1 (fun z => by have := hb s1 us I1.kIn (by rw [List.append_nil]; exact z); rwa [List.append_nil] at this) r q
/-- f() -/
theorem pe_callG0 (F : FnG X.prog X.w X.K X.mg X.base k f fd ps sp) (hr : Room k X.A) (hgu : X.A.guards = some []) (hg : Gl X x) (hm : X.mg x = some (.ref f)) (hk : PySem.W.keepIn X.K (.ref f) = true) (hb : Binds X.K fd ps []) (tk : Takes X W)
    (hdb : (x == ("__debug__" : Str)) = false := by decide) : PE X (.Call (.Name x p) [] [] pos) (fun σ H Q => sp [] H Q (WE W σ)) := by
  refine ⟨fun pins s σ H Q I h => wpAny_Call_Name_kw (ld_glob I hg hm ?_ hdb)⟩
  refine PySem.W.callWith_K0 I.kIn hk (runG (args := ⟨[], []⟩) F hr hgu tk I (fun z => ?_) .nil h)
  have := hb s [] I.kIn (by simpa using z)
  simpa using this
/-- f(e, .., k = v, ..) -/
theorem pe_callGK (F : FnG X.prog X.w X.K X.mg X.base k f fd ps sp) (hr : Room k X.A) (hgu : X.A.guards = some []) (hg : Gl X x) (hm : X.mg x = some (.ref f)) (hk : PySem.W.keepIn X.K (.ref f) = true) (hb : KBinds X.K fd ps ks g gV) (tkW : Takes X W)
    (ha : PA X (e :: es) t) (hkw : PK X kws tk) (hall : (backToKw pos (keywordEach kws X.env)).all (·.1.isSome) = true := by rfl) (hks : (backToKw pos (keywordEach kws X.env)).filterMap (·.1) = ks := by rfl)
    (hdb : (x == ("__debug__" : Str)) = false := by decide) (he : starEach (e :: es) X.env = (false, eval e X.env) :: starEach es X.env := by rfl)
    (hpl : ((backTo pos (starEach (e :: es) X.env)).any (·.1) || (backToKw pos (keywordEach kws X.env)).any (·.1.isNone)) = false := by rfl) :
    PE X (.Call (.Name x p) (e :: es) kws pos) (fun σ H Q => t σ H fun vs H1 => tk σ H1 fun zs H2 => sp (gV vs zs) H2 Q (WE W σ)) := by
  refine ⟨fun pins s σ H Q I h => wpAny_Call_Name_kw (ld_glob I hg hm ?_ hdb)⟩
  refine PySem.W.callWith_KW (h₀ := X.base) I.ok.mod.kin hk hall (thn (ha.run pos pins s σ H _ I h) fun us s1 ⟨vs, H1, I1, r, q⟩ => ?_) hpl he
  refine thn (hkw.run pos pins s1 σ H1 _ I1 q) fun ws s2 ⟨zs, H2, I2, rz, q2⟩ => ⟨I2.kIn, ?_⟩
  rw [hks]
  exact runG (args := ⟨us, ks.zip ws⟩) F hr hgu tkW I2 (fun z => hb.to s2 us ws I2.kIn z) (hb.rel r rz) q2
end
end Y
namespace Y
open PySem PySem.Spec PyProof.Rows L2
section
variable {X : Cx} {k : Nat} {f : Addr} {fd : FuncData} {ps ks : List Str} {sp : Sp} {W : WX} {x : Str} {p pos : Pos} {kws : List Keyword} {tk : TA} {g : List Value → List Value → List Value} {gV : List V → List V → List V}
/-- f(k = v, ..) -/
theorem pe_callGK0 (F : FnG X.prog X.w X.K X.mg X.base k f fd ps sp) (hr : Room k X.A) (hgu : X.A.guards = some []) (hg : Gl X x) (hm : X.mg x = some (.ref f)) (hk : PySem.W.keepIn X.K (.ref f) = true) (hb : KBinds X.K fd ps ks g gV) (tkW : Takes X W)
    (hkw : PK X kws tk) (hall : (backToKw pos (keywordEach kws X.env)).all (·.1.isSome) = true := by rfl) (hks : (backToKw pos (keywordEach kws X.env)).filterMap (·.1) = ks := by rfl)
    (hdb : (x == ("__debug__" : Str)) = false := by decide)
    (hpl : ((backTo pos (starEach [] X.env)).any (·.1) || (backToKw pos (keywordEach kws X.env)).any (·.1.isNone)) = false := by rfl) :
    PE X (.Call (.Name x p) [] kws pos) (fun σ H Q => tk σ H fun zs H2 => sp (gV [] zs) H2 Q (WE W σ)) := by
  refine ⟨fun pins s σ H Q I h => wpAny_Call_Name_kw (ld_glob I hg hm ?_ hdb)⟩
  refine PySem.W.callWith_KW0 (h₀ := X.base) I.ok.mod.kin hk hall (thn (hkw.run pos pins s σ H _ I h) fun ws s2 ⟨zs, H2, I2, rz, q2⟩ => ⟨I2.kIn, ?_⟩) hpl
  rw [hks]
  exact runG (args := ⟨[], ks.zip ws⟩) F hr hgu tkW I2 (fun z => hb.to s2 [] ws I2.kIn z) (hb.rel .nil rz) q2
end
end Y
namespace Y
open PySem PySem.Spec PyProof.Rows L2

theorem PEto {X : Cx} {e : Expr} {t t' : TE} (h : PE X e t) (w : ∀ σ H Q, t' σ H Q → t σ H Q) : PE X e t' := ⟨fun pins s σ H Q I q => h.run pins s σ H Q I (w σ H Q q)⟩
theorem PTto {X : Cx} {e : Expr} {t t' : TT} (h : PT X e t) (w : ∀ σ H Q, t' σ H Q → t σ H Q) : PT X e t' := ⟨fun pins s σ H Q I q => h.run pins s σ H Q I (w σ H Q q)⟩
theorem PAto {X : Cx} {e : List Expr} {t t' : TA} (h : PA X e t) (w : ∀ σ H Q, t' σ H Q → t σ H Q) : PA X e t' := ⟨fun pos pins s σ H Q I q => h.run pos pins s σ H Q I (w σ H Q q)⟩
theorem PSto {X : Cx} {e : Stmt} {t t' : TS} (h : PS X e t) (w : ∀ Dn σ H, t' Dn σ H → t Dn σ H) : PS X e t' := ⟨fun pins s σ H Dn I q => h.run pins s σ H Dn I (w Dn σ H q)⟩
theorem PSsto {X : Cx} {e : List Stmt} {t t' : TS} (h : PSs X e t) (w : ∀ Dn σ H, t' Dn σ H → t Dn σ H) : PSs X e t' := ⟨fun pins s σ H Dn I q => h.run pins s σ H Dn I (w Dn σ H q)⟩

section
variable {C : Ct} {σ : L2.St} {G H G' H' : Hp} {ρ : Rho} {b c : Nat} {α : Type}

/-! ### the slots -/
def gv (i : Nat) (ρ : Rho) : T D := match ρ[i]? with
  | some (.dt d) => .ret d
  | _ => .bad
theorem d_var {i : Nat} : ∀ σ H Q, tD C (gv i) σ H Q → tVar i σ H Q := by
  rintro σ H Q ⟨G, ρ, b, R, h⟩
  unfold gv at h
  split at h
  · rename_i d e
    obtain ⟨v, h1, h2⟩ := R.dat i d e
    exact ⟨v, h1, h.ret R v h2⟩
  · exact h.elim
theorem d_const {v : V} {d : D} (r : ∀ G, RD C.J.O C.K G v d) : ∀ σ H Q, tD C (fun _ => .ret d) σ H Q → tC v σ H Q := by
  rintro σ H Q ⟨G, ρ, b, R, h⟩
  exact h.ret R v (r G)

/-! ### two operands -/
def Op2 (C : Ct) (r : R2) (op : D → D → T D) : Prop :=
  ∀ σ G H ρ b x y d e (Q : VK), Rel C G H ρ σ b → RD C.J.O C.K G x d → RD C.J.O C.K G y e → Go C σ G H ρ b (op d e) (fun d G' H' _ => ∀ v, RD C.J.O C.K G' v d → Q v H') → r x y H Q
theorem d_op {f g : Rho → T D} {r : R2} {op : D → D → T D} (h2 : Op2 C r op) :
    ∀ σ H Q, tD C (fun ρ => (f ρ).bind fun x => (g ρ).bind fun y => op x y) σ H Q → tOp r (tD C f) (tD C g) σ H Q := by
  rintro σ H Q ⟨G, ρ, b, R, h⟩
  refine ⟨G, ρ, b, R, (Go.bind R h).mono fun d G1 H1 c P j z v rv => ?_⟩
  obtain ⟨R1, z⟩ := z
  refine ⟨G1, ρ, c, R1, (Go.bind R1 z).mono fun e G2 H2 c2 P2 j2 z2 w rw => ?_⟩
  exact h2 σ G2 H2 ρ c2 v w d e Q z2.1 (rv.mono P2.gg) rw (z2.2.mono fun _ _ _ _ _ _ q => q.2.2)
/-- one of several readings -/
theorem Op2.or1 {r1 r2 : R2} {op : D → D → T D} (h : Op2 C r1 op) : Op2 C (fun x y H Q => r1 x y H Q ∨ r2 x y H Q) op := fun σ G H ρ b x y d e Q R a c q => .inl (h σ G H ρ b x y d e Q R a c q)
theorem OpR.or {X : Cx} {f : Value → Value → Sem Value} {r1 r2 : R2} (h1 : OpR X f r1) (h2 : OpR X f r2) : OpR X f fun x y H Q => r1 x y H Q ∨ r2 x y H Q :=
  fun pins s σ H x y v u Q I a c q => q.elim (h1 pins s σ H x y v u Q I a c) (h2 pins s σ H x y v u Q I a c)

/-! ### arguments -/
theorem d_anil : ∀ σ H Q, tA C (fun _ => .ret []) σ H Q → tNil σ H Q := by
  rintro σ H Q ⟨G, ρ, b, R, h⟩
  exact h.ret R [] .nil
def consT (f : Rho → T D) (g : Rho → T (List D)) (ρ : Rho) : T (List D) := (f ρ).bind fun d => (g ρ).bind fun ds => .ret (d :: ds)
theorem d_acons {f : Rho → T D} {g : Rho → T (List D)} : ∀ σ H Q, tA C (consT f g) σ H Q → tCons (tD C f) (tA C g) σ H Q := by
  rintro σ H Q ⟨G, ρ, b, R, h⟩
  refine ⟨G, ρ, b, R, (Go.bind R h).mono fun d G1 H1 c P j z v rv => ?_⟩
  obtain ⟨R1, z⟩ := z
  refine ⟨G1, ρ, c, R1, (Go.bind R1 z).mono fun ds G2 H2 c2 P2 j2 z2 vs rs => ?_⟩
  obtain ⟨R2, z2⟩ := z2
  exact (z2.ret R2).2.2 (v :: vs) (.cons (rv.mono P2.gg) rs)

/-! ### calls by values -/
def CallD (C : Ct) (r : List V → Hp → VK → Prop) (op : List D → T D) : Prop :=
  ∀ σ G H ρ b vs ds (Q : VK), Rel C G H ρ σ b → RDs C.J.O C.K G vs ds → Go C σ G H ρ b (op ds) (fun d G' H' _ => ∀ v, RD C.J.O C.K G' v d → Q v H') → r vs H Q
theorem d_cb {f : Rho → T (List D)} {r : List V → Hp → VK → Prop} {op : List D → T D} (hc : CallD C r op) :
    ∀ σ H Q, tD C (fun ρ => (f ρ).bind op) σ H Q → tCB r (tA C f) σ H Q := by
  rintro σ H Q ⟨G, ρ, b, R, h⟩
  refine ⟨G, ρ, b, R, (Go.bind R h).mono fun ds G1 H1 c P j z vs rs => ?_⟩
  exact hc σ G1 H1 ρ c vs ds Q z.1 rs (z.2.mono fun _ _ _ _ _ _ q => q.2)

/-! ### calls of defs of the text -/
def ExcJ (J : Jr) (K : PySem.W.Frag) (mg : Str → Option Value) (ev : Ev) (c : Value) (od : Option Addr) (G H : Hp) : Prop :=
  ∃ Ca : Addr, c = .ref Ca ∧ mg ev.cls = some (.ref Ca) ∧
    match ev.arg with
    | none => od = none
    | some d => ∃ dd v, od = some dd ∧ H dd = some (.xd [(excF ev.cls, v)]) ∧ G dd = none ∧ ¬ J.fp dd ∧ RD J.O K G v d
def spD (J : Jr) (K : PySem.W.Frag) (mg : Str → Option Value) (F : List D → T D) (n : Nat) : Sp := fun vs H Q E => vs.length = n ∧ ∃ G b ds, (∀ a o, G a = some o → H a = some o) ∧ J.ok b H ∧ (∀ a, J.fp a → G a = none ∧ H a ≠ none) ∧ RDs J.O K G vs ds ∧
  (F ds).sat b (fun d c => ∀ v G' H', Post J.fp G H G' H' → J.ok c H' → RD J.O K G' v d → Q v H') (fun ev c => ∀ cl od G' H', Post J.fp G H G' H' → J.ok c H' → ExcJ J K mg ev cl od G' H' → E cl od H')
/-- what a def does, by data -/
abbrev FnD (P : Program) (w : World) (J : Jr) (K : PySem.W.Frag) (mg : Str → Option Value) (base : Heap) (k : Nat) (f : Addr) (fd : FuncData) (ps : List Str) (F : List D → T D) : Prop :=
  FnG P w K mg base k f fd ps (spD J K mg F ps.length)
/-- the call's reading, once the arguments have come -/
theorem spD_of {F : List D → T D} {n : Nat} {vs : List V} {ds : List D} {Q : VK} (R : Rel C G H ρ σ b) (hn : vs.length = n) (r : RDs C.J.O C.K G vs ds)
    (h : Go C σ G H ρ b (F ds) fun d G' H' _ => ∀ v, RD C.J.O C.K G' v d → Q v H') : spD C.J C.K C.mg F n vs H Q (WE C.W σ) :=
  ⟨hn, G, b, ds, R.sub, R.jar, fun a ha => ⟨R.jfr a ha, R.post.th a (R.jth a ha)⟩, r,
    T.sat_mono (fun d c z v G' H' P j rd => z G' H' P j v rd) (fun ev c z cl od G' H' P j x => z cl od G' H' (R.step P j) x) h⟩

/-! ### tests -/
theorem d_test {f : Rho → T D} {g : Rho → T Bool} {t : TE} (hf : ∀ σ H Q, tD C f σ H Q → t σ H Q) (e : ∀ ρ, f ρ = (g ρ).bind fun k => .ret (.bool k)) : ∀ σ H Q, tT C g σ H Q → tTest t σ H Q := by
  rintro σ H Q ⟨G, ρ, b, R, h⟩
  refine hf σ H _ ⟨G, ρ, b, R, ?_⟩
  rw [e]
  refine T.bind_sat (T.sat_mono (fun k c z G' H' P j v rv => ?_) (fun _ _ z => z) h)
  cases rv with
  | bl => exact ⟨k, rfl, z G' H' P j⟩
def andT (f g : Rho → T Bool) (ρ : Rho) : T Bool := (f ρ).bind fun k => if k then g ρ else .ret false
def orT (f g : Rho → T Bool) (ρ : Rho) : T Bool := (f ρ).bind fun k => if k then .ret true else g ρ
def notT (f : Rho → T Bool) (ρ : Rho) : T Bool := (f ρ).bind fun k => .ret !k
theorem d_and {f g : Rho → T Bool} : ∀ σ H Q, tT C (andT f g) σ H Q → tAnd (tT C f) (tT C g) σ H Q := by
  rintro σ H Q ⟨G, ρ, b, R, h⟩
  refine ⟨G, ρ, b, R, (Go.bind R h).mono fun k G1 H1 c P j z => ?_⟩
  obtain ⟨R1, z⟩ := z
  cases k with
  | true => exact ⟨G1, ρ, c, R1, z.mono fun _ _ _ _ _ _ q => q.2⟩
  | false => exact (z.ret R1).2
theorem d_or {f g : Rho → T Bool} : ∀ σ H Q, tT C (orT f g) σ H Q → tOr (tT C f) (tT C g) σ H Q := by
  rintro σ H Q ⟨G, ρ, b, R, h⟩
  refine ⟨G, ρ, b, R, (Go.bind R h).mono fun k G1 H1 c P j z => ?_⟩
  obtain ⟨R1, z⟩ := z
  cases k with
  | false => exact ⟨G1, ρ, c, R1, z.mono fun _ _ _ _ _ _ q => q.2⟩
  | true => exact (z.ret R1).2
theorem d_not {f : Rho → T Bool} : ∀ σ H Q, tT C (notT f) σ H Q → tNot (tT C f) σ H Q := by
  rintro σ H Q ⟨G, ρ, b, R, h⟩
  refine ⟨G, ρ, b, R, (Go.bind R h).mono fun k G1 H1 c P j z => ?_⟩
  exact (z.2.ret z.1).2
def ifT (t : Rho → T Bool) (f g : Rho → T D) (ρ : Rho) : T D := (t ρ).bind fun k => if k then f ρ else g ρ
theorem d_if {t : Rho → T Bool} {f g : Rho → T D} : ∀ σ H Q, tD C (ifT t f g) σ H Q → tIf (tT C t) (tD C f) (tD C g) σ H Q := by
  rintro σ H Q ⟨G, ρ, b, R, h⟩
  refine ⟨G, ρ, b, R, (Go.bind R h).mono fun k G1 H1 c P j z => ?_⟩
  obtain ⟨R1, z⟩ := z
  cases k with
  | true => exact ⟨G1, ρ, c, R1, z.mono fun _ _ _ _ _ _ q => q.2⟩
  | false => exact ⟨G1, ρ, c, R1, z.mono fun _ _ _ _ _ _ q => q.2⟩
/-- a value's truth -/
def truth : D → T Bool
  | .none => .ret false
  | .bool k => .ret k
  | .int i => .ret (i != 0)
  | .str x => if x.length ≤ sizeLine then .ret ((x.length : Int) != 0) else .bad
  | .list ds => .ret !ds.isEmpty
  | .tuple ds => .ret !ds.isEmpty
  | .dict ((.dict _, _) :: _) => .bad
  | .dict ds => .ret !ds.isEmpty
theorem RDs.empty {O K G} : ∀ {xs : List V} {ds : List D}, RDs O K G xs ds → xs.isEmpty = ds.isEmpty
  | _, _, .nil => rfl
  | _, _, .cons _ _ => rfl
theorem d_truth {f : Rho → T D} : ∀ σ H Q, tT C (fun ρ => (f ρ).bind truth) σ H Q → (fun σ H Q => tD C f σ H fun x H' => ∃ k, TruV C.K x H' k ∧ Q k H') σ H Q := by
  rintro σ H Q ⟨G, ρ, b, R, h⟩
  refine ⟨G, ρ, b, R, (Go.bind R h).mono fun d G1 H1 c P j z v rv => ?_⟩
  obtain ⟨R1, z⟩ := z
  cases rv with
  | non => exact ⟨false, rfl, (z.ret R1).2⟩
  | bl k => exact ⟨k, rfl, (z.ret R1).2⟩
  | int i => exact ⟨_, rfl, (z.ret R1).2⟩
  | str x =>
    by_cases hx : x.length ≤ sizeLine
    · refine ⟨_, ⟨hx, rfl⟩, ?_⟩
      have z' : Go C σ G1 H1 ρ c (if x.length ≤ sizeLine then .ret ((x.length : Int) != 0) else .bad) _ := z
      rw [if_pos hx] at z'
      exact (z'.ret R1).2
    · have z' : Go C σ G1 H1 ρ c (if x.length ≤ sizeLine then .ret ((x.length : Int) != 0) else .bad) _ := z
      rw [if_neg hx] at z'
      exact z'.elim
  | lst e r => exact ⟨_, .inl ⟨_, SqL.of (R1.sub _ _ e), rfl⟩, by rw [r.empty]; exact (z.ret R1).2⟩
  | tup e r => exact ⟨_, .inr (.inl ⟨_, (e.mono R1.sub).T, rfl⟩), by rw [r.empty]; exact (z.ret R1).2⟩
  | dct e r =>
    cases r with
    | nil => exact ⟨_, .inr (.inr ⟨_, R1.sub _ _ e, rfl⟩), (z.ret R1).2⟩
    | cons r1 r2 =>
      rename_i k v kvs d ds
      refine ⟨_, .inr (.inr ⟨_, R1.sub _ _ e, rfl⟩), ?_⟩
      cases k with
      | inl i => exact (z.ret R1).2
      | inr i => exact (z.ret R1).2
  | opq o => exact z.elim
  | rng o => exact z.elim
end
end Y
namespace Y
open PySem PySem.Spec PyProof.Rows L2

section
variable {C : Ct} {σ : L2.St} {G H G' H' : Hp} {ρ : Rho} {b c : Nat} {α : Type}
theorem Go.retv {d : D} {Q : VK} {v : V} (h : Go C σ G H ρ b (.ret d) fun d G' H' _ => ∀ v, RD C.J.O C.K G' v d → Q v H') (R : Rel C G H ρ σ b) (r : RD C.J.O C.K G v d) : Q v H := h.ret R v r
/-- a new object of data -/
theorem Go.newv {d : D} {Q : VK} {p : Addr} {o : HO} (h : Go C σ G H ρ b (.ret d) fun d G' H' _ => ∀ v, RD C.J.O C.K G' v d → Q v H') (R : Rel C G H ρ σ b) (n : H p = none) (r : RD C.J.O C.K (upd G p o) (.ref p) d) : Q (.ref p) (upd H p o) := by
  refine h.to (.new R.sub n) (C.J.loc b H _ R.jar fun a ha => ?_) _ r
  rw [upd_ne]
  intro e
  subst e
  exact R.post.th a (R.jth a ha) n
theorem Go.newL {ds : List D} {xs : List V} {Q : VK} {p : Addr} (h : Go C σ G H ρ b (.ret (.list ds)) fun d G' H' _ => ∀ v, RD C.J.O C.K G' v d → Q v H') (R : Rel C G H ρ σ b) (n : H p = none) (r : RDs C.J.O C.K G xs ds) : Q (.ref p) (upd H p (.lst xs)) :=
  h.newv R n (.lst upd_same (r.mono (Post.new (fp := C.J.fp) R.sub n).gg))
theorem Go.newT {ds : List D} {xs : List V} {Q : VK} {p : Addr} {o : Obj} (h : Go C σ G H ρ b (.ret (.tuple ds)) fun d G' H' _ => ∀ v, RD C.J.O C.K G' v d → Q v H') (R : Rel C G H ρ σ b) (n : H p = none) (c : o.cls = .type "tuple") (d : o.dict = none) (r : RDs C.J.O C.K G xs ds) : Q (.ref p) (upd H p (.frz o (.tup xs))) :=
  h.newv R n (.tup (SqP.of upd_same c d) (r.mono (Post.new (fp := C.J.fp) R.sub n).gg))
/-- a new tuple at p -/
def NewT (H : Hp) (xs : List V) (Q : VK) : Prop := ∀ p o, H p = none → o.cls = .type "tuple" → o.dict = none → Q (.ref p) (upd H p (.frz o (.tup xs)))
theorem laidT {X : Cx} {pins : List (Addr × Obj)} {σ : L2.St} {H : Hp} {s : Shared} {xs : List V} {its : List Value} {Q : VK} {t : Nat} (I : Inv X pins σ H s) (r : Vals xs its) (z : xs.length ≤ sizeLine) (q : NewT H xs Q) :
    EP X pins σ Q (.ref s.heap.objs.size) { s with heap := s.heap.push { cls := .type "tuple", data := .seq its.toArray }, toks := t } :=
  ⟨.ref s.heap.objs.size, _, I.laid (t' := t) (o := .frz { cls := .type "tuple", data := .seq its.toArray } (.tup xs)) (fun b ob q => Heap.get?_push_of_some _ q) (Nat.le_refl _) ⟨Heap.get?_push_size _ rfl, z, its, r, IsTup.new _ _⟩, rfl, q _ _ (I.hok.fresh (Nat.le_refl _)) rfl rfl⟩
/-- t + u -/
def rCatP (K : PySem.W.Frag) : R2 := fun x y H Q => ∃ a b xs ys, x = .ref a ∧ y = .ref b ∧ SqP K H a xs ∧ SqP K H b ys ∧ xs.length + ys.length ≤ sizeLine ∧
  (xs = [] → Q (.ref b) H) ∧ (xs ≠ [] → ys = [] → Q (.ref a) H) ∧ (xs ≠ [] → ys ≠ [] → NewT H (xs ++ ys) Q)
theorem op_catP {X : Cx} : OpR X (binaryOp .Add) (rCatP X.K) := by
  intro pins s σ H x y v u Q I rx ry h
  obtain ⟨a, b, xs, ys, ex, ey, ha, hb, hz, q0, q1, q2⟩ := h
  subst ex ey
  cases rx
  cases ry
  obtain ⟨its, r1, p1, _⟩ := I.tuple ha.T
  obtain ⟨jts, r2, p2, _⟩ := I.tuple hb.T
  by_cases hx : xs = []
  · subst hx
    cases r1
    exact cat_tup0 p1 p2 ⟨.ref b, H, I, rfl, q0 rfl⟩
  · refine HT.cat_tup p1 p2 (fun z => hx (r1.nil_iff.mp z)) (fun z => ⟨.ref a, H, I, rfl, q1 hx (r2.nil_iff.mp z)⟩) (fun z => ?_) (by rw [← r1.length, ← r2.length]; exact hz)
    exact laidT I (r1.append r2) (by rw [List.length_append]; exact hz) (q2 hx fun w => z (r2.nil_iff.mpr w))
/-- (a, b, ..) -/
def tTupP (t : TA) : TE := fun σ H Q => t σ H fun xs H1 => xs.length ≤ sizeLine ∧ NewT H1 xs Q
theorem pe_tupP {X : Cx} {es : List Expr} {t : TA} {k} {pos : Pos} (h : PA X es t) : PE X (.Tuple es k pos) (tTupP t) := by
  refine ⟨fun pins s σ H Q I hq => wpAny_Tuple_spliced (thn (h.run pos pins s σ H _ I hq) fun us s1 ⟨xs, H1, I1, r, z, q⟩ => ⟨by rw [← r.length]; exact z, laidT (t := s1.toks) I1 r z q⟩)⟩
/-- asked ahead -/
def _root_.Y.ask {α : Type} (p : Prop) [Decidable p] (t : T α) : T α := if p then t else .bad
theorem Go.ask {p : Prop} [Decidable p] {t : T α} {Q : α → Hp → Hp → Nat → Prop} (h : Go C σ G H ρ b (Y.ask p t) Q) : p ∧ Go C σ G H ρ b t Q := by
  unfold Y.ask at h
  split at h
  · exact ⟨by assumption, h⟩
  · exact h.elim
theorem Go.bad {Q : α → Hp → Hp → Nat → Prop} (h : Go C σ G H ρ b (.bad : T α) Q) : False := h

/-! ### + - * // % -/
def pyAdd : D → D → T D
  | .int i, .int j => .ret (.int (i + j))
  | .str x, .str y => ask (x.length + y.length ≤ sizeLine) (.ret (.str (x ++ y)))
  | .list xs, .list ys => ask (xs.length + ys.length ≤ sizeLine) (.ret (.list (xs ++ ys)))
  | .tuple xs, .tuple ys => ask (xs.length + ys.length ≤ sizeLine) (.ret (.tuple (xs ++ ys)))
  | _, _ => .bad
def pySub : D → D → T D
  | .int i, .int j => .ret (.int (i - j))
  | _, _ => .bad
def pyMul : D → D → T D
  | .int i, .int j => ask ((-(2 ^ 64) < i ∧ i < 2 ^ 64) ∨ (-(2 ^ 64) < j ∧ j < 2 ^ 64)) (.ret (.int (i * j)))
  | _, _ => .bad
def pyMod : D → D → T D
  | .int i, .int j => ask (0 < j) (.ret (.int (i % j)))
  | _, _ => .bad
def pyDiv : D → D → T D
  | .int i, .int j => ask (0 < j ∧ j < 1073741824) (.ret (.int (i / j)))
  | _, _ => .bad
def pyPow : D → D → T D
  | .int i, .int j => ask (0 ≤ j ∧ j ≤ 1000000 ∧ i.natAbs < 2 ^ 64) (.ret (.int (i ^ j.toNat)))
  | _, _ => .bad
def pyNeg : D → T D
  | .int i => .ret (.int (-i))
  | _ => .bad
def rPlus (K : PySem.W.Frag) : R2 := fun x y H Q => rI0 (fun i j => .int (i + j)) x y H Q ∨
  (fun x y H Q => ∃ i j, x = .str i ∧ y = .str j ∧ i.length + j.length ≤ sizeLine ∧ Q (.str (i ++ j)) H : R2) x y H Q ∨ rCat x y H Q ∨ rCatP K x y H Q
theorem op_plus {X : Cx} : OpR X (binaryOp .Add) (rPlus X.K) := OpR.or op_add (OpR.or op_add_str (OpR.or op_cat op_catP))
theorem o_add : Op2 C (rPlus C.K) pyAdd := by
  intro σ G H ρ b x y d e Q R rx ry h
  cases rx with
  | int i =>
    cases ry with
    | int j => exact .inl ⟨i, j, rfl, rfl, h.retv R (.int _)⟩
    | _ => exact h.bad.elim
  | str i =>
    cases ry with
    | str j =>
      obtain ⟨hz, h⟩ := Go.ask h
      exact .inr (.inl ⟨i, j, rfl, rfl, hz, h.retv R (.str _)⟩)
    | _ => exact h.bad.elim
  | lst ea ra =>
    cases ry with
    | lst eb rb =>
      obtain ⟨hz, h⟩ := Go.ask h
      refine .inr (.inr (.inl ⟨_, _, _, _, rfl, rfl, R.sub _ _ ea, R.sub _ _ eb, by rw [ra.len, rb.len]; exact hz, fun p n => ?_⟩))
      exact h.newL R n (ra.app rb)
    | _ => exact h.bad.elim
  | tup ea ra =>
    cases ry with
    | tup eb rb =>
      rename_i a xs ds a' xs' ds'
      obtain ⟨hz, h⟩ := Go.ask h
      · refine .inr (.inr (.inr ⟨_, _, _, _, rfl, rfl, ea.mono R.sub, eb.mono R.sub, by rw [ra.len, rb.len]; exact hz, fun e0 => ?_, fun _ e0 => ?_, fun _ _ p o n hc hd => ?_⟩))
        · subst e0
          cases ra
          exact h.retv R (.tup eb rb)
        · subst e0
          cases rb
          rw [List.append_nil] at h
          exact h.retv R (.tup ea ra)
        · exact h.newT R n hc hd (ra.app rb)
    | _ => exact h.bad.elim
  | _ => cases ry <;> exact h.bad.elim
theorem o_sub : Op2 C (rI0 fun i j => .int (i - j)) pySub := by
  intro σ G H ρ b x y d e Q R rx ry h
  cases rx <;> cases ry <;> first | exact h.bad.elim | exact ⟨_, _, rfl, rfl, h.retv R (.int _)⟩
theorem o_mul : Op2 C (rI CMul fun i j => .int (i * j)) pyMul := by
  intro σ G H ρ b x y d e Q R rx ry h
  cases rx with
  | int i =>
    cases ry with
    | int j =>
      obtain ⟨hz, h⟩ := Go.ask h
      exact ⟨_, _, rfl, rfl, hz, h.retv R (.int _)⟩
    | _ => exact h.bad.elim
  | _ => cases ry <;> exact h.bad.elim
theorem o_mod : Op2 C (rI (fun _ j => 0 < j) fun i j => .int (i % j)) pyMod := by
  intro σ G H ρ b x y d e Q R rx ry h
  cases rx with
  | int i =>
    cases ry with
    | int j =>
      obtain ⟨hz, h⟩ := Go.ask h
      exact ⟨_, _, rfl, rfl, hz, h.retv R (.int _)⟩
    | _ => exact h.bad.elim
  | _ => cases ry <;> exact h.bad.elim
theorem o_div : Op2 C (rI CDiv fun i j => .int (i / j)) pyDiv := by
  intro σ G H ρ b x y d e Q R rx ry h
  cases rx with
  | int i =>
    cases ry with
    | int j =>
      obtain ⟨hz, h⟩ := Go.ask h
      exact ⟨_, _, rfl, rfl, hz, h.retv R (.int _)⟩
    | _ => exact h.bad.elim
  | _ => cases ry <;> exact h.bad.elim
theorem o_pow : Op2 C (rI CPow fun i j => .int (i ^ j.toNat)) pyPow := by
  intro σ G H ρ b x y d e Q R rx ry h
  cases rx with
  | int i =>
    cases ry with
    | int j =>
      obtain ⟨hz, h⟩ := Go.ask h
      exact ⟨_, _, rfl, rfl, hz, h.retv R (.int _)⟩
    | _ => exact h.bad.elim
  | _ => cases ry <;> exact h.bad.elim
theorem d_neg {f : Rho → T D} : ∀ σ H Q, tD C (fun ρ => (f ρ).bind pyNeg) σ H Q → tUn (rU fun i => .int (-i)) (tD C f) σ H Q := by
  rintro σ H Q ⟨G, ρ, b, R, h⟩
  refine ⟨G, ρ, b, R, (Go.bind R h).mono fun d G1 H1 c P j z v rv => ?_⟩
  cases rv <;> first | exact z.2.bad.elim | exact ⟨_, rfl, (z.2.ret z.1).2 _ (.int _)⟩

/-! ### comparisons -/
mutual
theorem dp_of {O : V → Int → Prop} {K : PySem.W.Frag} {G : Hp} : ∀ {v : V} {d : D}, RD O K G v d → d.canLay0 = true → Dp K G v d
  | _, _, .non, _ => .non
  | _, _, .bl b, _ => .bl b
  | _, _, .int i, _ => .int i
  | _, _, .str x, _ => .str x
  | _, _, .lst e r, h => .lst (SqL.of e) (dps_of r (by simpa only [PyData.canLay0] using h))
  | _, _, .tup e r, h => .tup e.T (dps_of r (by simpa only [PyData.canLay0] using h))
  | _, _, .dct e r, h => by simp only [PyData.canLay0] at h; cases h
  | _, _, .opq _, h => by simp only [hdl, PyData.canLay0] at h; cases h
  | _, _, .rng _, h => by simp only [rgD, PyData.canLay0] at h; cases h
theorem dps_of {O : V → Int → Prop} {K : PySem.W.Frag} {G : Hp} : ∀ {v : List V} {d : List D}, RDs O K G v d → PyData.canLayAll0 d = true → DpAll K G v d
  | _, _, .nil, _ => .nil
  | _, _, .cons r t, h => by
    simp only [PyData.canLayAll0, Bool.and_eq_true] at h
    exact .cons (dp_of r h.1) (dps_of t h.2)
end
mutual
theorem dp_mono {K : PySem.W.Frag} {G G' : Hp} (h : ∀ a o, G a = some o → G' a = some o) : ∀ {v : V} {d : D}, Dp K G v d → Dp K G' v d
  | _, _, .non => .non
  | _, _, .bl b => .bl b
  | _, _, .int i => .int i
  | _, _, .str x => .str x
  | _, _, .lst e r => .lst (by
    rcases e with (e | ⟨o, e⟩) | e
    · exact .inl (.inl (h _ _ e))
    · exact .inl (.inr ⟨o, h _ _ e⟩)
    · exact .inr e) (dps_mono h r)
  | _, _, .tup e r => .tup (sqt_mono h e) (dps_mono h r)
theorem dps_mono {K : PySem.W.Frag} {G G' : Hp} (h : ∀ a o, G a = some o → G' a = some o) : ∀ {v : List V} {d : List D}, DpAll K G v d → DpAll K G' v d
  | _, _, .nil => .nil
  | _, _, .cons r t => .cons (dp_mono h r) (dps_mono h t)
end
def pyEq (d e : D) : T D := ask (SeqAt.shaped d = true ∧ SeqAt.shaped e = true) (.ret (.bool (PyData.eqv d e)))
def pyNe (d e : D) : T D := ask (SeqAt.shaped d = true ∧ SeqAt.shaped e = true) (.ret (.bool (!PyData.eqv d e)))
theorem shaped_lay {d : D} (h : SeqAt.shaped d = true) : d.canLay0 = true := by
  unfold SeqAt.shaped at h
  rw [Bool.and_eq_true] at h
  exact h.1
theorem o_eq : Op2 C (rEqD C.K) pyEq := by
  intro σ G H ρ b x y d e Q R rx ry h
  obtain ⟨hs, h⟩ := Go.ask h
  · exact ⟨d, e, dp_mono R.sub (dp_of rx (shaped_lay hs.1)), dp_mono R.sub (dp_of ry (shaped_lay hs.2)), hs.1, hs.2, h.retv R (.bl _)⟩
theorem o_ne : Op2 C (rNeD C.K) pyNe := by
  intro σ G H ρ b x y d e Q R rx ry h
  obtain ⟨hs, h⟩ := Go.ask h
  · exact ⟨d, e, dp_mono R.sub (dp_of rx (shaped_lay hs.1)), dp_mono R.sub (dp_of ry (shaped_lay hs.2)), hs.1, hs.2, h.retv R (.bl _)⟩
def pyLt : D → D → T D
  | .int i, .int j => .ret (.bool (decide (i < j)))
  | _, _ => .bad
def pyLe : D → D → T D
  | .int i, .int j => .ret (.bool (decide (i ≤ j)))
  | _, _ => .bad
def pyGt : D → D → T D
  | .int i, .int j => .ret (.bool (decide (j < i)))
  | _, _ => .bad
def pyGe : D → D → T D
  | .int i, .int j => .ret (.bool (decide (j ≤ i)))
  | _, _ => .bad
theorem o_lt : Op2 C (rI0 fun i j => .bl (decide (i < j))) pyLt := by
  intro σ G H ρ b x y d e Q R rx ry h
  cases rx <;> cases ry <;> first | exact h.bad.elim | exact ⟨_, _, rfl, rfl, h.retv R (.bl _)⟩
theorem o_le : Op2 C (rI0 fun i j => .bl (decide (i ≤ j))) pyLe := by
  intro σ G H ρ b x y d e Q R rx ry h
  cases rx <;> cases ry <;> first | exact h.bad.elim | exact ⟨_, _, rfl, rfl, h.retv R (.bl _)⟩
theorem o_gt : Op2 C (rI0 fun i j => .bl (decide (j < i))) pyGt := by
  intro σ G H ρ b x y d e Q R rx ry h
  cases rx <;> cases ry <;> first | exact h.bad.elim | exact ⟨_, _, rfl, rfl, h.retv R (.bl _)⟩
theorem o_ge : Op2 C (rI0 fun i j => .bl (decide (j ≤ i))) pyGe := by
  intro σ G H ρ b x y d e Q R rx ry h
  cases rx <;> cases ry <;> first | exact h.bad.elim | exact ⟨_, _, rfl, rfl, h.retv R (.bl _)⟩
/-- is None -/
def isNon : D → Bool
  | .none => true
  | _ => false
def pyIs (d e : D) : T D := if isNon e then (match d with | .dict _ => .bad | _ => .ret (.bool (isNon d))) else .bad
def pyIsNot (d e : D) : T D := if isNon e then (match d with | .dict _ => .bad | _ => .ret (.bool (!isNon d))) else .bad
theorem o_is : Op2 C (fun x y H Q => y = .non ∧ Q (.bl (decide (x = .non))) H) pyIs := by
  intro σ G H ρ b x y d e Q R rx ry h
  cases ry <;> first | exact h.bad.elim | skip
  cases rx <;> first | exact h.bad.elim | exact ⟨rfl, by first | (rw [decide_eq_true rfl]; exact h.retv R (.bl _)) | (rw [decide_eq_false (fun z => by cases z)]; exact h.retv R (.bl _))⟩
theorem o_isnot : Op2 C (fun x y H Q => y = .non ∧ Q (.bl (!decide (x = .non))) H) pyIsNot := by
  intro σ G H ρ b x y d e Q R rx ry h
  cases ry <;> first | exact h.bad.elim | skip
  cases rx <;> first | exact h.bad.elim | exact ⟨rfl, by first | (rw [decide_eq_true rfl]; exact h.retv R (.bl _)) | (rw [decide_eq_false (fun z => by cases z)]; exact h.retv R (.bl _))⟩

/-! ### displays -/
theorem d_tup {f : Rho → T (List D)} : ∀ σ H Q, tD C (fun ρ => (f ρ).bind fun ds => ask (ds.length ≤ sizeLine) (.ret (.tuple ds))) σ H Q → tTupP (tA C f) σ H Q := by
  rintro σ H Q ⟨G, ρ, b, R, h⟩
  refine ⟨G, ρ, b, R, (Go.bind R h).mono fun ds G1 H1 c P j z vs rs => ?_⟩
  obtain ⟨R1, z⟩ := z
  obtain ⟨hz, z⟩ := Go.ask z
  · refine ⟨by rw [rs.len]; exact hz, fun p o n hc hd => ?_⟩
    exact (z.mono fun _ _ _ _ _ _ q => q.2).newT R1 n hc hd rs
theorem d_lst {f : Rho → T (List D)} : ∀ σ H Q, tD C (fun ρ => (f ρ).bind fun ds => ask (ds.length ≤ sizeLine) (.ret (.list ds))) σ H Q → tLst (tA C f) σ H Q := by
  rintro σ H Q ⟨G, ρ, b, R, h⟩
  refine ⟨G, ρ, b, R, (Go.bind R h).mono fun ds G1 H1 c P j z vs rs => ?_⟩
  obtain ⟨R1, z⟩ := z
  obtain ⟨hz, z⟩ := Go.ask z
  · refine ⟨by rw [rs.len]; exact hz, fun p n => ?_⟩
    exact (z.mono fun _ _ _ _ _ _ q => q.2).newL R1 n rs
end
end Y
namespace Y
open PySem PySem.Spec PyProof.Rows L2

/-! ### statements -/
inductive Out where
  | nx (ρ : Rho)
  | rt (d : D)
  | bk (ρ : Rho)
  | ct (ρ : Rho)
  | xc (ev : Ev) (ρ : Rho)
abbrev Gr (G G' : Hp) : Prop := ∀ a o, G a = some o → G' a = some o
def Fin (C : Ct) (Dn : Ends) (G : Hp) (o : Out) (c : Nat) : Prop := match o with
  | .nx ρ' => ∀ σ' G' H', Gr G G' → Rel C G' H' ρ' σ' c → Dn.nx σ' H'
  | .rt d => ∀ v G' H', Post C.J.fp C.G0 C.H0 G' H' → C.J.ok c H' → RD C.J.O C.K G' v d → Dn.rt v H'
  | .bk ρ' => ∀ σ' G' H', Gr G G' → Rel C G' H' ρ' σ' c → Dn.bk σ' H'
  | .ct ρ' => ∀ σ' G' H', Gr G G' → Rel C G' H' ρ' σ' c → Dn.ct σ' H'
  | .xc ev ρ' => ∀ cl od σ' G' H', Rel C G' H' ρ' σ' c → Exc C ev cl od G' H' → C.W cl od σ' H'
abbrev Ok (C : Ct) (Dn : Ends) (G : Hp) (t : T Out) (b : Nat) : Prop := t.sat b (Fin C Dn G) fun _ _ => False
def tS (C : Ct) (F : Rho → T Out) : TS := fun Dn σ H => ∃ G ρ b, Rel C G H ρ σ b ∧ Ok C Dn G (F ρ) b
def atS {α : Type} (f : Rho → T α) (k : Rho → α → T Out) (ρ : Rho) : T Out := (f ρ).attempt.bind fun
  | .ok a => k ρ a
  | .error ev => .ret (.xc ev ρ)
theorem Gr.refl (G : Hp) : Gr G G := fun _ _ e => e
theorem Gr.trans {G G' G'' : Hp} (x : Gr G G') (y : Gr G' G'') : Gr G G'' := fun a o e => y a o (x a o e)
section
variable {C : Ct} {σ : L2.St} {G H G' H' : Hp} {ρ : Rho} {b c : Nat} {α : Type} {Dn : Ends}
theorem Fin.up {o : Out} (g : Gr G G') (h : Fin C Dn G o c) : Fin C Dn G' o c := by
  cases o with
  | nx ρ' => exact fun σ' G'' H' q => h σ' G'' H' (g.trans q)
  | rt d => exact h
  | bk ρ' => exact fun σ' G'' H' q => h σ' G'' H' (g.trans q)
  | ct ρ' => exact fun σ' G'' H' q => h σ' G'' H' (g.trans q)
  | xc ev ρ' => exact h
theorem Ok.up {t : T Out} (g : Gr G G') (h : Ok C Dn G t b) : Ok C Dn G' t b := T.sat_mono (fun _ _ z => z.up g) (fun _ _ z => z) h
theorem S_go {f : Rho → T α} {k : Rho → α → T Out} (R : Rel C G H ρ σ b) (h : Ok C Dn G (atS f k ρ) b) : Go C σ G H ρ b (f ρ) fun a G' H' c => Rel C G' H' ρ σ c ∧ Ok C Dn G' (k ρ a) c := by
  refine T.sat_mono (fun a c q G1 H1 P j => ⟨R.step P j, Ok.up P.gg q⟩) (fun ev c q cl od G1 H1 R1 x => q cl od σ G1 H1 R1 x) (T.sat_attempt (T.sat_bind h))
theorem Rel.set (R : Rel C G H ρ σ b) {i : Nat} {v : V} {d : D} (r : RD C.J.O C.K G v d) : Rel C G H (ρ.set i (.dt d)) (σ.set i (some v)) b := by
  obtain ⟨α, ho, hi⟩ := R.own
  have back : ∀ (k : Nat) (es : List D), (ρ.set i (S.dt d))[k]? = some (S.ow es) → i ≠ k ∧ ρ[k]? = some (S.ow es) := fun k es e => by
    by_cases hk : i = k
    · subst hk
      rw [List.getElem?_set] at e
      simp only [if_true] at e
      split at e <;> cases e
    · rw [List.getElem?_set_ne hk] at e
      exact ⟨hk, e⟩
  refine ⟨R.post, R.jar, R.jfr, R.jth, ⟨α, fun k es e => ?_, fun k l es fs e1 e2 => hi k l es fs (back k es e1).2 (back l fs e2).2⟩, fun k e h => ?_, ?_⟩
  · obtain ⟨h1, h2⟩ := back k es e
    obtain ⟨q1, q2⟩ := ho k es h2
    exact ⟨by rw [List.getElem?_set_ne h1]; exact q1, q2⟩
  · by_cases hk : i = k
    · subst hk
      have hl : i < ρ.length := by
        have := (List.getElem?_eq_some_iff.mp h).1
        rwa [List.length_set] at this
      rw [List.getElem?_set_self hl] at h
      cases h
      exact ⟨v, List.getElem?_set_self (by rw [← R.len]; exact hl), r⟩
    · rw [List.getElem?_set_ne hk] at h
      obtain ⟨w, q1, q2⟩ := R.dat k e h
      exact ⟨w, by rw [List.getElem?_set_ne hk]; exact q1, q2⟩
  · rw [List.length_set, List.length_set]
    exact R.len
/-- a slot is forgotten -/
theorem Rel.setU (R : Rel C G H ρ σ b) {i : Nat} (x : Option V) : Rel C G H (ρ.set i .un) (σ.set i x) b := by
  obtain ⟨α, ho, hi⟩ := R.own
  have back : ∀ (k : Nat) (u : S), u ≠ .un → (ρ.set i S.un)[k]? = some u → i ≠ k ∧ ρ[k]? = some u := fun k u nu e => by
    by_cases hk : i = k
    · subst hk
      rw [List.getElem?_set] at e
      simp only [if_true] at e
      split at e
      · cases e; exact absurd rfl nu
      · cases e
    · rw [List.getElem?_set_ne hk] at e
      exact ⟨hk, e⟩
  refine ⟨R.post, R.jar, R.jfr, R.jth, ⟨α, fun k es e => ?_, fun k l es fs e1 e2 => hi k l es fs (back k _ (by simp) e1).2 (back l _ (by simp) e2).2⟩, fun k e h => ?_, ?_⟩
  · obtain ⟨h1, h2⟩ := back k _ (by simp) e
    obtain ⟨q1, q2⟩ := ho k es h2
    exact ⟨by rw [List.getElem?_set_ne h1]; exact q1, q2⟩
  · obtain ⟨h1, h2⟩ := back k _ (by simp) h
    obtain ⟨w, q1, q2⟩ := R.dat k e h2
    exact ⟨w, by rw [List.getElem?_set_ne h1]; exact q1, q2⟩
  · rw [List.length_set, List.length_set]
    exact R.len

def asgS (i : Nat) (f : Rho → T D) : Rho → T Out := atS f fun ρ d => .ret (.nx (ρ.set i (.dt d)))
def retS (f : Rho → T D) : Rho → T Out := atS f fun _ d => .ret (.rt d)
def dropS (f : Rho → T D) : Rho → T Out := atS f fun ρ _ => .ret (.nx ρ)
def seqS (F K : Rho → T Out) (ρ : Rho) : T Out := (F ρ).bind fun
  | .nx ρ' => K ρ'
  | o => .ret o
def ifS (t : Rho → T Bool) (A B : Rho → T Out) : Rho → T Out := atS t fun ρ k => if k then A ρ else B ρ
theorem s_asg {i : Nat} {f : Rho → T D} : ∀ Dn σ H, tS C (asgS i f) Dn σ H → tAsg (tD C f) (gName i) Dn σ H := by
  rintro Dn σ H ⟨G, ρ, b, R, h⟩
  exact ⟨G, ρ, b, R, (S_go R h).mono fun d G1 H1 c P j z v r => z.2 _ _ _ (Gr.refl _) (z.1.set r)⟩
theorem s_ret {f : Rho → T D} : ∀ Dn σ H, tS C (retS f) Dn σ H → tRet (tD C f) Dn σ H := by
  rintro Dn σ H ⟨G, ρ, b, R, h⟩
  exact ⟨G, ρ, b, R, (S_go R h).mono fun d G1 H1 c P j z v r => z.2 _ _ _ z.1.post z.1.jar r⟩
theorem s_retN : ∀ Dn σ H, tS C (fun _ => .ret (.rt .none)) Dn σ H → tRetN Dn σ H := by
  rintro Dn σ H ⟨G, ρ, b, R, h⟩
  exact h _ G H R.post R.jar .non
theorem s_drop {f : Rho → T D} : ∀ Dn σ H, tS C (dropS f) Dn σ H → tDrop (tD C f) Dn σ H := by
  rintro Dn σ H ⟨G, ρ, b, R, h⟩
  exact ⟨G, ρ, b, R, (S_go R h).mono fun d G1 H1 c P j z v r => z.2 _ _ _ (Gr.refl _) z.1⟩
theorem s_if {t : Rho → T Bool} {A B : Rho → T Out} : ∀ Dn σ H, tS C (ifS t A B) Dn σ H → tIfS (tT C t) (tS C A) (tS C B) Dn σ H := by
  rintro Dn σ H ⟨G, ρ, b, R, h⟩
  refine ⟨G, ρ, b, R, (S_go R h).mono fun k G1 H1 c P j z => ?_⟩
  cases k with
  | true => exact ⟨G1, ρ, c, z⟩
  | false => exact ⟨G1, ρ, c, z⟩
theorem s_seq {F K : Rho → T Out} : ∀ Dn σ H, tS C (seqS F K) Dn σ H → tSeq (tS C F) (tS C K) Dn σ H := by
  rintro Dn σ H ⟨G, ρ, b, R, h⟩
  refine ⟨G, ρ, b, R, T.sat_mono (fun o c z => ?_) (fun _ _ z => z) (T.sat_bind h)⟩
  cases o with
  | nx ρ' => exact fun σ' G' H' g R' => ⟨G', ρ', c, R', Ok.up g z⟩
  | rt d => exact z
  | bk ρ' => exact z
  | ct ρ' => exact z
  | xc ev ρ' => exact z
def skipS (ρ : Rho) : T Out := .ret (.nx ρ)
theorem s_next : ∀ Dn σ H, tS C skipS Dn σ H → tNext Dn σ H := by
  rintro Dn σ H ⟨G, ρ, b, R, h⟩
  exact h σ G H (Gr.refl _) R
theorem s_break : ∀ Dn σ H, tS C (fun ρ => .ret (.bk ρ)) Dn σ H → tBreak Dn σ H := by
  rintro Dn σ H ⟨G, ρ, b, R, h⟩
  exact h σ G H (Gr.refl _) R
theorem s_cont : ∀ Dn σ H, tS C (fun ρ => .ret (.ct ρ)) Dn σ H → tCont Dn σ H := by
  rintro Dn σ H ⟨G, ρ, b, R, h⟩
  exact h σ G H (Gr.refl _) R

/-! ### a list of ours becomes data, or is made -/
/-- the slots where a list of ours stands that is data from now on -/
def frz (i : Nat) (ρ : Rho) : Rho := match ρ[i]? with
  | some (.ow ds) => ρ.set i (.dt (.list ds))
  | _ => ρ
theorem Rel.frz (R : Rel C G H ρ σ b) (i : Nat) : ∃ G', Gr G G' ∧ Rel C G' H (Y.frz i ρ) σ b := by
  unfold Y.frz
  split
  · rename_i ds e
    obtain ⟨α, ho, hi⟩ := R.own
    obtain ⟨e1, e2, e3, xs, e4, e5⟩ := ho i ds e
    have P : Post C.J.fp C.G0 C.H0 (upd G (α i) (.lst xs)) H := .give R.sub R.post e4 e3
    have gg : ∀ a o, G a = some o → (upd G (α i) (.lst xs)) a = some o := fun a o q => by
      rw [upd_ne (ne_of_none q e2)]; exact q
    have back : ∀ (k : Nat) (es : List D), (ρ.set i (S.dt (.list ds)))[k]? = some (S.ow es) → i ≠ k ∧ ρ[k]? = some (S.ow es) := fun k es e => by
      by_cases hk : i = k
      · subst hk
        rw [List.getElem?_set] at e
        simp only [if_true] at e
        split at e <;> cases e
      · rw [List.getElem?_set_ne hk] at e
        exact ⟨hk, e⟩
    have ne : ∀ (k : Nat) (es : List D), i ≠ k → ρ[k]? = some (S.ow es) → α k ≠ α i := fun k es hk q z => hk (hi i k ds es e q z.symm)
    refine ⟨upd G (α i) (.lst xs), gg, P, R.jar, fun a ha => ?_, R.jth, ⟨α, fun k es q => ?_, fun k l es fs q1 q2 => hi k l es fs (back k es q1).2 (back l fs q2).2⟩, fun k d q => ?_, by rw [List.length_set]; exact R.len⟩
    · rw [upd_ne (fun z => R.jth a ha (by rw [z]; exact e3))]
      exact R.jfr a ha
    · obtain ⟨hk, q'⟩ := back k es q
      obtain ⟨f1, f2, f3, ys, f4, f5⟩ := ho k es q'
      exact ⟨f1, by rw [upd_ne (ne k es hk q')]; exact f2, f3, ys, f4, f5.mono gg⟩
    · by_cases hk : i = k
      · subst hk
        have hl : i < ρ.length := (List.getElem?_eq_some_iff.mp e).1
        rw [List.getElem?_set_self hl] at q
        cases q
        exact ⟨_, e1, .lst upd_same (e5.mono gg)⟩
      · rw [List.getElem?_set_ne hk] at q
        obtain ⟨v, q1, q2⟩ := R.dat k d q
        exact ⟨v, q1, q2.mono gg⟩
  · exact ⟨G, Gr.refl _, R⟩
theorem s_frz {F : Rho → T Out} {t : TS} (i : Nat) (h : ∀ Dn σ H, tS C F Dn σ H → t Dn σ H) : ∀ Dn σ H, tS C (fun ρ => F (frz i ρ)) Dn σ H → t Dn σ H := by
  rintro Dn σ H ⟨G, ρ, b, R, q⟩
  obtain ⟨G', g, R'⟩ := R.frz i
  exact h Dn σ H ⟨G', _, b, R', Ok.up g q⟩
/-- a new list of ours is stored -/
theorem Rel.setO (R : Rel C G H ρ σ b) {i : Nat} {p : Addr} {xs : List V} {ds : List D} (g : G p = none) (h0 : C.H0 p = none) (e : H p = some (.lst xs)) (r : RDs C.J.O C.K G xs ds)
    (nw : ∀ (k : Nat) (es : List D), i ≠ k → ρ[k]? = some (S.ow es) → σ[k]? ≠ some (some (.ref p))) : Rel C G H (ρ.set i (.ow ds)) (σ.set i (some (.ref p))) b := by
  obtain ⟨α, ho, hi⟩ := R.own
  have back : ∀ (k : Nat) (u : S), i ≠ k → (ρ.set i (S.ow ds))[k]? = some u → ρ[k]? = some u := fun k u hk e => by
    rwa [List.getElem?_set_ne hk] at e
  refine ⟨R.post, R.jar, R.jfr, R.jth, ⟨fun k => if k = i then p else α k, fun k es q => ?_, fun k l es fs q1 q2 z => ?_⟩, fun k d q => ?_, by rw [List.length_set, List.length_set]; exact R.len⟩
  · by_cases hk : i = k
    · subst hk
      have hl : i < ρ.length := by
        have := (List.getElem?_eq_some_iff.mp q).1
        rwa [List.length_set] at this
      rw [List.getElem?_set_self hl] at q
      cases q
      simp only [if_true]
      exact ⟨List.getElem?_set_self (by rw [← R.len]; exact hl), g, h0, xs, e, r⟩
    · show (σ.set i _)[k]? = some (some (V.ref (if k = i then p else α k))) ∧ G (if k = i then p else α k) = none ∧ C.H0 (if k = i then p else α k) = none ∧ ∃ xs, H (if k = i then p else α k) = some (.lst xs) ∧ _
      rw [if_neg (Ne.symm hk), List.getElem?_set_ne hk]
      exact ho k es (back k _ hk q)
  · have z : (if k = i then p else α k) = (if l = i then p else α l) := z
    by_cases hk : k = i
    · by_cases hl : l = i
      · rw [hk, hl]
      · rw [if_pos hk, if_neg hl] at z
        have q := back l _ (Ne.symm hl) q2
        exact absurd (by rw [z]; exact (ho l fs q).1) (nw l fs (Ne.symm hl) q)
    · by_cases hl : l = i
      · rw [if_neg hk, if_pos hl] at z
        have q := back k _ (Ne.symm hk) q1
        exact absurd (by rw [← z]; exact (ho k es q).1) (nw k es (Ne.symm hk) q)
      · rw [if_neg hk, if_neg hl] at z
        exact hi k l es fs (back k _ (Ne.symm hk) q1) (back l _ (Ne.symm hl) q2) z
  · by_cases hk : i = k
    · subst hk
      have hl : i < ρ.length := by
        have := (List.getElem?_eq_some_iff.mp q).1
        rwa [List.length_set] at this
      rw [List.getElem?_set_self hl] at q
      cases q
    · obtain ⟨v, q1, q2⟩ := R.dat k d (back k _ hk q)
      exact ⟨v, by rw [List.getElem?_set_ne hk]; exact q1, q2⟩
def asgO (i : Nat) (f : Rho → T (List D)) : Rho → T Out := atS f fun ρ ds => .ret (.nx (ρ.set i (.ow ds)))
theorem s_asgO {i : Nat} {f : Rho → T (List D)} : ∀ Dn σ H, tS C (asgO i f) Dn σ H → tAsg (tL C f) (gName i) Dn σ H := by
  rintro Dn σ H ⟨G, ρ, b, R, h⟩
  refine ⟨G, ρ, b, R, (S_go R h).mono fun ds G1 H1 c P j z p xs n g e r => z.2 _ _ _ (Gr.refl _) (z.1.setO g ?_ e r fun k es hk q z2 => ?_)⟩
  · cases q : C.H0 p with
    | none => rfl
    | some o => exact absurd n (R.post.th p (by rw [q]; simp))
  · obtain ⟨α, ho, _⟩ := R.own
    obtain ⟨f1, _, _, ys, f4, _⟩ := ho k es q
    rw [f1] at z2
    cases z2
    rw [n] at f4
    cases f4
/-- an object of ours changes -/
theorem Rel.mut (R : Rel C G H ρ σ b) {i : Nat} {ds es : List D} {p : Addr} {ys : List V} (e : ρ[i]? = some (S.ow ds)) (hp : σ[i]? = some (some (.ref p))) (r : RDs C.J.O C.K G ys es) : Rel C G (upd H p (.lst ys)) (ρ.set i (.ow es)) σ b := by
  obtain ⟨α, ho, hi⟩ := R.own
  obtain ⟨e1, e2, e3, xs, e4, e5⟩ := ho i ds e
  rw [hp] at e1
  have ep : p = α i := by cases e1; rfl
  subst ep
  have np : ∀ a o, G a = some o → a ≠ α i := fun a o q z => by rw [z, e2] at q; cases q
  have hl : i < ρ.length := (List.getElem?_eq_some_iff.mp e).1
  have P : Post C.J.fp C.G0 C.H0 G (upd H (α i) (.lst ys)) := ⟨R.post.gg, fun a o q => by rw [upd_ne (np a o q)]; exact R.sub a o q,
    fun a o nf q => by
      rw [upd_ne (ne_of_none q e3)]
      exact R.post.hh a o nf q, fun a q => by
      by_cases h : a = α i
      · rw [h, upd_same]; simp
      · rw [upd_ne h]; exact R.post.th a q, R.post.fr⟩
  refine ⟨P, C.J.loc b H _ R.jar fun a ha => upd_ne fun z => R.jth a ha (by rw [z]; exact e3), R.jfr, R.jth, ⟨α, fun k fs q => ?_, fun k l fs gs q1 q2 z => ?_⟩, fun k d q => ?_, by rw [List.length_set]; exact R.len⟩
  · by_cases hk : i = k
    · subst hk
      rw [List.getElem?_set_self hl] at q
      cases q
      exact ⟨hp, e2, e3, ys, upd_same, r⟩
    · rw [List.getElem?_set_ne hk] at q
      obtain ⟨f1, f2, f3, zs, f4, f5⟩ := ho k fs q
      exact ⟨f1, f2, f3, zs, by rw [upd_ne (fun z => hk (hi i k ds fs e q z.symm))]; exact f4, f5⟩
  · have bk : ∀ (k : Nat) (fs : List D), (ρ.set i (S.ow es))[k]? = some (S.ow fs) → ∃ fs', ρ[k]? = some (S.ow fs') := fun k fs q => by
      by_cases hk : i = k
      · subst hk; exact ⟨ds, e⟩
      · rw [List.getElem?_set_ne hk] at q; exact ⟨fs, q⟩
    obtain ⟨fs', q1⟩ := bk k fs q1
    obtain ⟨gs', q2⟩ := bk l gs q2
    exact hi k l fs' gs' q1 q2 z
  · by_cases hk : i = k
    · subst hk
      rw [List.getElem?_set_self hl] at q
      cases q
    · rw [List.getElem?_set_ne hk] at q
      exact R.dat k d q
end
end Y
namespace Y
open PySem PySem.Spec PyProof.Rows L2

/-! ### a def of the text -/
def ini (n : Nat) (ds : List D) : Rho := ds.map S.dt ++ List.replicate (n - ds.length) .un
def fin (t : T Out) : T D := t.attempt.bind fun
  | .ok (.rt d) => .ret d
  | .ok (.nx _) => .ret .none
  | .ok (.xc ev _) => .exc ev
  | _ => .bad
/-- what a body does with its arguments -/
def run (n : Nat) (F : Rho → T Out) (ds : List D) : T D := fin (F (ini n ds))
theorem ini_get {n : Nat} {ds : List D} {i : Nat} {u : S} (h : (ini n ds)[i]? = some u) : u = .un ∨ ∃ d, u = .dt d ∧ ds[i]? = some d := by
  unfold ini at h
  by_cases hi : i < ds.length
  · rw [List.getElem?_append_left (by simpa using hi), List.getElem?_map] at h
    cases e : ds[i]? with
    | none => rw [e] at h; cases h
    | some d => rw [e] at h; cases h; exact .inr ⟨d, rfl, rfl⟩
  · rw [List.getElem?_append_right (by simpa using hi), List.getElem?_replicate] at h
    split at h
    · cases h; exact .inl rfl
    · cases h
theorem rel_ini {C : Ct} {b : Nat} {N : List Str} {vs : List V} {ds : List D} (sub : ∀ a o, C.G0 a = some o → C.H0 a = some o) (j : C.J.ok b C.H0) (jf : ∀ a, C.J.fp a → C.G0 a = none ∧ C.H0 a ≠ none) (r : RDs C.J.O C.K C.G0 vs ds) :
    Rel C C.G0 C.H0 (ini N.length ds) (L2.start N vs) b := by
  have no : ∀ (i : Nat) (es : List D), (ini N.length ds)[i]? ≠ some (S.ow es) := fun i es e => by
    rcases ini_get e with q | ⟨d, q, _⟩ <;> cases q
  refine ⟨.refl sub, j, fun a h => (jf a h).1, fun a h => (jf a h).2, ⟨fun _ => 0, fun i es e => (no i es e).elim, fun i k es fs e => (no i es e).elim⟩, fun i d e => ?_, ?_⟩
  · rcases ini_get e with q | ⟨d', q, h⟩
    · cases q
    · cases q
      obtain ⟨v, h1, h2⟩ := r.get h
      refine ⟨v, ?_, h2⟩
      unfold L2.start
      have hi : i < vs.length := (List.getElem?_eq_some_iff.mp h1).1
      rw [List.getElem?_append_left (by simpa using hi), List.getElem?_map, h1]
      rfl
  · unfold ini L2.start
    rw [List.length_append, List.length_append, List.length_map, List.length_map, List.length_replicate, List.length_replicate, r.len]
/-- the context of a body -/
abbrev ctOf (J : Jr) (K : PySem.W.Frag) (mg : Str → Option Value) (G H : Hp) (E : XK) : Ct := ⟨J, K, mg, G, H, fun c d _ H' => E c d H'⟩
section
variable {P : Program} {w : World} {J : Jr} {K : PySem.W.Frag} {mg : Str → Option Value} {base : Heap} {x qual : Str} {st : Stmt} {f : Addr} {fd : FuncData} {N ps : List Str} {k : Nat}
theorem fnD_of (F : Fun K x qual st f fd) (S : FnScope N ps (defScope st)) (Fb : Rho → T Out)
    (hb : ∀ (G : Hp) (cdv : Value) (A : Around) (l : List Env) (s : Shared) (H : Hp) (E : XK), Room k (cxOf (L2.CX P w) P w K mg base N qual (defScope st) f cdv A l s H E).A → (cxOf (L2.CX P w) P w K mg base N qual (defScope st) f cdv A l s H E).A.guards = some [] →
      Takes (cxOf (L2.CX P w) P w K mg base N qual (defScope st) f cdv A l s H E) (ctOf J K mg G H E).W → PSs (cxOf (L2.CX P w) P w K mg base N qual (defScope st) f cdv A l s H E) (defBody st) (tS (ctOf J K mg G H E) Fb)) :
    FnD P w J K mg base (k + 1) f fd ps (run N.length Fb) := by
  refine fnG_of F S (fun vs H Q E h => h.1) fun cdv A l s H vs Q E hr hg h => ?_
  obtain ⟨hn, G, b, ds, sub, j, jf, r, h⟩ := h
  refine ⟨_, hb G cdv A l s H E hr hg (takes_of rfl rfl rfl rfl), G, _, b, rel_ini (C := ctOf J K mg G H E) sub j jf r, ?_⟩
  have h2 := T.sat_attempt (T.sat_bind h)
  refine T.sat_mono (fun o c z => ?_) (fun e c z => z.elim) h2
  cases o with
  | nx ρ' => exact fun σ' G' H' _ R => z .non G' H' R.post R.jar .non
  | rt d => exact z
  | bk ρ' => exact z.elim
  | ct ρ' => exact z.elim
  | xc ev ρ' => exact fun cl od σ' G' H' R e => z cl od G' H' R.post R.jar e
end

/-! ### lists of ours -/
section
variable {X : Cx} {C : Ct} {σ : L2.St} {G H G' H' : Hp} {ρ : Rho} {b c : Nat} {Dn : Ends}
theorem Rel.own_at (R : Rel C G H ρ σ b) {i : Nat} {ds : List D} (e : ρ[i]? = some (S.ow ds)) : ∃ p xs, σ[i]? = some (some (.ref p)) ∧ G p = none ∧ C.H0 p = none ∧ H p = some (.lst xs) ∧ RDs C.J.O C.K G xs ds := by
  obtain ⟨α, ho, _⟩ := R.own
  obtain ⟨h1, h2, h3, xs, h4, h5⟩ := ho i ds e
  exact ⟨α i, xs, h1, h2, h3, h4, h5⟩
def appS (i : Nat) (f : Rho → T D) : Rho → T Out := atS f fun ρ d => match ρ[i]? with
  | some (.ow ds) => ask (ds.length < sizeLine) (.ret (.nx (ρ.set i (.ow (ds ++ [d])))))
  | _ => .bad
/-- xs.append(e) -/
theorem s_app {i : Nat} {f : Rho → T D} : ∀ Dn σ H, tS C (fun ρ => match ρ[i]? with | some (.ow _) => appS i f ρ | _ => .bad) Dn σ H → tDrop (tBM C.K "list" rAppend (tVar i) (tCons (tD C f) tNil)) Dn σ H := by
  rintro Dn σ H ⟨G, ρ, b, R, h⟩
  dsimp only at h
  split at h
  · rename_i ds e
    obtain ⟨p, xs, h1, _, _, h4, h5⟩ := R.own_at e
    refine ⟨_, h1, .inl ⟨rfl, xs, SqL.of h4⟩, G, ρ, b, R, (S_go R h).mono fun d G1 H1 c P j z v r => ?_⟩
    obtain ⟨R1, z⟩ := z
    obtain ⟨p', xs', q1, _, _, q4, q5⟩ := R1.own_at e
    rw [h1] at q1
    cases q1
    rw [e] at z
    unfold Ok ask at z
    dsimp only at z
    split at z
    · rename_i hz
      exact ⟨p, xs', v, rfl, rfl, q4, by rw [q5.len]; exact hz, z _ _ _ (Gr.refl _) (R1.mut e h1 (q5.app (.one r)))⟩
    · exact z.elim
  · exact h.elim
def setSt (i : Nat) (f g : Rho → T D) : Rho → T Out := atS (fun ρ => (f ρ).bind fun d => (g ρ).bind fun k => .ret (d, k)) fun ρ dk => match ρ[i]?, dk.2 with
  | some (.ow ds), .int k => match ixN ds.length k with
    | some j => .ret (.nx (ρ.set i (.ow (ds.set j dk.1))))
    | none => .bad
  | _, _ => .bad
/-- xs[k] = e -/
theorem s_setL {i : Nat} {f g : Rho → T D} : ∀ Dn σ H, tS C (fun ρ => match ρ[i]? with | some (.ow _) => setSt i f g ρ | _ => .bad) Dn σ H → tAsg (tD C f) (gSub (tVar i) (tD C g) rSetL) Dn σ H := by
  rintro Dn σ H ⟨G, ρ, b, R, h⟩
  dsimp only at h
  split at h
  · rename_i ds e
    obtain ⟨p, xs, h1, _, _, h4, h5⟩ := R.own_at e
    refine ⟨G, ρ, b, R, (Go.bind R (S_go R h)).mono fun d G1 H1 c P j z v r => ⟨_, h1, ?_⟩⟩
    obtain ⟨R1, z⟩ := z
    refine ⟨G1, ρ, c, R1, (Go.bind R1 z).mono fun k G2 H2 c2 P2 j2 z2 w rw => ?_⟩
    obtain ⟨R2, z2⟩ := z2
    obtain ⟨_, _, R3, z3⟩ := z2.ret R2
    obtain ⟨p', xs', q1, _, _, q4, q5⟩ := R2.own_at e
    rw [h1] at q1
    cases q1
    rw [e] at z3
    cases rw with
    | int k =>
      have z3 : Ok C Dn G2 (match ixN ds.length k with | some j => .ret (.nx (ρ.set i (.ow (ds.set j d)))) | none => .bad) c2 := z3
      split at z3
      · rename_i j hj
        exact ⟨p, xs', k, j, rfl, rfl, q4, by rw [q5.len]; exact hj, z3 _ _ _ (Gr.refl _) (R2.mut e h1 (q5.set j (r.mono P2.gg)))⟩
      · exact z3.elim
    | _ => exact z3.elim
  · exact h.elim

/-! ### targets -/
/-- but for the slots vs -/
def Sl (vs : List Nat) (σ σ' : L2.St) : Prop := σ'.length = σ.length ∧ ∀ k, k ∉ vs → σ'[k]? = σ[k]?
theorem Sl.refl {vs : List Nat} {σ : L2.St} : Sl vs σ σ := ⟨rfl, fun _ _ => rfl⟩
theorem Sl.trans {vs : List Nat} {σ σ' σ'' : L2.St} (x : Sl vs σ σ') (y : Sl vs σ' σ'') : Sl vs σ σ'' := ⟨y.1.trans x.1, fun k h => (y.2 k h).trans (x.2 k h)⟩
def gD (C : Ct) (vs : List Nat) (g : D → Rho → Option Rho) : TG := fun v σ H Q => ∃ G ρ b d ρ', Rel C G H ρ σ b ∧ RD C.J.O C.K G v d ∧ g d ρ = some ρ' ∧ ∀ σ', Rel C G H ρ' σ' b → Sl vs σ σ' → Q σ' H
def gsD (C : Ct) (vs : List Nat) (g : List D → Rho → Option Rho) : TGs := fun ws σ H Q => ∃ G ρ b ds ρ', Rel C G H ρ σ b ∧ RDs C.J.O C.K G ws ds ∧ g ds ρ = some ρ' ∧ ∀ σ', Rel C G H ρ' σ' b → Sl vs σ σ' → Q σ' H
theorem PGto {X : Cx} {e : Expr} {t t' : TG} (h : PG X e t) (w : ∀ v σ H Q, t' v σ H Q → t v σ H Q) : PG X e t' := ⟨fun pins s σ H v u Q I r q => h.run pins s σ H v u Q I r (w v σ H Q q)⟩
theorem PGsto {X : Cx} {e : List Expr} {t t' : TGs} (h : PGs X e t) (w : ∀ v σ H Q, t' v σ H Q → t v σ H Q) : PGs X e t' := ⟨fun pins s σ H v u Q I r q => h.run pins s σ H v u Q I r (w v σ H Q q)⟩
def toSlot (i : Nat) (d : D) (ρ : Rho) : Option Rho := some (ρ.set i (.dt d))
theorem g_name {vs : List Nat} {i : Nat} (hi : i ∈ vs) : ∀ v σ H Q, gD C vs (toSlot i) v σ H Q → gName i v σ H Q := by
  rintro v σ H Q ⟨G, ρ, b, d, ρ', R, r, e, q⟩
  cases e
  exact q _ (R.set r) ⟨List.length_set, fun k hk => List.getElem?_set_ne fun (e : i = k) => hk (by rw [← e]; exact hi)⟩
def toNil (ds : List D) (ρ : Rho) : Option Rho := match ds with
  | [] => some ρ
  | _ => none
def toCons (g : D → Rho → Option Rho) (gs : List D → Rho → Option Rho) (ds : List D) (ρ : Rho) : Option Rho := match ds with
  | d :: r => (g d ρ).bind (gs r)
  | [] => none
def toTup (n : Nat) (gs : List D → Rho → Option Rho) (d : D) (ρ : Rho) : Option Rho := match d with
  | .tuple ds => if ds.length = n then gs ds ρ else none
  | _ => none
theorem g_nil {vs : List Nat} : ∀ v σ H Q, gsD C vs toNil v σ H Q → gNil v σ H Q := by
  rintro v σ H Q ⟨G, ρ, b, d, ρ', R, r, e, q⟩
  cases r with
  | nil => cases e; exact ⟨rfl, q _ R .refl⟩
  | cons _ _ => cases e
theorem g_cons {us : List Nat} {g : D → Rho → Option Rho} {gs : List D → Rho → Option Rho} : ∀ v σ H Q, gsD C us (toCons g gs) v σ H Q → gCons (gD C us g) (gsD C us gs) v σ H Q := by
  rintro v σ H Q ⟨G, ρ, b, d, ρ', R, r, e, q⟩
  cases r with
  | nil => cases e
  | cons r rs =>
    rename_i v vs d ds
    have e : (g d ρ).bind (gs ds) = some ρ' := e
    cases h : g d ρ with
    | none => rw [h] at e; cases e
    | some ρ1 =>
      rw [h] at e
      exact ⟨v, vs, rfl, G, ρ, b, d, ρ1, R, r, h, fun σ' R' s1 => ⟨G, ρ1, b, ds, ρ', R', rs, e, fun σ2 R2 s2 => q σ2 R2 (s1.trans s2)⟩⟩
theorem g_tup {us : List Nat} {n : Nat} {gs : List D → Rho → Option Rho} : ∀ v σ H Q, gD C us (toTup n gs) v σ H Q → gTup C.K n (gsD C us gs) v σ H Q := by
  rintro v σ H Q ⟨G, ρ, b, d, ρ', R, r, e, q⟩
  cases r with
  | tup hp rs =>
    rename_i a xs ds
    have e : (if ds.length = n then gs ds ρ else none) = some ρ' := e
    split at e
    · rename_i hl
      exact ⟨a, xs, rfl, (hp.mono R.sub).T, by rw [rs.len]; exact hl, G, ρ, b, ds, ρ', R, rs, e, q⟩
    · cases e
  | _ => cases e
/-- target = e -/
def asgG (g : D → Rho → Option Rho) (f : Rho → T D) : Rho → T Out := atS f fun ρ d => match g d ρ with
  | some ρ' => .ret (.nx ρ')
  | none => .bad
theorem s_asgG {us : List Nat} {g : D → Rho → Option Rho} {f : Rho → T D} : ∀ Dn σ H, tS C (asgG g f) Dn σ H → tAsg (tD C f) (gD C us g) Dn σ H := by
  rintro Dn σ H ⟨G, ρ, b, R, h⟩
  refine ⟨G, ρ, b, R, (S_go R h).mono fun d G1 H1 c P j z v r => ?_⟩
  obtain ⟨R1, z⟩ := z
  cases e : g d ρ with
  | none => rw [e] at z; exact z.elim
  | some ρ' =>
    rw [e] at z
    exact ⟨G1, ρ, c, d, ρ', R1, r, e, fun σ' R' _ => z σ' G1 H1 (Gr.refl _) R'⟩

/-! ### for -/
variable {α : Type}
def forL (g : α → Rho → Option Rho) (body : Rho → T Out) : List α → Rho → T Out
  | [], ρ => .ret (.nx ρ)
  | a :: as, ρ => match g a ρ with
    | none => .bad
    | some ρ1 => (body ρ1).bind fun
      | .nx ρ2 => forL g body as ρ2
      | .ct ρ2 => forL g body as ρ2
      | .bk ρ2 => .ret (.nx ρ2)
      | .rt d => .ret (.rt d)
      | .xc ev ρ2 => .ret (.xc ev ρ2)
/-- what a walk does: a turn for each item -/
structure WalkD (C : Ct) (vs : List Nat) (tg : TG) (g : α → Rho → Option Rho) (J : It) (Gd : Hp → Prop) (xs : List α) : Prop where
  up : ∀ G G', Gr G G' → Gd G → Gd G'
  go : ∀ i G H, i < xs.length → Gr G H → Gd G → J.go i H
  stop : ∀ G H, Gr G H → Gd G → J.stop xs.length H
  turn : ∀ i a G H ρ σ b x H' ρ' (Q : L2.St → Hp → Prop), xs[i]? = some a → Rel C G H ρ σ b → Gd G → J.yld i H x H' → g a ρ = some ρ' → (∀ σ' G2, Gr G G2 → Rel C G2 H' ρ' σ' b → Sl vs σ σ' → Post C.J.fp G H G2 H' → Q σ' H') → tg x σ H' Q
def tIt (C : Ct) (vs : List Nat) (it : Rho → T (List α)) (tg : TG) (g : α → Rho → Option Rho) : TI := fun σ H R => ∃ G ρ b, Rel C G H ρ σ b ∧ Go C σ G H ρ b (it ρ) fun xs G' H' _ => ∀ J Gd, Gd G' → WalkD C vs tg g J Gd xs → R J H'
def forD (it : Rho → T (List α)) (g : α → Rho → Option Rho) (body : Rho → T Out) : Rho → T Out := atS it fun ρ xs => forL g body xs ρ
theorem s_for {vs : List Nat} {it : Rho → T (List α)} {tg : TG} {g : α → Rho → Option Rho} {body : Rho → T Out} : ∀ Dn σ H, tS C (forD it g body) Dn σ H → tFor (tIt C vs it tg g) tg (tS C body) Dn σ H := by
  rintro Dn σ H ⟨G, ρ, b, R, h⟩
  refine ⟨G, ρ, b, R, (S_go R h).mono fun xs G1 H1 c P j z J Gd hG Wk => ?_⟩
  obtain ⟨R1, z⟩ := z
  refine ⟨fun i m σ H => m = xs.length - i ∧ i ≤ xs.length ∧ ∃ G ρ b, Rel C G H ρ σ b ∧ Gd G ∧ Ok C Dn G (forL g body (xs.drop i) ρ) b, ⟨xs.length, rfl, Nat.zero_le _, G1, ρ, c, R1, hG, z⟩, ?_⟩
  rintro i m σ2 H2 ⟨rfl, hi, G2, ρ2, b2, R2, g2, o2⟩
  by_cases hlt : i < xs.length
  · refine .inr ⟨Wk.go i G2 H2 hlt R2.sub g2, fun σ' H' => ∃ G ρ b, Rel C G H' ρ σ' b ∧ Gd G ∧ Ok C Dn G (forL g body (xs.drop (i + 1)) ρ) b, fun σ' H' q => ⟨xs.length - (i + 1), by omega, rfl, hlt, q⟩, fun x H' y => ?_⟩
    rw [List.drop_eq_getElem_cons hlt] at o2
    cases e : g xs[i] ρ2 with
    | none =>
      simp only [forL, e] at o2
      exact o2.elim
    | some ρ3 =>
      simp only [forL, e] at o2
      refine Wk.turn i xs[i] G2 H2 ρ2 σ2 b2 x H' ρ3 _ (List.getElem?_eq_getElem hlt) R2 g2 y e fun σ3 G3 gr R3 _ _ => ?_
      refine ⟨G3, ρ3, b2, R3, T.sat_mono (fun o c z => ?_) (fun _ _ z => z) (T.sat_bind o2)⟩
      cases o with
      | nx ρ4 => exact fun σ4 G4 H4 g4 R4 => ⟨G4, ρ4, c, R4, Wk.up _ _ (gr.trans g4) g2, Ok.up (gr.trans g4) z⟩
      | ct ρ4 => exact fun σ4 G4 H4 g4 R4 => ⟨G4, ρ4, c, R4, Wk.up _ _ (gr.trans g4) g2, Ok.up (gr.trans g4) z⟩
      | bk ρ4 => exact fun σ4 G4 H4 g4 R4 => z σ4 G4 H4 (gr.trans g4) R4
      | rt d => exact z
      | xc ev ρ4 => exact z
  · have e : i = xs.length := by omega
    subst e
    rw [List.drop_length] at o2
    exact .inl ⟨Wk.stop G2 H2 R2.sub g2, o2 σ2 G2 H2 (Gr.refl _) R2⟩
theorem PIto {X : Cx} {tg e : Expr} {t t' : TI} (h : PI X tg e t) (w : ∀ σ H R, t' σ H R → t σ H R) : PI X tg e t' := ⟨fun pins s σ H R I q => h.run pins s σ H R I (w σ H R q)⟩

/-! #### over a list or a tuple -/
def seqOf (d : D) : T (List D) := match d with
  | .list ds => .ret ds
  | .tuple ds => .ret ds
  | _ => .bad
def iSeq (K : PySem.W.Frag) (te : TE) : TI := fun σ H R => te σ H fun x H1 => ∃ a, x = .ref a ∧ (((∃ xs, SqL K H1 a xs) ∧ R (Itl K a) H1) ∨ ((∃ xs, SqT K H1 a xs) ∧ R (Itt K a) H1))
theorem pi_seq {X : Cx} {tg e : Expr} {te : TE} (he : PE X e te) : PI X tg e (iSeq X.K te) := by
  refine ⟨fun pins s σ H R I h => thn (he.run pins s σ H _ I h) fun v s1 hv => ?_⟩
  obtain ⟨x, H1, J1, rx, a, ex, q⟩ := hv
  subst ex
  cases rx
  have fp : ∀ c ∈ [s1.heap.objs.size], FpOk X pins H1 c := fun c hc => by
    obtain rfl := List.mem_singleton.mp hc
    exact J1.fpOk (Nat.le_refl _) (J1.hok.fresh (Nat.le_refl _))
  rcases q with ⟨⟨xs, hq⟩, q⟩ | ⟨⟨xs, hq⟩, q⟩
  · obtain ⟨its, _, pl, _⟩ := J1.list hq
    exact wpAny_pyIter_list pl.isList ⟨s1.heap.objs.size, [s1.heap.objs.size], _, _, H1, rfl, J1.kept (t' := s1.toks) (fun c o z => Heap.get?_push_of_some _ z), turn_list a _, ⟨_, Heap.get?_push_size _ rfl, rfl, rfl⟩, fp, q⟩
  · obtain ⟨its, _, pt, _⟩ := J1.tuple hq
    exact wpAny_pyIter_tuple (show s1.heap.IsTuple a its.toArray from pt) ⟨s1.heap.objs.size, [s1.heap.objs.size], _, _, H1, rfl, J1.kept (t' := s1.toks) (fun c o z => Heap.get?_push_of_some _ z), turn_tuple a _, ⟨_, Heap.get?_push_size _ rfl, rfl, rfl⟩, fp, q⟩
theorem i_seq {us : List Nat} {f : Rho → T D} {g : D → Rho → Option Rho} : ∀ σ H R, tIt C us (fun ρ => (f ρ).bind seqOf) (gD C us g) g σ H R → iSeq C.K (tD C f) σ H R := by
  rintro σ H R ⟨G, ρ, b, Rl, h⟩
  refine ⟨G, ρ, b, Rl, (Go.bind Rl h).mono fun d G1 H1 c P j z v rv => ?_⟩
  obtain ⟨R1, z⟩ := z
  cases rv with
  | lst e r =>
    rename_i a xs ds
    refine ⟨a, rfl, .inl ⟨⟨xs, SqL.of (R1.sub _ _ e)⟩, (z.ret R1).2 (Itl C.K a) (fun G => G a = some (.lst xs) ∧ RDs C.J.O C.K G xs ds) ⟨e, r⟩ ⟨fun G G' g q => ⟨g _ _ q.1, q.2.mono g⟩, fun i G H hi g q => ?_, fun G H g q => ⟨xs, SqL.of (g _ _ q.1), by rw [r.len]; exact Nat.le_refl _⟩, fun i a' G H ρ σ b x H' ρ' Q ha R2 q y eg k => ?_⟩⟩⟩
    · have hx : i < xs.length := by rw [r.len]; exact hi
      exact ⟨xs, xs[i], SqL.of (g _ _ q.1), List.getElem?_eq_getElem hx⟩
    · obtain ⟨rfl, y⟩ := y
      obtain ⟨v, h1, h2⟩ := q.2.get ha
      have ev : v = x := Option.some.inj (h1.symm.trans (y xs (SqL.of (R2.sub _ _ q.1))))
      subst ev
      exact ⟨G, ρ, b, a', ρ', R2, h2, eg, fun σ' R' s1 => k σ' G (Gr.refl _) R' s1 (.refl R'.sub)⟩
  | tup e r =>
    rename_i a xs ds
    refine ⟨a, rfl, .inr ⟨⟨xs, (e.mono R1.sub).T⟩, (z.ret R1).2 (Itt C.K a) (fun G => SqP C.K G a xs ∧ RDs C.J.O C.K G xs ds) ⟨e, r⟩ ⟨fun G G' g q => ⟨q.1.mono g, q.2.mono g⟩, fun i G H hi g q => ?_, fun G H g q => ⟨xs, (q.1.mono g).T, by rw [r.len]; exact Nat.le_refl _⟩, fun i a' G H ρ σ b x H' ρ' Q ha R2 q y eg k => ?_⟩⟩⟩
    · have hx : i < xs.length := by rw [r.len]; exact hi
      exact ⟨xs, xs[i], (q.1.mono g).T, List.getElem?_eq_getElem hx⟩
    · obtain ⟨rfl, y⟩ := y
      obtain ⟨v, h1, h2⟩ := q.2.get ha
      have ev : v = x := Option.some.inj (h1.symm.trans (y xs (q.1.mono R2.sub).T))
      subst ev
      exact ⟨G, ρ, b, a', ρ', R2, h2, eg, fun σ' R' s1 => k σ' G (Gr.refl _) R' s1 (.refl R'.sub)⟩
  | _ => exact z.bad.elim
/-! #### over a range -/
def upto (lo : Int) (n : Nat) : List D := (List.range n).map fun (k : Nat) => PyData.int (lo + (k : Int))
def range1 : D → T (List D)
  | .int j => ask (-(2 ^ 62) ≤ j ∧ j < 2 ^ 62) (.ret (upto 0 j.toNat))
  | _ => .bad
def range2 : D → D → T (List D)
  | .int i, .int j => ask (-(2 ^ 62) ≤ i ∧ i < 2 ^ 62 ∧ -(2 ^ 62) ≤ j ∧ j < 2 ^ 62) (.ret (upto i (j - i).toNat))
  | _, _ => .bad
theorem walk_rng {us : List Nat} {g : D → Rho → Option Rho} {lo : Int} {n : Nat} : WalkD C us (gD C us g) g (Itr lo n) (fun _ => True) (upto lo n) := by
  refine ⟨fun _ _ _ h => h, fun i G H hi _ _ => ?_, fun G H _ _ => ?_, fun i a G H ρ σ b x H' ρ' Q ha R _ y eg k => ?_⟩
  · show i < n
    simpa [upto] using hi
  · show n ≤ _
    simp [upto]
  · obtain ⟨rfl, rfl⟩ := y
    have hi : i < n := by
      have := (List.getElem?_eq_some_iff.mp ha).1
      simpa [upto] using this
    unfold upto at ha
    rw [List.getElem?_map, List.getElem?_range hi] at ha
    cases ha
    exact ⟨G, ρ, b, _, ρ', R, .int _, eg, fun σ' R' s1 => k σ' G (Gr.refl _) R' s1 (.refl R'.sub)⟩
/-- one argument -/
abbrev arg1 (f : Rho → T D) : Rho → T (List D) := consT f fun _ => .ret []
abbrev arg2 (f g : Rho → T D) : Rho → T (List D) := consT f (arg1 g)
theorem i_rng1 {us : List Nat} {f : Rho → T D} {g : D → Rho → Option Rho} : ∀ σ H R, tIt C us (fun ρ => (f ρ).bind range1) (gD C us g) g σ H R → iRng1 (tCons (tD C f) tNil) σ H R := by
  rintro σ H R ⟨G, ρ, b, Rl, h⟩
  refine ⟨G, ρ, b, Rl, (Go.bind Rl h).mono fun d G1 H1 c P j z v rv => ?_⟩
  obtain ⟨R1, z⟩ := z
  cases rv with
  | int j =>
    obtain ⟨hz, z⟩ := Go.ask z
    exact ⟨j, rfl, hz.1, hz.2, (z.ret R1).2 _ (fun _ => True) trivial walk_rng⟩
  | _ => exact z.bad.elim
theorem i_rng2 {us : List Nat} {f f2 : Rho → T D} {g : D → Rho → Option Rho} : ∀ σ H R, tIt C us (fun ρ => (f ρ).bind fun i => (f2 ρ).bind fun j => range2 i j) (gD C us g) g σ H R → iRng2 (tCons (tD C f) (tCons (tD C f2) tNil)) σ H R := by
  rintro σ H R ⟨G, ρ, b, Rl, h⟩
  refine ⟨G, ρ, b, Rl, (Go.bind Rl h).mono fun d G1 H1 c P j z v rv => ?_⟩
  obtain ⟨R1, z⟩ := z
  refine ⟨G1, ρ, c, R1, (Go.bind R1 z).mono fun e G2 H2 c2 P2 j2 z2 w rw => ?_⟩
  obtain ⟨R2, z2⟩ := z2
  cases rv with
  | int i =>
    cases rw with
    | int j =>
      obtain ⟨hz, z2⟩ := Go.ask z2
      exact ⟨i, j, rfl, hz, (z2.ret R2).2.2 _ (fun _ => True) trivial walk_rng⟩
    | _ => exact z2.bad.elim
  | _ => cases rw <;> exact z2.bad.elim
/-! #### backwards -/
def iRevP (K : PySem.W.Frag) (te : TE) : TI := RT.iRevA K te
theorem i_rev {us : List Nat} {f : Rho → T D} {g : D → Rho → Option Rho} : ∀ σ H R, tIt C us (fun ρ => (f ρ).bind fun d => (seqOf d).bind fun ds => .ret ds.reverse) (gD C us g) g σ H R → RT.iRevA C.K (tD C f) σ H R := by
  rintro σ H R ⟨G, ρ, b, Rl, h⟩
  refine ⟨G, ρ, b, Rl, (Go.bind Rl h).mono fun d G1 H1 c P j z v rv => ?_⟩
  obtain ⟨R1, z⟩ := z
  have back : ∀ {ds : List D} {xs : List V} {G : Hp} {i : Nat} {a : D}, RDs C.J.O C.K G xs ds → ds.reverse[i]? = some a → i < xs.length ∧ ∃ v, xs[xs.length - 1 - i]? = some v ∧ RD C.J.O C.K G v a := fun {ds xs G i a} r e => by
    have hi : i < ds.length := by
      have := (List.getElem?_eq_some_iff.mp e).1
      simpa using this
    rw [List.getElem?_reverse hi] at e
    obtain ⟨v, h1, h2⟩ := r.get e
    exact ⟨by rw [r.len]; exact hi, v, by rw [r.len]; exact h1, h2⟩
  cases rv with
  | lst e r =>
    rename_i a xs ds
    refine ⟨a, xs, rfl, .inl ⟨SqL.of (R1.sub _ _ e), (z.ret R1).2 (Itv C.K a xs.length) (fun G => G a = some (.lst xs) ∧ RDs C.J.O C.K G xs ds) ⟨e, r⟩ ⟨fun G G' g q => ⟨g _ _ q.1, q.2.mono g⟩, fun i G H hi g q => ?_, fun G H g q => ?_, fun i a' G H ρ σ b x H' ρ' Q ha R2 q y eg k => ?_⟩⟩⟩
    · have hi : i < ds.reverse.length := hi
      have q3 := back (i := i) q.2 (List.getElem?_eq_getElem hi)
      obtain ⟨h1, v, h2, _⟩ := q3
      exact ⟨h1, xs, v, SqL.of (g _ _ q.1), h2⟩
    · show xs.length ≤ ds.reverse.length
      rw [List.length_reverse, q.2.len]
      exact Nat.le_refl _
    · obtain ⟨rfl, y⟩ := y
      obtain ⟨hi, v, h1, h2⟩ := back q.2 ha
      have ev : v = x := Option.some.inj (h1.symm.trans (y xs (SqL.of (R2.sub _ _ q.1))))
      subst ev
      exact ⟨G, ρ, b, a', ρ', R2, h2, eg, fun σ' R' s1 => k σ' G (Gr.refl _) R' s1 (.refl R'.sub)⟩
  | tup e r =>
    rename_i a xs ds
    refine ⟨a, xs, rfl, .inr ⟨(e.mono R1.sub).T, (z.ret R1).2 (RT.ItvT C.K a xs.length) (fun G => SqP C.K G a xs ∧ RDs C.J.O C.K G xs ds) ⟨e, r⟩ ⟨fun G G' g q => ⟨q.1.mono g, q.2.mono g⟩, fun i G H hi g q => ?_, fun G H g q => ?_, fun i a' G H ρ σ b x H' ρ' Q ha R2 q y eg k => ?_⟩⟩⟩
    · have hi : i < ds.reverse.length := hi
      obtain ⟨h1, v, h2, _⟩ := back (i := i) q.2 (List.getElem?_eq_getElem hi)
      exact ⟨h1, xs, v, (q.1.mono g).T, h2⟩
    · show xs.length ≤ ds.reverse.length
      rw [List.length_reverse, q.2.len]
      exact Nat.le_refl _
    · obtain ⟨rfl, y⟩ := y
      obtain ⟨hi, v, h1, h2⟩ := back q.2 ha
      have ev : v = x := Option.some.inj (h1.symm.trans (y xs (q.1.mono R2.sub).T))
      subst ev
      exact ⟨G, ρ, b, a', ρ', R2, h2, eg, fun σ' R' s1 => k σ' G (Gr.refl _) R' s1 (.refl R'.sub)⟩
  | _ => exact z.bad.elim
end
end Y
namespace Y
open PySem PySem.Spec PyProof.Rows L2

section
variable {X : Cx} {C : Ct} {σ : L2.St} {G H G' H' : Hp} {ρ : Rho} {b c : Nat}

/-! ### items -/
def orBad {α : Type} : Option α → T α
  | some a => .ret a
  | none => .bad
def pyIx : D → D → T D
  | .list ds, .int i => orBad (atI ds i)
  | .tuple ds, .int i => orBad (atI ds i)
  | .str x, .int i => ask (x.length ≤ sizeLine) (orBad ((atI x.cps.toList i).map fun c => .str ⟨#[c]⟩))
  | _, _ => .bad
theorem RDs.atI {O K G} {xs : List V} {ds : List D} {i : Int} {d : D} (r : RDs O K G xs ds) (h : L2.atI ds i = some d) : ∃ v, L2.atI xs i = some v ∧ RD O K G v d := by
  unfold L2.atI at h ⊢
  rw [r.len]
  cases e : ixN ds.length i with
  | none => rw [e] at h; cases h
  | some j =>
    rw [e] at h
    exact r.get h
theorem o_ix : Op2 C (rIx C.K) pyIx := by
  intro σ G H ρ b x y d e Q R rx ry h
  cases rx with
  | lst ea ra =>
    cases ry with
    | int i =>
      rename_i a xs ds
      cases q : L2.atI ds i with
      | none =>
        have h : Go C σ G H ρ b (orBad (L2.atI ds i)) _ := h
        rw [q] at h; exact h.bad.elim
      | some d =>
        have h : Go C σ G H ρ b (orBad (L2.atI ds i)) _ := h
        rw [q] at h
        obtain ⟨v, h1, h2⟩ := ra.atI q
        exact .inl ⟨_, _, i, v, rfl, rfl, SqL.of (R.sub _ _ ea), h1, h.retv R h2⟩
    | _ => exact h.bad.elim
  | tup ea ra =>
    cases ry with
    | int i =>
      rename_i a xs ds
      cases q : L2.atI ds i with
      | none =>
        have h : Go C σ G H ρ b (orBad (L2.atI ds i)) _ := h
        rw [q] at h; exact h.bad.elim
      | some d =>
        have h : Go C σ G H ρ b (orBad (L2.atI ds i)) _ := h
        rw [q] at h
        obtain ⟨v, h1, h2⟩ := ra.atI q
        exact .inr (.inl ⟨_, _, i, v, rfl, rfl, (ea.mono R.sub).T, h1, h.retv R h2⟩)
    | _ => exact h.bad.elim
  | str z =>
    cases ry with
    | int i =>
      obtain ⟨hz, h⟩ := Go.ask h
      cases q : L2.atI z.cps.toList i with
      | none => rw [q] at h; exact h.bad.elim
      | some k =>
        rw [q] at h
        exact .inr (.inr ⟨z, i, k, rfl, rfl, hz, q, h.retv R (.str _)⟩)
    | _ => exact h.bad.elim
  | _ => cases ry <;> exact h.bad.elim

/-! ### slices -/
def cutD {α : Type} (xs : List α) (lo hi : Option Int) : List α := (xs.drop (HT.sIx xs.length 0 lo)).take (HT.sIx xs.length xs.length hi - HT.sIx xs.length 0 lo)
theorem RDs.cut {O K G} {xs : List V} {ds : List D} (r : RDs O K G xs ds) (lo hi : Option Int) : RDs O K G (cutV xs lo hi) (cutD ds lo hi) := by
  unfold cutV cutD
  rw [r.len]
  exact (r.drop _).take _
def tO (C : Ct) (f : Rho → T (Option Int)) : TO := fun σ H Q => ∃ G ρ b, Rel C G H ρ σ b ∧ Go C σ G H ρ b (f ρ) fun o _ H' _ => Q o H'
def asInt : D → T (Option Int)
  | .int i => .ret (some i)
  | _ => .bad
theorem d_part {f : Rho → T D} : ∀ σ H Q, tO C (fun ρ => (f ρ).bind asInt) σ H Q → tPart (tD C f) σ H Q := by
  rintro σ H Q ⟨G, ρ, b, R, h⟩
  refine ⟨G, ρ, b, R, (Go.bind R h).mono fun d G1 H1 c P j z v rv => ?_⟩
  cases rv <;> first | exact z.2.bad.elim | exact ⟨_, rfl, (z.2.ret z.1).2⟩
theorem d_nopart : ∀ σ H Q, tO C (fun _ => .ret none) σ H Q → tNoPart σ H Q := by
  rintro σ H Q ⟨G, ρ, b, R, h⟩
  exact h.ret R
def pySl : D → Option Int → Option Int → T D
  | .list ds, lo, hi => .ret (.list (cutD ds lo hi))
  | .tuple ds, lo, hi => .ret (.tuple (cutD ds lo hi))
  | _, _, _ => .bad
theorem SlRor {r1 r2 : V → Option Int → Option Int → Hp → VK → Prop} (h1 : SlR X r1) (h2 : SlR X r2) : SlR X fun x l u H Q => r1 x l u H Q ∨ r2 x l u H Q := by
  intro pins s σ H x v vl vu lo hi sl Q I rx hs pl pu h
  rcases h with h | h
  · exact h1 pins s σ H x v vl vu lo hi sl Q I rx hs pl pu h
  · exact h2 pins s σ H x v vl vu lo hi sl Q I rx hs pl pu h
def rSlP (K : PySem.W.Frag) : V → Option Int → Option Int → Hp → VK → Prop := fun x lo hi H Q => ∃ a xs, x = .ref a ∧ SqT K H a xs ∧
  (HT.sIx xs.length 0 lo = 0 ∧ HT.sIx xs.length xs.length hi = xs.length → Q (.ref a) H) ∧ (¬ (HT.sIx xs.length 0 lo = 0 ∧ HT.sIx xs.length xs.length hi = xs.length) → NewT H (cutV xs lo hi) Q)
theorem sl_tupP : SlR X (rSlP X.K) := by
  intro pins s σ H x v vl vu lo hi sl Q I rx hs pl pu h
  obtain ⟨a, xs, e, hx, q1, q2⟩ := h
  subst e
  cases rx
  obtain ⟨its, r, ht, hz⟩ := I.tuple hx
  have hlen : its.toArray.size = xs.length := by rw [List.size_toArray]; exact r.length.symm
  refine ⟨"tuple", _, PyProof.Rows.slot_tuple_getitem.lookup, ht.typeIs, ?_⟩
  by_cases hw : HT.sIx xs.length 0 lo = 0 ∧ HT.sIx xs.length xs.length hi = xs.length
  · exact getItem_tuple_whole ht hs pl pu (by rw [hlen]; exact hw) ⟨.ref a, H, I, rfl, q1 hw⟩
  · refine HT.getItem_tuple_cut ht hs pl pu (by rw [hlen]; exact hw) ?_ (by rw [hlen]; exact hz)
    rw [hlen]
    exact laidT I ((r.drop (HT.sIx xs.length 0 lo)).take (HT.sIx xs.length xs.length hi - HT.sIx xs.length 0 lo)) (Nat.le_trans (cutV_length xs lo hi) hz) (q2 hw)
def rSlD (K : PySem.W.Frag) : V → Option Int → Option Int → Hp → VK → Prop := fun x lo hi H Q => rSlL K x lo hi H Q ∨ rSlP K x lo hi H Q
theorem sl_D : SlR X (rSlD X.K) := SlRor sl_list sl_tupP
theorem sIx_le (n d : Nat) (o : Option Int) (hd : d ≤ n) : HT.sIx n d o ≤ n := by
  cases o with
  | none => rw [HT.sIx_none]; exact hd
  | some i => unfold HT.sIx; first | omega | (simp only []; split <;> omega)
theorem cut_whole {α : Type} (xs : List α) (lo hi : Option Int) (h : HT.sIx xs.length 0 lo = 0 ∧ HT.sIx xs.length xs.length hi = xs.length) : cutD xs lo hi = xs := by
  unfold cutD
  rw [h.1, h.2, List.drop_zero, Nat.sub_zero, List.take_length]
theorem d_slice {f : Rho → T D} {l u : Rho → T (Option Int)} : ∀ σ H Q, tD C (fun ρ => (f ρ).bind fun x => (l ρ).bind fun lo => (u ρ).bind fun hi => pySl x lo hi) σ H Q → tSl (rSlD C.K) (tD C f) (tO C l) (tO C u) σ H Q := by
  rintro σ H Q ⟨G, ρ, b, R, h⟩
  refine ⟨G, ρ, b, R, (Go.bind R h).mono fun d G1 H1 c P j z v rv => ?_⟩
  obtain ⟨R1, z⟩ := z
  refine ⟨G1, ρ, c, R1, (Go.bind R1 z).mono fun lo G2 H2 c2 P2 j2 z2 => ?_⟩
  obtain ⟨R2, z2⟩ := z2
  refine ⟨G2, ρ, c2, R2, (Go.bind R2 z2).mono fun hi G3 H3 c3 P3 j3 z3 => ?_⟩
  obtain ⟨R3, z3⟩ := z3
  have rv := (rv.mono P2.gg).mono P3.gg
  have z3 := z3.mono (Q' := fun d G' H' _ => ∀ v, RD C.J.O C.K G' v d → Q v H') fun _ _ _ _ _ _ q => q.2.2.2
  cases rv with
  | lst e r => exact .inl ⟨_, _, rfl, SqL.of (R3.sub _ _ e), fun p n => z3.newL R3 n (r.cut lo hi)⟩
  | tup e r =>
    refine .inr ⟨_, _, rfl, (e.mono R3.sub).T, fun hw => ?_, fun _ p o n hc hd => z3.newT R3 n hc hd (r.cut lo hi)⟩
    have e2 := cut_whole _ lo hi (by rw [← r.len]; exact hw)
    have z3 : Go C σ G3 H3 ρ c3 (.ret (PyData.tuple (cutD _ lo hi))) _ := z3
    rw [e2] at z3
    exact z3.retv R3 (.tup e r)
  | _ => exact z3.bad.elim
/-- xs[::-1], a list -/
def pyRevL : D → T D
  | .list ds => .ret (.list ds.reverse)
  | _ => .bad
theorem d_revL {f : Rho → T D} : ∀ σ H Q, tD C (fun ρ => (f ρ).bind pyRevL) σ H Q → tRevL C.K (tD C f) σ H Q := by
  rintro σ H Q ⟨G, ρ, b, R, h⟩
  refine ⟨G, ρ, b, R, (Go.bind R h).mono fun d G1 H1 c P j z v rv => ?_⟩
  obtain ⟨R1, z⟩ := z
  cases rv with
  | lst e r => exact ⟨_, _, rfl, SqL.of (R1.sub _ _ e), fun p n => (z.mono fun _ _ _ _ _ _ q => q.2).newL R1 n r.rev⟩
  | _ => exact z.bad.elim

/-! ### built-in functions -/
def pyLen : List D → T D
  | [.str x] => ask (x.length ≤ sizeLine) (.ret (.int x.length))
  | [.list ds] => .ret (.int ds.length)
  | [.tuple ds] => .ret (.int ds.length)
  | _ => .bad
/-- one argument, as a list -/
theorem one_arg {op : List D → T D} {r : List V → Hp → VK → Prop} (op1 : D → T D) (e1 : ∀ d, op [d] = op1 d) (e0 : op [] = .bad) (e2 : ∀ d e ds, op (d :: e :: ds) = .bad)
    (h : ∀ σ G H ρ b v d (Q : VK), Rel C G H ρ σ b → RD C.J.O C.K G v d → Go C σ G H ρ b (op1 d) (fun d G' H' _ => ∀ v, RD C.J.O C.K G' v d → Q v H') → r [v] H Q) : CallD C r op := by
  intro σ G H ρ b vs ds Q R rs q
  cases rs with
  | nil => rw [e0] at q; exact q.bad.elim
  | cons r1 rr =>
    cases rr with
    | nil => rw [e1] at q; exact h σ G H ρ b _ _ Q R r1 q
    | cons r2 rr => rw [e2] at q; exact q.bad.elim
def len1 : D → T D
  | .str x => ask (x.length ≤ sizeLine) (.ret (.int x.length))
  | .list ds => .ret (.int ds.length)
  | .tuple ds => .ret (.int ds.length)
  | _ => .bad
def only (op : D → T D) : List D → T D
  | [d] => op d
  | _ => .bad
theorem c_len : CallD C (fun xs H Q => ∃ x n, xs = [x] ∧ LenV C.K x H n ∧ Q (.int n) H) (only len1) := by
  refine one_arg len1 (fun _ => rfl) rfl (fun _ _ _ => rfl) fun σ G H ρ b v d Q R rv q => ?_
  cases rv with
  | str x =>
    obtain ⟨hz, q⟩ := Go.ask q
    exact ⟨_, _, rfl, ⟨hz, rfl⟩, q.retv R (.int _)⟩
  | lst e r => exact ⟨_, _, rfl, .inl ⟨_, SqL.of (R.sub _ _ e), rfl⟩, q.retv R (by rw [r.len]; exact .int _)⟩
  | tup e r => exact ⟨_, _, rfl, .inr ⟨_, (e.mono R.sub).T, rfl⟩, q.retv R (by rw [r.len]; exact .int _)⟩
  | _ => exact q.bad.elim
def list1 (d : D) : T D := (seqOf d).bind fun ds => .ret (.list ds)
theorem c_list : CallD C (fun xs H Q => ∃ p ys, xs = [.ref p] ∧ (SqL C.K H p ys ∨ SqT C.K H p ys) ∧ ∀ l, H l = none → Q (.ref l) (upd H l (.lst ys))) (only list1) := by
  refine one_arg list1 (fun _ => rfl) rfl (fun _ _ _ => rfl) fun σ G H ρ b v d Q R rv q => ?_
  cases rv with
  | lst e r => exact ⟨_, _, rfl, .inl (SqL.of (R.sub _ _ e)), fun l n => q.newL R n r⟩
  | tup e r => exact ⟨_, _, rfl, .inr (e.mono R.sub).T, fun l n => q.newL R n r⟩
  | _ => exact q.bad.elim
def tup1 (d : D) : T D := (seqOf d).bind fun ds => .ret (.tuple ds)
def rTupOf (K : PySem.W.Frag) : List V → Hp → VK → Prop := fun xs H Q => ∃ p ys, xs = [.ref p] ∧ ((SqL K H p ys ∧ NewT H ys Q) ∨ (SqT K H p ys ∧ Q (.ref p) H))
theorem cr_tup : CallR X (.type "tuple") (rTupOf X.K) := by
  intro pins s σ H xs us Q I r h
  obtain ⟨p, ys, e, h⟩ := h
  subst e
  obtain ⟨u, e, rx⟩ := vals1 r
  subst e
  cases rx
  rcases h with ⟨hq, q⟩ | ⟨hq, q⟩
  · obtain ⟨its, r', pl, hz⟩ := I.list hq
    have hlen := r'.length
    refine call_tuple_list pl.isList (fun h' kp => ?_) (by simp only [List.size_toArray] <;> omega)
    exact laidT (t := s.toks) (I.kept (t' := s.toks) kp) r' hz q
  · obtain ⟨its, r', pl, hz⟩ := I.tuple hq
    exact call_tuple_same pl ⟨.ref p, H, I, rfl, q⟩
theorem c_tup : CallD C (rTupOf C.K) (only tup1) := by
  refine one_arg tup1 (fun _ => rfl) rfl (fun _ _ _ => rfl) fun σ G H ρ b v d Q R rv q => ?_
  cases rv with
  | lst e r => exact ⟨_, _, rfl, .inl ⟨SqL.of (R.sub _ _ e), fun p o n hc hd => q.newT R n hc hd r⟩⟩
  | tup e r => exact ⟨_, _, rfl, .inr ⟨(e.mono R.sub).T, q.retv R (.tup e r)⟩⟩
  | _ => exact q.bad.elim
def int1 : D → T D
  | .int i => .ret (.int i)
  | .bool k => .ret (.int (if k then 1 else 0))
  | _ => .bad
theorem c_int : CallD C (fun xs H Q => (∃ i, xs = [.int i] ∧ Q (.int i) H) ∨ ∃ k, xs = [.bl k] ∧ Q (.int (if k then 1 else 0)) H) (only int1) := by
  refine one_arg int1 (fun _ => rfl) rfl (fun _ _ _ => rfl) fun σ G H ρ b v d Q R rv q => ?_
  cases rv with
  | int i => exact .inl ⟨i, rfl, q.retv R (.int _)⟩
  | bl k => exact .inr ⟨k, rfl, q.retv R (.int _)⟩
  | _ => exact q.bad.elim
/-- divmod, behind which the pair is taken apart at once -/
def divmod2 : D → D → T D
  | .int i, .int j => ask (0 < j ∧ j < 1073741824) (.ret (.tuple [.int (i / j), .int (i % j)]))
  | _, _ => .bad
def rDm : List V → Hp → VK → Prop := fun xs H Q => ∃ i j, xs = [.int i, .int j] ∧ CDiv i j ∧ NewT H [.int (i / j), .int (i % j)] Q
theorem cr_divmod : CallR X (.builtin "divmod") rDm := by
  intro pins s σ H xs us Q I r h
  obtain ⟨i, j, e, ⟨h1, h2⟩, q⟩ := h
  subst e
  obtain ⟨u, w', e, ⟨t, e1⟩, ⟨t', e2⟩⟩ := vals2 r
  subst e e1 e2
  refine divmod_int (by omega) ?_ (.inl (PyProof.noPylong_small (by omega)))
  rw [Int.fdiv_eq_ediv_of_nonneg i (by omega), Int.fmod_eq_emod_of_nonneg i (by omega)]
  exact laidT (t := s.toks + 1 + 1) (xs := [.int (i / j), .int (i % j)]) (its := [.int (i / j) s.toks, .int (i % j) (s.toks + 1)]) I (.cons ⟨_, rfl⟩ (.cons ⟨_, rfl⟩ .nil)) (by simp only [List.length_cons, List.length_nil]; rw [sizeLine_eq]; decide) q
def dmL : List D → T D
  | [d, e] => divmod2 d e
  | _ => .bad
theorem c_divmod : CallD C rDm dmL := by
  intro σ G H ρ b vs ds Q R rs q
  match rs with
  | .nil => exact q.bad.elim
  | .cons _ .nil => exact q.bad.elim
  | .cons _ (.cons _ (.cons _ _)) => exact q.bad.elim
  | .cons r1 (.cons r2 .nil) =>
    cases r1 with
    | int i =>
      cases r2 with
      | int j =>
        obtain ⟨hz, q⟩ := Go.ask q
        exact ⟨i, j, rfl, hz, fun p o n hc hd => q.newT R n hc hd (.cons (.int _) (.cons (.int _) .nil))⟩
      | _ => exact q.bad.elim
    | _ => cases r2 <;> exact q.bad.elim

/-! ### repr -/
mutual
theorem dpn_of {O : V → Int → Prop} {K : PySem.W.Frag} {G : Hp} : ∀ {v : V} {d : D}, RD O K G v d → d.hasDict = false → Dp K G v d
  | _, _, .non, _ => .non
  | _, _, .bl b, _ => .bl b
  | _, _, .int i, _ => .int i
  | _, _, .str x, _ => .str x
  | _, _, .lst e r, h => .lst (SqL.of e) (dpns_of r (by simpa only [PyData.hasDict] using h))
  | _, _, .tup e r, h => .tup e.T (dpns_of r (by simpa only [PyData.hasDict] using h))
  | _, _, .dct e r, h => by simp only [PyData.hasDict] at h; cases h
  | _, _, .opq _, h => by simp only [hdl, PyData.hasDict] at h; cases h
  | _, _, .rng _, h => by simp only [rgD, PyData.hasDict] at h; cases h
theorem dpns_of {O : V → Int → Prop} {K : PySem.W.Frag} {G : Hp} : ∀ {v : List V} {d : List D}, RDs O K G v d → PyData.hasDictAll d = false → DpAll K G v d
  | _, _, .nil, _ => .nil
  | _, _, .cons r t, h => by
    simp only [PyData.hasDictAll, Bool.or_eq_false_iff] at h
    exact .cons (dpn_of r h.1) (dpns_of t h.2)
end
def rRepr (K : PySem.W.Frag) : List V → Hp → VK → Prop := fun xs H Q => ∃ v d, xs = [v] ∧ Dp K H v d ∧ d.showable = true ∧ d.hasDict = false ∧ d.depth ≤ 100 ∧ d.shown.length ≤ sizeLine ∧ Q (.str d.shown) H
theorem cr_repr (hg : X.A.guards = some []) (hu : X.A.units + 200 < cLine) : CallR X (.builtin "repr") (rRepr X.K) := by
  intro pins s σ H xs us Q I r h
  obtain ⟨v, d, e, hd, h1, h2, h3, h4, q⟩ := h
  subst e
  obtain ⟨u, e, ru⟩ := vals1 r
  subst e
  have fin : ∀ (t : Tok) (tk : Nat), EP X pins σ Q (.str d.shown t) { s with toks := tk } := fun t tk => ⟨.str d.shown, H, I.tok tk, ⟨t, rfl⟩, q⟩
  cases hd with
  | non => cases ru; exact P.repr_of_none (fin _ _)
  | bl b => cases ru; exact P.repr_of_bool (fin _ _)
  | int i =>
    obtain ⟨t, rfl⟩ := ru
    exact P.repr_of_int (by simpa only [PyData.showable, decide_eq_true_eq] using h1) (fin _ _)
  | str x =>
    obtain ⟨t, rfl⟩ := ru
    exact P.repr_of_str (fin _ _) (by simpa only [PyData.shown] using h4)
  | lst hs ha =>
    obtain ⟨as, rr⟩ := Dp.reads I _ _ _ (.lst hs ha) ru
    cases ru
    exact repr_of_reads' rr h1 (fun z => by rw [h2] at z; cases z) hg (by omega) (fun _ _ e => e) (fun h' t tk k => ⟨.str _, H, I.kept k, ⟨t, rfl⟩, q⟩) h4
  | tup hs ha =>
    obtain ⟨as, rr⟩ := Dp.reads I _ _ _ (.tup hs ha) ru
    cases ru
    exact repr_of_reads' rr h1 (fun z => by rw [h2] at z; cases z) hg (by omega) (fun _ _ e => e) (fun h' t tk k => ⟨.str _, H, I.kept k, ⟨t, rfl⟩, q⟩) h4
def repr1 (d : D) : T D := ask (d.showable = true ∧ d.hasDict = false ∧ d.depth ≤ 100 ∧ d.shown.length ≤ sizeLine) (.ret (.str d.shown))
theorem c_repr : CallD C (rRepr C.K) (only repr1) := by
  refine one_arg repr1 (fun _ => rfl) rfl (fun _ _ _ => rfl) fun σ G H ρ b v d Q R rv q => ?_
  obtain ⟨⟨h1, h2, h3, h4⟩, q⟩ := Go.ask q
  exact ⟨v, d, rfl, dp_mono R.sub (dpn_of rv h2), h1, h2, h3, h4, q.retv R (.str _)⟩

/-! ### isinstance of a built-in class -/
def kindD : D → Option String
  | .none => some "NoneType"
  | .bool _ => some "bool"
  | .int _ => some "int"
  | .str _ => some "str"
  | .list _ => some "list"
  | .tuple _ => some "tuple"
  | .dict ((.dict _, _) :: _) => none
  | .dict _ => some "dict"
def isKind (t : String) (d : D) : Bool := match d with
  | .none => t == "NoneType"
  | .bool _ => t == "bool" || t == "int"
  | .int _ => t == "int"
  | .str _ => t == "str"
  | .list _ => t == "list"
  | .tuple _ => t == "tuple"
  | .dict _ => t == "dict"
def isi1 (t : String) (d : D) : T D := match d with
  | .dict ((.dict _, _) :: _) => .bad
  | d => .ret (.bool (isKind t d))
/-- the classes asked for -/
def KitT (t : String) : Prop := ∀ k ∈ ["NoneType", "bool", "int", "str", "list", "tuple", "dict"], kitB k t = some (k == t || (k == "bool" && t == "int"))
theorem tyx_of {v : V} {d : D} {k : String} (R : Rel C G H ρ σ b) (r : RD C.J.O C.K G v d) (h : kindD d = some k) : TyX C.K H v (.type k) := by
  cases r with
  | non => cases h; exact .base .non
  | bl b => cases h; exact .base (.bl b)
  | int i => cases h; exact .base (.int i)
  | str x => cases h; exact .base (.str x)
  | lst e _ => cases h; exact .base (.lst (R.sub _ _ e))
  | tup e _ =>
    cases h
    rcases e with ⟨o, e, _, _⟩ | ⟨o, its, n, e, hc, _⟩
    · exact .fTuple (R.sub _ _ e)
    · exact .kTuple e hc
  | dct e r =>
    cases r with
    | nil => cases h; exact .base (.dK (R.sub _ _ e))
    | cons r1 r2 =>
      rename_i kk _ _ _ _
      cases kk <;> (cases h; exact .base (.dK (R.sub _ _ e)))
  | opq _ => cases h
  | rng _ => cases h
theorem d_isi {f : Rho → T D} {t : String} (kt : KitT t) : ∀ σ H Q, tD C (fun ρ => (f ρ).bind (isi1 t)) σ H Q → tCB (rIsi C.K) (tCons (tD C f) (tCons (tC (.ty t)) tNil)) σ H Q := by
  rintro σ H Q ⟨G, ρ, b, R, h⟩
  refine ⟨G, ρ, b, R, (Go.bind R h).mono fun d G1 H1 c P j z v rv => ?_⟩
  obtain ⟨R1, z⟩ := z
  have fin : ∀ k, kindD d = some k → (k ∈ ["NoneType", "bool", "int", "str", "list", "tuple", "dict"]) → (isi1 t d = .ret (.bool (k == t || (k == "bool" && t == "int")))) → rIsi C.K [v, .ty t] H1 Q := fun k hk hm he => by
    refine ⟨v, .ty t, .type k, .type t, _, rfl, .ty t, tyx_of R1 rv hk, kit_ty (kt k hm), ?_⟩
    rw [he] at z
    exact (z.ret R1).2 _ (.bl _)
  show rIsi C.K [v, .ty t] H1 Q
  have bs : ∀ a : String, (t == a) = (a == t) := fun a => by rw [Bool.eq_iff_iff, beq_iff_eq, beq_iff_eq]; exact eq_comm
  cases rv with
  | non => exact fin "NoneType" rfl (by decide) (by simp [isi1, isKind, bs])
  | bl b => exact fin "bool" rfl (by decide) (by simp [isi1, isKind, bs])
  | int i => exact fin "int" rfl (by decide) (by simp [isi1, isKind, bs])
  | str x => exact fin "str" rfl (by decide) (by simp [isi1, isKind, bs])
  | lst e _ => exact fin "list" rfl (by decide) (by simp [isi1, isKind, bs])
  | tup e _ => exact fin "tuple" rfl (by decide) (by simp [isi1, isKind, bs])
  | dct e r =>
    cases r with
    | nil => exact fin "dict" rfl (by decide) (by simp [isi1, isKind, bs])
    | cons r1 r2 =>
      rename_i kk _ _ _ _
      cases kk <;> exact fin "dict" rfl (by decide) (by simp [isi1, isKind, bs, keyD])
  | opq _ => exact z.bad.elim
  | rng _ => exact z.bad.elim
theorem kit_int : KitT "int" := by unfold KitT; decide +kernel
theorem kit_bool : KitT "bool" := by unfold KitT; decide +kernel
theorem kit_str : KitT "str" := by unfold KitT; decide +kernel
theorem kit_tuple : KitT "tuple" := by unfold KitT; decide +kernel
theorem kit_list : KitT "list" := by unfold KitT; decide +kernel
theorem kit_dict : KitT "dict" := by unfold KitT; decide +kernel
end
end Y
namespace Y
open PySem PySem.Spec PyProof.Rows L2

/-! ### comprehensions -/
/-- nothing is raised -/
def noexc {α : Type} (t : T α) : T α := t.attempt.bind fun
  | .ok a => .ret a
  | .error _ => .bad
@[simp] theorem noexc_ret {α : Type} (a : α) : noexc (.ret a) = .ret a := rfl
theorem sat_noexc {α : Type} {Q : α → Nat → Prop} {E : Ev → Nat → Prop} {t : T α} {b : Nat} (h : (noexc t).sat b Q E) : t.sat b Q fun _ _ => False :=
  T.sat_mono (fun _ _ z => z) (fun _ _ z => z) (T.sat_attempt (T.sat_bind h))
def lcL {α : Type} (g : α → Rho → Option Rho) (t : Rho → T Bool) (e : Rho → T D) : List α → Rho → T (List D)
  | [], _ => .ret []
  | a :: as, ρ => match g a ρ with
    | none => .bad
    | some ρ1 => (noexc (t ρ1)).bind fun k => if k then (noexc (e ρ1)).bind fun d => (lcL g t e as ρ).bind fun ds => .ret (d :: ds) else lcL g t e as ρ
def wipeR (ρ : Rho) : List Nat → Rho
  | [] => ρ
  | v :: vs => (wipeR ρ vs).set v .un
def lcD {α : Type} (vs : List Nat) (it : Rho → T (List α)) (g : α → Rho → Option Rho) (t : Rho → T Bool) (e : Rho → T D) (ρ : Rho) : T (List D) :=
  (it ρ).bind fun xs => ask (xs.length ≤ sizeLine) (lcL g t e xs (wipeR ρ vs))
section
variable {C : Ct} {σ : L2.St} {G H G' H' : Hp} {ρ : Rho} {b c : Nat} {α : Type}
theorem Rel.wipe (R : Rel C G H ρ σ b) : ∀ vs : List Nat, Rel C G H (wipeR ρ vs) (wipe σ vs) b
  | [] => R
  | v :: vs => (Rel.wipe R vs).setU none
theorem wipe_none {σ : L2.St} {k : Nat} : ∀ {vs : List Nat}, k ∈ vs → k < σ.length → (wipe σ vs)[k]? = some none
  | v :: vs, h, hl => by
    unfold L2.wipe
    by_cases e : v = k
    · subst e
      rw [List.getElem?_set_self (by rw [wipe_length]; exact hl)]
    · rw [List.getElem?_set_ne e]
      rcases List.mem_cons.mp h with q | q
      · exact absurd q.symm e
      · exact wipe_none q hl
theorem Sl.wipe {vs : List Nat} {σ σ' : L2.St} (h : Sl vs σ σ') : L2.wipe σ' vs = L2.wipe σ vs := by
  apply List.ext_getElem?
  intro k
  by_cases hk : k ∈ vs
  · by_cases hl : k < σ.length
    · rw [wipe_none hk hl, wipe_none hk (by rw [h.1]; exact hl)]
    · rw [List.getElem?_eq_none (by rw [wipe_length, h.1]; omega), List.getElem?_eq_none (by rw [wipe_length]; omega)]
  · rw [wipe_out hk, wipe_out hk, h.2 k hk]
theorem wipe_wipe {σ : L2.St} {vs : List Nat} : L2.wipe (L2.wipe σ vs) vs = L2.wipe σ vs := Sl.wipe ⟨wipe_length σ vs, fun k hk => wipe_out hk⟩
/-- an object that is neither data nor a slot's changes -/
theorem Rel.other (R : Rel C G H ρ σ b) {p : Addr} {o u : HO} (g : G p = none) (h0 : C.H0 p = none) (e : H p = some o) (nw : ∀ (k : Nat) (es : List D), ρ[k]? = some (S.ow es) → σ[k]? ≠ some (some (.ref p))) : Rel C G (upd H p u) ρ σ b := by
  obtain ⟨α, ho, hi⟩ := R.own
  have np : ∀ a o, G a = some o → a ≠ p := fun a o q z => by rw [z, g] at q; cases q
  refine ⟨⟨R.post.gg, fun a o q => by rw [upd_ne (np a o q)]; exact R.sub a o q, fun a o nf q => by rw [upd_ne (ne_of_none q h0)]; exact R.post.hh a o nf q, fun a q => ?_, R.post.fr⟩,
    C.J.loc b H _ R.jar fun a ha => upd_ne fun z => R.jth a ha (by rw [z]; exact h0), R.jfr, R.jth, ⟨α, fun k fs q => ?_, hi⟩, R.dat, R.len⟩
  · by_cases h : a = p
    · rw [h, upd_same]; simp
    · rw [upd_ne h]; exact R.post.th a q
  · obtain ⟨f1, f2, f3, zs, f4, f5⟩ := ho k fs q
    exact ⟨f1, f2, f3, zs, by rw [upd_ne (fun z => nw k fs q (by rw [← z]; exact f1))]; exact f4, f5⟩
/-- the context where nothing may be raised -/
abbrev Ct.nox (C : Ct) : Ct := { C with W := fun _ _ _ _ => False }
theorem Rel.nox (R : Rel C G H ρ σ b) : Rel C.nox G H ρ σ b := ⟨R.post, R.jar, R.jfr, R.jth, R.own, R.dat, R.len⟩
theorem Rel.unnox (R : Rel C.nox G H ρ σ b) : Rel C G H ρ σ b := ⟨R.post, R.jar, R.jfr, R.jth, R.own, R.dat, R.len⟩
theorem go_nox {t : T α} {Q : α → Hp → Hp → Nat → Prop} (h : t.sat b (fun d c => ∀ G' H', Post C.J.fp G H G' H' → C.J.ok c H' → Q d G' H' c) fun _ _ => False) : Go C.nox σ G H ρ b t Q :=
  T.sat_mono (fun _ _ z => z) (fun _ _ z => z.elim) h
theorem d_lc {vs : List Nat} {it : Rho → T (List α)} {tg : TG} {g : α → Rho → Option Rho} {t : Rho → T Bool} {e : Rho → T D} :
    ∀ σ H Q, tL C (lcD vs it g t e) σ H Q → tLc (tIt C vs it tg g) tg (tT C.nox t) (tD C.nox e) vs σ H Q := by
  rintro σ H Q ⟨G, ρ, b, R, h⟩
  refine ⟨G, ρ, b, R, (Go.bind R h).mono fun xs G1 H1 c P j z J Gd hG Wk D hD => ?_⟩
  obtain ⟨R1, z⟩ := z
  obtain ⟨hz, z⟩ := Go.ask z
  have h0 : C.H0 D = none := by
    cases q : C.H0 D with
    | none => rfl
    | some o => exact absurd hD (R1.post.th D (by rw [q]; simp))
  have gD : G1 D = none := by
    cases q : G1 D with
    | none => rfl
    | some o => have := R1.sub D o q; rw [hD] at this; cases this
  have hHD : H D = none := by
    cases q : H D with
    | none => rfl
    | some o => exact absurd hD (P.th D (by rw [q]; simp))
  obtain ⟨α1, ho1, _⟩ := R1.own
  have nw : ∀ (k : Nat) (es : List PyData), (wipeR ρ vs)[k]? = some (S.ow es) → (wipe σ vs)[k]? ≠ some (some (.ref D)) := fun k es q z2 => by
    obtain ⟨α2, ho2, _⟩ := (R1.wipe vs).own
    obtain ⟨f1, _, _, ys, f4, _⟩ := ho2 k es q
    rw [f1] at z2
    cases z2
    rw [hD] at f4; cases f4
  refine ⟨fun i m Hc => m = xs.length - i ∧ i ≤ xs.length ∧ ∃ Gc b acc ds, Rel C Gc Hc (wipeR ρ vs) (wipe σ vs) b ∧ Gd Gc ∧ Gc D = none ∧ Hc D = some (.lst acc) ∧ acc.length ≤ i ∧ RDs C.J.O C.K Gc acc ds ∧ Post C.J.fp G1 H1 Gc Hc ∧
    (lcL g t e (xs.drop i) (wipeR ρ vs)).sat b (fun rest c => ∀ G' H', Post C.J.fp G1 H1 G' H' → C.J.ok c H' → ∀ p ys, H p = none → G' p = none → H' p = some (.lst ys) → RDs C.J.O C.K G' ys (ds ++ rest) → Q (.ref p) H') (fun ev c => True), ⟨xs.length, rfl, Nat.zero_le _, ?_⟩, ?_⟩
  · have P1 : Post C.J.fp G1 H1 G1 (upd H1 D (.lst [])) := .newH R1.sub hD
    have Rw : Rel C G1 (upd H1 D (.lst [])) (wipeR ρ vs) (wipe σ vs) c := (R1.wipe vs).step P1 (C.J.loc c H1 _ R1.jar fun a ha => upd_ne fun z => R1.jth a ha (by rw [z]; exact h0))
    refine ⟨G1, c, [], [], Rw, hG, gD, upd_same, Nat.zero_le _, .nil, P1, ?_⟩
    rw [List.drop_zero]
    exact T.sat_mono (fun rest c z G' H' P' j' => by simpa using (z G' H' P' j').2) (fun _ _ _ => trivial) z
  · rintro i m Hc ⟨rfl, hi, Gc, b2, acc, ds, Rc, gd, gDn, hDc, hacc, rds, Pc, z⟩
    by_cases hlt : i < xs.length
    · refine .inr ⟨Wk.go i Gc Hc hlt Rc.sub gd, fun H' => ∃ Gc b acc ds, Rel C Gc H' (wipeR ρ vs) (wipe σ vs) b ∧ Gd Gc ∧ Gc D = none ∧ H' D = some (.lst acc) ∧ acc.length ≤ i + 1 ∧ RDs C.J.O C.K Gc acc ds ∧ Post C.J.fp G1 H1 Gc H' ∧
        (lcL g t e (xs.drop (i + 1)) (wipeR ρ vs)).sat b (fun rest c => ∀ G' H', Post C.J.fp G1 H1 G' H' → C.J.ok c H' → ∀ p ys, H p = none → G' p = none → H' p = some (.lst ys) → RDs C.J.O C.K G' ys (ds ++ rest) → Q (.ref p) H') (fun ev c => True), fun H' q => ⟨xs.length - (i + 1), by omega, rfl, hlt, q⟩, fun x H' y => ?_⟩
      rw [List.drop_eq_getElem_cons hlt] at z
      cases eg : g xs[i] (wipeR ρ vs) with
      | none => simp only [lcL, eg] at z; exact z.elim
      | some ρ3 =>
        simp only [lcL, eg] at z
        refine Wk.turn i xs[i] Gc Hc _ _ b2 x H' ρ3 _ (List.getElem?_eq_getElem hlt) Rc gd y eg fun σ3 G3 gr R3 sl3 P3 => ?_
        refine ⟨by rw [Sl.wipe sl3, wipe_wipe], G3, ρ3, b2, R3.nox, go_nox ?_⟩
        have stepD : ∀ {G2 H2 G4 H4 : Hp}, Post C.J.fp G2 H2 G4 H4 → H2 D = some (.lst acc) → H4 D = some (.lst acc) := fun P e => P.hh D _ (fun f => R.jth D f h0) e
        have stepG : ∀ {G2 H2 G4 H4 : Hp}, Post C.J.fp G2 H2 G4 H4 → H2 D = some (.lst acc) → G2 D = none → G4 D = none := fun {G2 H2 G4 H4} P e n => by
          cases q : G4 D with
          | none => rfl
          | some o =>
            rcases P.fr D (by rw [q]; simp) with q2 | q2
            · exact absurd n q2
            · rw [e] at q2; cases q2
        have hD3 : H' D = some (.lst acc) := stepD P3 hDc
        have gD3 : G3 D = none := stepG P3 hDc gDn
        -- back at the block's own slots
        have back : ∀ {G4 H4 : Hp} {c : Nat}, Post C.J.fp G3 H' G4 H4 → C.J.ok c H4 → Rel C G4 H4 (wipeR ρ vs) (wipe σ vs) c := fun P4 j4 => Rc.step (P3.trans P4) j4
        have z2 := sat_noexc (T.sat_bind z)
        refine T.sat_mono (fun k c z4 G4 H4 P4 j4 => ?_) (fun _ _ z => z) z2
        have P4 : Post C.J.fp G3 H' G4 H4 := P4
        cases k with
        | false =>
          exact ⟨G4, c, acc, ds, back P4 j4, Wk.up _ _ (gr.trans P4.gg) gd, stepG P4 hD3 gD3, stepD P4 hD3, by omega, rds.mono (Gr.trans gr P4.gg), Pc.trans (P3.trans P4), z4⟩
        | true =>
          refine ⟨G4, ρ3, c, (R3.step P4 j4).nox, go_nox ?_⟩
          refine T.sat_mono (fun d c5 z5 G5 H5 P5 j5 v rv => ?_) (fun _ _ z => z) (sat_noexc (T.sat_bind z4))
          have P5 : Post C.J.fp G4 H4 G5 H5 := P5
          have hD5 : H5 D = some (.lst acc) := stepD P5 (stepD P4 hD3)
          have gD5 : G5 D = none := stepG P5 (stepD P4 hD3) (stepG P4 hD3 gD3)
          refine ⟨acc, hD5, by omega, G5, c5, acc ++ [v], ds ++ [d], (back (P4.trans P5) j5).other gD5 h0 hD5 nw, Wk.up _ _ (gr.trans (Gr.trans P4.gg P5.gg)) gd, gD5, upd_same, by rw [List.length_append]; simp; omega, (rds.mono (Gr.trans gr (Gr.trans P4.gg P5.gg))).app (.one rv), ?_, ?_⟩
          · have Pn := Pc.trans (P3.trans (P4.trans P5))
            refine ⟨Pn.gg, fun a o q => by rw [upd_ne (fun z => by rw [z, gD5] at q; cases q)]; exact Pn.sub a o q, fun a o nf q => by rw [upd_ne (ne_of_none q hD)]; exact Pn.hh a o nf q, fun a q => ?_, Pn.fr⟩
            by_cases h : a = D
            · rw [h, upd_same]; simp
            · rw [upd_ne h]; exact Pn.th a q
          · refine T.sat_mono (fun rest c z6 G' H' P' j' p ys n1 n2 e1 r1 => z6 G' H' P' j' p ys n1 n2 e1 (by simpa using r1)) (fun _ _ z => z) (T.sat_bind z5)
    · have ei : i = xs.length := by omega
      subst ei
      rw [List.drop_length] at z
      exact .inl ⟨Wk.stop Gc Hc Rc.sub gd, z Gc Hc Pc Rc.jar D acc hHD gDn hDc (by simpa using rds)⟩
/-- a new list as data -/
theorem d_LD {f : Rho → T (List D)} {t : TE} (h : ∀ σ H Q, tL C f σ H Q → t σ H Q) : ∀ σ H Q, tD C (fun ρ => (f ρ).bind fun ds => .ret (.list ds)) σ H Q → t σ H Q := by
  rintro σ H Q ⟨G, ρ, b, R, q⟩
  refine h σ H Q ⟨G, ρ, b, R, T.sat_mono (fun ds c z G1 H1 P j p xs n g e r => ?_) (fun _ _ z => z) (T.sat_bind q)⟩
  have P : Post C.J.fp G H G1 H1 := P
  have gg : Gr G1 (upd G1 p (.lst xs)) := fun a o q => by rw [upd_ne (ne_of_none q g)]; exact q
  exact z (upd G1 p (.lst xs)) H1 (.give P.sub P e n) j (.ref p) (.lst upd_same (r.mono gg))
/-- new lists -/
def rNewL (r : List V → Hp → VK → Prop) : Prop := True
theorem t_lst {f : Rho → T (List D)} : ∀ σ H Q, tL C (fun ρ => (f ρ).bind fun ds => ask (ds.length ≤ sizeLine) (.ret ds)) σ H Q → tLst (tA C f) σ H Q := by
  rintro σ H Q ⟨G, ρ, b, R, h⟩
  refine ⟨G, ρ, b, R, (Go.bind R h).mono fun ds G1 H1 c P j z vs rs => ?_⟩
  obtain ⟨R1, z⟩ := z
  obtain ⟨hz, z⟩ := Go.ask z
  refine ⟨by rw [rs.len]; exact hz, fun p n => ?_⟩
  have gp : G1 p = none := by
    cases q : G1 p with
    | none => rfl
    | some o => have := R1.sub p o q; rw [n] at this; cases this
  have hp : H p = none := by
    cases q : H p with
    | none => rfl
    | some o => exact absurd n (P.th p (by rw [q]; simp))
  exact (z G1 (upd H1 p (.lst vs)) (.newH R1.sub n) (C.J.loc c H1 _ R1.jar fun a ha => upd_ne fun z => R1.post.th a (R1.jth a ha) (by rw [z]; exact n))).2 p vs hp gp upd_same rs
end
end Y
namespace Y
open PySem PySem.Spec PyProof.Rows L2

/-! ### zip of lists and tuples -/
def SqB (k : Bool) (K : PySem.W.Frag) (H : Hp) (a : Addr) (xs : List V) : Prop := match k with
  | true => SqT K H a xs
  | false => SqL K H a xs
def ItB (k : Bool) (h : Heap) (it a : Addr) (i : Nat) : Prop := match k with
  | true => h.IsTupleIter it a i
  | false => h.IsListIter it a i
def SeqB (k : Bool) (h : Heap) (a : Addr) (its : Array Value) : Prop := match k with
  | true => h.IsTuple a its
  | false => h.IsList a its
def itObj (k : Bool) (a : Addr) : Obj := match k with
  | true => { cls := .type "tuple_iterator", data := .fields #[.ref a, .int 0 0] }
  | false => { cls := .type "list_iterator", data := .fields #[.ref a, .int 0 0] }
section
variable {X : Cx} {pins : List (Addr × Obj)} {σ : L2.St} {H : Hp} {s : Shared} {a it : Addr} {xs ys : List V} {k : Bool}
theorem sqB_its (I : Inv X pins σ H s) (h : SqB k X.K H a xs) : ∃ its : List Value, Vals xs its ∧ SeqB k s.heap a its.toArray := by
  cases k with
  | true => obtain ⟨its, r, p, _⟩ := I.tuple h; exact ⟨its, r, p⟩
  | false => obtain ⟨its, r, p, _⟩ := I.list h; exact ⟨its, r, p.isList⟩
theorem sqB_inj (I : Inv X pins σ H s) (h : SqB k X.K H a xs) (h' : SqB k X.K H a ys) : xs = ys := by
  cases k with
  | true => exact I.tuple_inj h h'
  | false => exact I.list_inj h h'
theorem seqB_lt {h : Heap} {its : Array Value} (p : SeqB k h a its) : a < h.objs.size := by
  cases k with
  | true => obtain ⟨_, e, _⟩ := p; exact Heap.lt_size e
  | false => obtain ⟨_, e, _⟩ := p; exact Heap.lt_size e
theorem itB_at {h h' : Heap} {i : Nat} (x : ItB k h it a i) (e : ∀ o, h.get? it = some o → h'.get? it = some o) : ItB k h' it a i := by
  cases k with
  | true => exact PySem.Heap.IsTupleIter.at x e
  | false => exact PySem.Heap.IsListIter.at x e
theorem itB_obj {h : Heap} {i : Nat} (x : ItB k h it a i) : ∃ o, h.get? it = some o ∧ ∀ v, o.data ≠ .cell v := by
  cases k with
  | true => obtain ⟨o, e, _, d⟩ := x; exact ⟨o, e, fun v z => by rw [d] at z; cases z⟩
  | false => obtain ⟨o, e, _, d⟩ := x; exact ⟨o, e, fun v z => by rw [d] at z; cases z⟩
theorem drawsB {prog : Program} {w : World} {A : Around} (hh : A.handled = none) (hne : a ≠ it) (items : Array Value) :
    Draws prog w A it [it, a] items.size (fun i v => items[i]? = some v) (fun i h => ItB k h it a i ∧ SeqB k h a items) := by
  cases k with
  | true => exact Draws.tuple hh it a hne items
  | false => exact Draws.list hh it a hne items
theorem beginsB (items : Array Value) : Begins (.ref a) (itObj k a) fun h => SeqB k h a items := by
  cases k with
  | true => exact begins_tuple a items
  | false => exact begins_list a items
theorem itB_new {h : Heap} (e : h.get? it = some (itObj k a)) : ItB k h it a 0 := by
  cases k with
  | true => exact ⟨_, e, rfl, rfl⟩
  | false => exact ⟨_, e, rfl, rfl⟩
end
/-- the two at a and b as they stand, the items in new pairs -/
def ItzB (ka kb : Bool) (K : PySem.W.Frag) (a b : Addr) : It :=
  ⟨fun i H => ∃ (xs ys : List V) (x y : V), SqB ka K H a xs ∧ SqB kb K H b ys ∧ xs[i]? = some x ∧ ys[i]? = some y,
    fun i H v H' => ∃ T x y, v = .ref T ∧ H T = none ∧ H' = upd H T (.tup [x, y]) ∧ (∀ xs, SqB ka K H a xs → xs[i]? = some x) ∧ ∀ ys, SqB kb K H b ys → ys[i]? = some y,
    fun i H => ∃ xs ys : List V, SqB ka K H a xs ∧ SqB kb K H b ys ∧ i ≤ xs.length ∧ i ≤ ys.length ∧ (i = xs.length ∨ i = ys.length)⟩
structure Apart (z TI TO i1 i2 a b : Addr) : Prop where
  l : [z, TI, TO, i1, i2].Nodup
  la : a ∉ [z, TI, TO, i1, i2]
  lb : b ∉ [z, TI, TO, i1, i2]
theorem Apart.sep {z TI TO i1 i2 a b : Addr} (D : Apart z TI TO i1 i2 a b) : ZipSep2 z TI TO i1 i2 [i1, a] [i2, b] := by
  obtain ⟨l, la, lb⟩ := D
  simp only [List.nodup_cons, List.mem_cons, List.not_mem_nil, or_false, not_or] at l la lb
  obtain ⟨⟨l1, l2, l3, l4⟩, ⟨l5, l6, l7⟩, ⟨l8, l9⟩, l10, _⟩ := l
  obtain ⟨a1, a2, a3, a4, a5⟩ := la
  obtain ⟨b1, b2, b3, b4, b5⟩ := lb
  constructor <;> first | (simp only [List.mem_cons, List.not_mem_nil, or_false, not_or, true_or, or_true]; first | trivial | (refine ⟨?_, ?_⟩ <;> first | assumption | (apply Ne.symm; assumption))) | assumption | (apply Ne.symm; assumption) | simp
theorem turn_zipB {P : Program} {w : World} {K : PySem.W.Frag} {elts : List Expr} {kk : Nat} {tpos : Pos} {ka kb : Bool} {a b z TI TO i1 i2 : Addr} (D : Apart z TI TO i1 i2 a b) :
    Turn P w K (.Tuple elts kk tpos) (ItzB ka kb K a b) [z, TI, TO, i1, i2] z (fun i h => IsZip h z TI TO .none ∧ IsTupOf2 h TI (.ref i1) (.ref i2) ∧ (∃ x y, IsTupOf2 h TO x y) ∧ ItB ka h i1 a i ∧ ItB kb h i2 b i) where
  mem := by simp
  obj := fun i h st c hc => by
    obtain ⟨hz, hTI, ⟨x, y, hTO⟩, h1, h2⟩ := st
    have e : c = z ∨ c = TI ∨ c = TO ∨ c = i1 ∨ c = i2 := by simpa using hc
    rcases e with rfl | rfl | rfl | rfl | rfl
    · exact ⟨_, hz, fun v q => nomatch q⟩
    · exact ⟨_, hTI, fun v q => nomatch q⟩
    · exact ⟨_, hTO, fun v q => nomatch q⟩
    · exact itB_obj h1
    · exact itB_obj h2
  keep := fun i h h' st q => by
    obtain ⟨hz, hTI, ⟨x, y, hTO⟩, h1, h2⟩ := st
    exact ⟨q z (by simp) _ hz, q TI (by simp) _ hTI, ⟨x, y, q TO (by simp) _ hTO⟩, itB_at h1 fun o e => q i1 (by simp) o e, itB_at h2 fun o e => q i2 (by simp) o e⟩
  item := by
    intro X hP hw hK hc i pins s σ H E I hf st hg
    subst hP hw hK
    obtain ⟨hz, hTI, ⟨u1, u2, hTO⟩, h1, h2⟩ := st
    obtain ⟨xs, ys, x, y, hx, hy, ex, ey⟩ := hg
    obtain ⟨its, rv, p1⟩ := sqB_its I hx
    obtain ⟨jts, rw', p2⟩ := sqB_its I hy
    obtain ⟨vx, gx, rx⟩ := rv.get ex
    obtain ⟨vy, gy, ry⟩ := rw'.get ey
    have S := D.sep
    have hh := I.ok.hd hc
    have lx : i < its.toArray.size := by simpa using (List.getElem?_eq_some_iff.mp gx).1
    have ly : i < jts.toArray.size := by simpa using (List.getElem?_eq_some_iff.mp gy).1
    have na : a ≠ i1 := fun e => D.la (by rw [e]; simp)
    have nb : b ≠ i2 := fun e => D.lb (by rw [e]; simp)
    refine wpAny_pyNext_zipD2_item S (drawsB (k := ka) (A := X.A.in1) hh na its.toArray) (drawsB (k := kb) (A := X.A.in1) hh nb jts.toArray) hz hTI hTO ⟨h1, p1⟩ ⟨h2, p2⟩ lx ly fun x1 x2 h' tk e1 e2 z' T' s1 s2 hT hsz hk => ?_
    have ev1 : vx = x1 := by
      have : its.toArray[i]? = some vx := by simpa using gx
      exact Option.some.inj (this.symm.trans e1)
    have ev2 : vy = x2 := by
      have : jts.toArray[i]? = some vy := by simpa using gy
      exact Option.some.inj (this.symm.trans e2)
    subst ev1 ev2
    refine ⟨_, rfl, wpAny_letOwnedTupleGo_zip (s := { s with heap := h', toks := tk }) z' fun h'' hz'' sb => ?_⟩
    have zl : z < s.heap.objs.size := Heap.lt_size hz
    have kept : ∀ c o, c ∉ [z, TI, TO, i1, i2] → s.heap.get? c = some o → h''.get? c = some o := fun c o hc e =>
      (sb.2 c (fun q => hc (by simp [q]))).trans (hk c o (fun q => hc (by simp [q])) (fun q => hc (by simp [q])) (fun q => hc (by simp [q])) (fun q => hc (by simp [q])) e)
    have hT2 : h''.get? s.heap.objs.size = some { cls := .type "tuple", data := .seq #[vx, vy] } := (sb.2 _ (Nat.ne_of_gt zl)).trans hT
    have new : ObjOk X.prog X.w (upd H s.heap.objs.size (.tup [x, y])) h'' s.heap.objs.size (.tup [x, y]) := ⟨by show 2 ≤ sizeLine; decide, [vx, vy], .cons rx (.cons ry .nil), ⟨_, hT2, rfl, _, rfl⟩⟩
    have I1 : Inv X pins σ (upd H s.heap.objs.size (.tup [x, y])) { s with heap := h'', toks := tk } := I.turnedNew (ch := [z, TI, TO, i1, i2]) kept hf (Nat.le_refl _) new
    have nz : ∀ c, c ∈ [TI, TO, i1, i2] → c ≠ z := fun c hc e => (List.nodup_cons.mp D.l).1 (e ▸ hc)
    refine ⟨.ref s.heap.objs.size, _, I1, rfl, ⟨_, x, y, rfl, I.hok.fresh (Nat.le_refl _), rfl, fun zs hq => by rw [sqB_inj I hq hx]; exact ex, fun zs hq => by rw [sqB_inj I hq hy]; exact ey⟩,
      ⟨hz'', ?_, ⟨vx, vy, (sb.2 TO (nz TO (by simp))).trans T'⟩, itB_at s1.1 fun o q => (sb.2 i1 (nz i1 (by simp))).trans q, itB_at s2.1 fun o q => (sb.2 i2 (nz i2 (by simp))).trans q⟩, fun c hc => ?_⟩
    · exact (sb.2 TI (nz TI (by simp))).trans (hk TI _ S.TIz S.TITO S.TIi1 S.TIi2 hTI)
    · have hcl : c < s.heap.objs.size := by
        have e : c = z ∨ c = TI ∨ c = TO ∨ c = i1 ∨ c = i2 := by simpa using hc
        rcases e with rfl | rfl | rfl | rfl | rfl
        · exact zl
        · exact Heap.lt_size hTI
        · exact Heap.lt_size hTO
        · obtain ⟨o, q, _⟩ := itB_obj h1; exact Heap.lt_size q
        · obtain ⟨o, q, _⟩ := itB_obj h2; exact Heap.lt_size q
      rw [upd_ne (Nat.ne_of_lt hcl)]
      exact (hf c hc).1
  done := by
    intro X hP hw hK hc i pins s σ H E I hf st hg
    subst hP hw hK
    obtain ⟨hz, hTI, ⟨u1, u2, hTO⟩, h1, h2⟩ := st
    obtain ⟨xs, ys, hx, hy, l1, l2, hend⟩ := hg
    obtain ⟨its, rv, p1⟩ := sqB_its I hx
    obtain ⟨jts, rw', p2⟩ := sqB_its I hy
    have hh := I.ok.hd hc
    have na : a ≠ i1 := fun e => D.la (by rw [e]; simp)
    have nb : b ≠ i2 := fun e => D.lb (by rw [e]; simp)
    have e1 := rv.length
    have e2 := rw'.length
    refine wpAny_pyNext_zipD2_end D.sep (drawsB (k := ka) (A := X.A.in1) hh na its.toArray) (drawsB (k := kb) (A := X.A.in1) hh nb jts.toArray) hz hTI hTO ⟨h1, p1⟩ ⟨h2, p2⟩ (by simp; omega) (by simp; omega) (by simp; omega) fun h' tk hk => ⟨rfl, ?_⟩
    exact I.turnedL (t' := tk) (ch := [z, TI, TO, i1, i2]) (fun c o hb q => hk c o (fun q' => hb (by simp [q'])) (fun q' => hb (by simp [q'])) (fun q' => hb (by simp [q'])) (fun q' => hb (by simp [q'])) q) hf
  self := fun A i s Q E st h => wpAny_pyIter_zip st.1 h
theorem five_nodup (n : Nat) : [n + 4, n + 2, n + 3, n, n + 1].Nodup := by
  simp only [List.nodup_cons, List.mem_cons, List.not_mem_nil, or_false, not_or, List.nodup_nil, not_false_eq_true, and_true]
  omega
theorem five_not {n a : Nat} (h : a < n) : a ∉ [n + 4, n + 2, n + 3, n, n + 1] := by
  simp only [List.mem_cons, List.not_mem_nil, or_false, not_or]
  omega
theorem five_le {n c : Nat} (h : c ∈ [n + 4, n + 2, n + 3, n, n + 1]) : n ≤ c := by
  simp only [List.mem_cons, List.not_mem_nil, or_false] at h
  omega
def iZipB (K : PySem.W.Frag) (ta : TA) : TI := fun σ H R => ta σ H fun vs H1 => ∃ ka kb a b xs ys, vs = [.ref a, .ref b] ∧ SqB ka K H1 a xs ∧ SqB kb K H1 b ys ∧ R (ItzB ka kb K a b) H1
theorem pi_zipB {X : Cx} {e e2 : Expr} {ta : TA} {p pos tpos : Pos} {elts : List Expr} {kk : Nat} (hg : Gl X "zip") (hm : X.mg "zip" = none) (ha : PA X [e, e2] ta)
    (hs : starEach [e, e2] X.env = (false, eval e X.env) :: starEach [e2] X.env := by rfl) (hpl : (backTo pos (starEach [e2] X.env)).any (·.1) = false := by rfl) :
    PI X (.Tuple elts kk tpos) (.Call (.Name "zip" p) [e, e2] [] pos) (iZipB X.K ta) := by
  refine ⟨fun pins s σ H R I h => ?_⟩
  refine Call_ (ld_blt I hg hm PyProof.Rows.boot_zip (PyProof.Rows.callWith_type1 (thn (ha.run pos pins s σ H _ I h) fun us s1 hv => ?_) hs hpl))
  obtain ⟨vs, H1, I1, r1, ka, kb, a, b, xs, ys, ev, hx, hy, q⟩ := hv
  subst ev
  obtain ⟨u1, u2, eu, ra, rb⟩ := vals2 r1
  subst eu
  cases ra
  cases rb
  obtain ⟨its, rv, p1⟩ := sqB_its I1 hx
  obtain ⟨jts, rw', p2⟩ := sqB_its I1 hy
  have la := seqB_lt p1
  have lb := seqB_lt p2
  refine zip_begins2 (beginsB (k := ka) its.toArray) (beginsB (k := kb) jts.toArray) p1 p2 fun h' hz hTI hTO g1 g2 hsz hk => wpAny_pyIter_zip hz ?_
  have I2 : Inv X pins σ H1 { s1 with heap := h' } := I1.kept (t' := s1.toks) hk
  refine ⟨s1.heap.objs.size + 4, [s1.heap.objs.size + 4, s1.heap.objs.size + 2, s1.heap.objs.size + 3, s1.heap.objs.size, s1.heap.objs.size + 1], _, _, H1, rfl, I2, turn_zipB ⟨?_, ?_, ?_⟩, ⟨hz, hTI, ⟨_, _, hTO⟩, itB_new g1, itB_new g2⟩, fun c hcm => ?_, q⟩
  · exact five_nodup _
  · exact five_not la
  · exact five_not lb
  · have hle : s1.heap.objs.size ≤ c := five_le hcm
    exact I1.fpOk hle (I1.hok.fresh hle)
section
variable {C : Ct} {σ : L2.St} {G H G' H' : Hp} {ρ : Rho} {b c : Nat}
def zip2 (d e : D) : T (List (D × D)) := (seqOf d).bind fun xs => (seqOf e).bind fun ys => .ret (xs.zip ys)
/-- what stands at a as a list or a tuple -/
def SeqG (C : Ct) (k : Bool) (G : Hp) (a : Addr) (xs : List V) : Prop := match k with
  | true => SqP C.K G a xs
  | false => G a = some (.lst xs)
theorem SeqG.up {k : Bool} {a : Addr} {xs : List V} (g : Gr G G') (h : SeqG C k G a xs) : SeqG C k G' a xs := by
  cases k with
  | true => exact h.mono g
  | false => exact g _ _ h
theorem SeqG.B {k : Bool} {a : Addr} {xs : List V} (g : Gr G H) (h : SeqG C k G a xs) : SqB k C.K H a xs := by
  cases k with
  | true => exact (h.mono g).T
  | false => exact SqL.of (g _ _ h)
theorem seqG_of {v : V} {d : D} {ds : List D} (r : RD C.J.O C.K G v d) (h : ∀ (α : Type) (k : List D → T α), (seqOf d).bind k = k ds) : ∃ k a xs, v = .ref a ∧ SeqG C k G a xs ∧ RDs C.J.O C.K G xs ds := by
  have h0 := h Unit fun _ => .ret ()
  cases r with
  | lst e r =>
    rename_i a xs es
    have e2 : es = ds := by
      have := h (List D) fun x => .ret x
      exact T.ret.inj this
    subst e2
    exact ⟨false, a, xs, rfl, e, r⟩
  | tup e r =>
    rename_i a xs es
    have e2 : es = ds := by
      have := h (List D) fun x => .ret x
      exact T.ret.inj this
    subst e2
    exact ⟨true, a, xs, rfl, e, r⟩
  | _ => cases h0
theorem seq_cases (d : D) : (∃ ds, ∀ (α : Type) (k : List D → T α), (seqOf d).bind k = k ds) ∨ ∀ (α : Type) (k : List D → T α), (seqOf d).bind k = .bad := by
  cases d <;> first | exact .inl ⟨_, fun _ _ => rfl⟩ | exact .inr fun _ _ => rfl
theorem i_zip {us : List Nat} {f g : Rho → T D} {gs : List D → Rho → Option Rho} : ∀ σ H R, tIt C us (fun ρ => (f ρ).bind fun x => (g ρ).bind fun y => zip2 x y) (gTup C.K 2 (gsD C us gs)) (fun p => gs [p.1, p.2]) σ H R →
    iZipB C.K (tCons (tD C f) (tCons (tD C g) tNil)) σ H R := by
  rintro σ H R ⟨G, ρ, b, Rl, h⟩
  refine ⟨G, ρ, b, Rl, (Go.bind Rl h).mono fun d G1 H1 c P j z v rv => ?_⟩
  obtain ⟨R1, z⟩ := z
  refine ⟨G1, ρ, c, R1, (Go.bind R1 z).mono fun e G2 H2 c2 P2 j2 z2 w rw => ?_⟩
  obtain ⟨R2, z2⟩ := z2
  have rv2 := rv.mono P2.gg
  rcases seq_cases d with ⟨ds, hd⟩ | hd
  · rcases seq_cases e with ⟨es, he⟩ | he
    · obtain ⟨ka, a, xs, rfl, sa, ra⟩ := seqG_of rv2 hd
      obtain ⟨kb, b', ys, rfl, sb, rb⟩ := seqG_of rw he
      unfold zip2 at z2
      rw [hd, he] at z2
      refine ⟨ka, kb, a, b', xs, ys, rfl, sa.B R2.sub, sb.B R2.sub, (z2.ret R2).2.2 _ (fun G => SeqG C ka G a xs ∧ RDs C.J.O C.K G xs ds ∧ SeqG C kb G b' ys ∧ RDs C.J.O C.K G ys es) ⟨sa, ra, sb, rb⟩ ⟨fun G G' g q => ⟨q.1.up g, q.2.1.mono g, q.2.2.1.up g, q.2.2.2.mono g⟩, fun i G H hi g q => ?_, fun G H g q => ?_, fun i p G H ρ σ b x H' ρ' Q ha R2 q y eg k => ?_⟩⟩
      · rw [List.length_zip] at hi
        have h1 : i < xs.length := by rw [ra.len]; omega
        have h2 : i < ys.length := by rw [rb.len]; omega
        exact ⟨xs, ys, xs[i], ys[i], q.1.B g, q.2.2.1.B g, List.getElem?_eq_getElem h1, List.getElem?_eq_getElem h2⟩
      · refine ⟨xs, ys, q.1.B g, q.2.2.1.B g, ?_⟩
        rw [List.length_zip, ra.len, rb.len]
        omega
      · obtain ⟨T, x1, y1, rfl, nT, rfl, fx, fy⟩ := y
        rw [List.getElem?_zip_eq_some] at ha
        obtain ⟨vx, ex, rx⟩ := q.2.1.get ha.1
        obtain ⟨vy, ey, ry⟩ := q.2.2.2.get ha.2
        have e1 : vx = x1 := Option.some.inj (ex.symm.trans (fx xs (q.1.B R2.sub)))
        have e2 : vy = y1 := Option.some.inj (ey.symm.trans (fy ys (q.2.2.1.B R2.sub)))
        subst e1 e2
        have Pn : Post C.J.fp G H G (upd H T (.tup [vx, vy])) := .newH R2.sub nT
        have Rn : Rel C G (upd H T (.tup [vx, vy])) ρ σ b := R2.step Pn (C.J.loc b H _ R2.jar fun a ha => upd_ne fun z => R2.post.th a (R2.jth a ha) (by rw [z]; exact nT))
        exact ⟨T, [vx, vy], rfl, SqT.of upd_same, rfl, G, ρ, b, [p.1, p.2], ρ', Rn, .cons rx (.cons ry .nil), eg, fun σ' R' s1 => k σ' G (Gr.refl _) R' s1 Pn⟩
    · unfold zip2 at z2
      rw [hd, he] at z2
      exact z2.bad.elim
  · unfold zip2 at z2
    rw [hd] at z2
    exact z2.bad.elim
end
end Y
namespace Y
open PySem PySem.Spec PyProof.Rows L2

section
variable {X : Cx} {C : Ct} {σ : L2.St} {G H G' H' : Hp} {ρ : Rho} {b c : Nat}

/-! ### truth values as values, chains -/
def boolOf : D → T Bool
  | .bool k => .ret k
  | _ => .bad
def andD (f g : Rho → T D) (ρ : Rho) : T D := (f ρ).bind fun x => (boolOf x).bind fun k => if k then g ρ else .ret (.bool false)
def orD (f g : Rho → T D) (ρ : Rho) : T D := (f ρ).bind fun x => (boolOf x).bind fun k => if k then .ret (.bool true) else g ρ
def notD (f : Rho → T D) (ρ : Rho) : T D := (f ρ).bind fun x => (boolOf x).bind fun k => .ret (.bool !k)
theorem d_andV {f g : Rho → T D} : ∀ σ H Q, tD C (andD f g) σ H Q → tAndV (tD C f) (tD C g) σ H Q := by
  rintro σ H Q ⟨G, ρ, b, R, h⟩
  refine ⟨G, ρ, b, R, (Go.bind R h).mono fun d G1 H1 c P j z v rv => ?_⟩
  obtain ⟨R1, z⟩ := z
  cases rv with
  | bl k =>
    refine ⟨k, rfl, ?_⟩
    cases k with
    | true => exact ⟨G1, ρ, c, R1, z.mono fun _ _ _ _ _ _ q => q.2⟩
    | false => exact (z.ret R1).2 _ (.bl _)
  | _ => exact z.bad.elim
theorem d_orV {f g : Rho → T D} : ∀ σ H Q, tD C (orD f g) σ H Q → tOrV (tD C f) (tD C g) σ H Q := by
  rintro σ H Q ⟨G, ρ, b, R, h⟩
  refine ⟨G, ρ, b, R, (Go.bind R h).mono fun d G1 H1 c P j z v rv => ?_⟩
  obtain ⟨R1, z⟩ := z
  cases rv with
  | bl k =>
    refine ⟨k, rfl, ?_⟩
    cases k with
    | false => exact ⟨G1, ρ, c, R1, z.mono fun _ _ _ _ _ _ q => q.2⟩
    | true => exact (z.ret R1).2 _ (.bl _)
  | _ => exact z.bad.elim
theorem d_notV {f : Rho → T D} : ∀ σ H Q, tD C (notD f) σ H Q → tNotV (tD C f) σ H Q := by
  rintro σ H Q ⟨G, ρ, b, R, h⟩
  refine ⟨G, ρ, b, R, (Go.bind R h).mono fun d G1 H1 c P j z v rv => ?_⟩
  obtain ⟨R1, z⟩ := z
  cases rv with
  | bl k => exact ⟨k, rfl, (z.ret R1).2 _ (.bl _)⟩
  | _ => exact z.bad.elim
/-- a value that is a truth value, as a test -/
theorem d_boolT {f : Rho → T D} : ∀ σ H Q, tT C (fun ρ => (f ρ).bind boolOf) σ H Q → tB (tD C f) σ H Q := by
  rintro σ H Q ⟨G, ρ, b, R, h⟩
  refine ⟨G, ρ, b, R, (Go.bind R h).mono fun d G1 H1 c P j z v rv => ?_⟩
  obtain ⟨R1, z⟩ := z
  cases rv with
  | bl k => exact ⟨k, rfl, (z.ret R1).2⟩
  | _ => exact z.bad.elim
theorem d_testB {f : Rho → T D} {t : TE} (hf : ∀ σ H Q, tD C f σ H Q → t σ H Q) : ∀ σ H Q, tT C (fun ρ => (f ρ).bind boolOf) σ H Q → tTest t σ H Q := by
  rintro σ H Q ⟨G, ρ, b, R, h⟩
  refine hf σ H _ ⟨G, ρ, b, R, (Go.bind R h).mono fun d G1 H1 c P j z v rv => ?_⟩
  obtain ⟨R1, z⟩ := z
  cases rv with
  | bl k => exact ⟨k, rfl, (z.ret R1).2⟩
  | _ => exact z.bad.elim
def chainD (op1 op2 : D → D → T D) (f g h : Rho → T D) (ρ : Rho) : T D := (f ρ).bind fun x => (g ρ).bind fun y => (op1 x y).bind fun z => (boolOf z).bind fun k => if k then (h ρ).bind fun u => op2 y u else .ret (.bool false)
theorem d_chain {r1 r2 : R2} {op1 op2 : D → D → T D} (h1 : Op2 C r1 op1) (h2 : Op2 C r2 op2) {f g h : Rho → T D} : ∀ σ H Q, tD C (chainD op1 op2 f g h) σ H Q → tChain r1 r2 (tD C f) (tD C g) (tD C h) σ H Q := by
  rintro σ H Q ⟨G, ρ, b, R, q⟩
  refine ⟨G, ρ, b, R, (Go.bind R q).mono fun d G1 H1 c P j z v rv => ?_⟩
  obtain ⟨R1, z⟩ := z
  refine ⟨G1, ρ, c, R1, (Go.bind R1 z).mono fun e G2 H2 c2 P2 j2 z2 w rw => ?_⟩
  obtain ⟨R2, z2⟩ := z2
  refine h1 σ G2 H2 ρ c2 v w d e _ R2 (rv.mono P2.gg) rw ((Go.bind R2 z2).mono fun k G3 H3 c3 P3 j3 z3 u ru => ?_)
  obtain ⟨R3, z3⟩ := z3
  cases ru with
  | bl k =>
    refine ⟨k, rfl, ?_⟩
    cases k with
    | false => exact (z3.ret R3).2.2.2 _ (.bl _)
    | true =>
      have z3 : Go C σ G3 H3 ρ c3 ((h ρ).bind fun u => op2 e u) _ := z3
      refine ⟨G3, ρ, c3, R3, (Go.bind R3 z3).mono fun e2 G4 H4 c4 P4 j4 z4 u2 ru2 => ?_⟩
      exact h2 σ G4 H4 ρ c4 w u2 e e2 Q z4.1 ((rw.mono P3.gg).mono P4.gg) ru2 (z4.2.mono fun _ _ _ _ _ _ q => q.2.2.2.2)
  | _ => exact z3.bad.elim

/-! ### a method of a tuple -/
def tMP (K : PySem.W.Frag) (r : V → List V → Hp → VK → Prop) (to : TE) (t : TA) : TE := fun σ H Q => to σ H fun x H1 => (∃ a xs, x = .ref a ∧ SqP K H1 a xs) ∧ t σ H1 fun xs H2 => r x xs H2 Q
theorem tupP_is {pins : List (Addr × Obj)} {s : Shared} {a : Addr} {xs : List V} (I : Inv X pins σ H s) (h : SqP X.K H a xs) : s.TypeIs (.ref a) "tuple" ∧ ∀ p, Value.ref a = .ref p → ∃ ob, s.heap.get? p = some ob ∧ ob.dict = none := by
  rcases h with ⟨o, e, hc, hd⟩ | ⟨o, its, n, e, hc, hd, _⟩
  · obtain ⟨q, _⟩ := I.hok a _ e
    exact ⟨⟨o, q, hc⟩, fun p z => by cases z; exact ⟨o, q, hd⟩⟩
  · exact ⟨⟨o, I.kIn a o e, hc⟩, fun p z => by cases z; exact ⟨o, I.kIn _ o e, hd⟩⟩
theorem pe_mP {o e : Expr} {es : List Expr} {to : TE} {t : TA} {name : Str} {apos cpos : Pos} {id : String} {r : V → List V → Hp → VK → Prop} (slot : Slot "tuple" name id) (hty : typeOf (.builtin id) = pure (.type "method_descriptor")) (hm : MtR X id r) (ho : PE X o to) (ha : PA X (e :: es) t)
    (hbase : attributeBase o name X.env (eval o X.env) = eval o X.env := by rfl)
    (hfew : ((backTo cpos (starEach (e :: es) X.env)).all (fun x => !x.1) && (backToKw cpos (keywordEach [] X.env)).all (fun x => x.1.isSome)
      && decide ((e :: es).length + ([] : List Keyword).length + (if ([] : List Keyword).isEmpty then 0 else 1) < 30)) = true := by rfl)
    (hline : (apos.endLine == cpos.line) = true := by rfl) (hs : starEach (e :: es) X.env = (false, eval e X.env) :: starEach es X.env := by rfl) (hplain : (backTo cpos (starEach es X.env)).any (·.1) = false := by rfl) :
    PE X (.Call (.Attribute o name apos) (e :: es) [] cpos) (tMP X.K r to t) := by
  refine ⟨fun pins s σ H Q I h => ?_⟩
  refine wpAny_Call_method_late hbase hfew hline rfl (thn (ho.run pins s σ H _ I h) fun v s1 hv => ?_)
  obtain ⟨x, H1, I1, r1, ⟨a, xs, ex, hp⟩, q1⟩ := hv
  subst ex
  cases r1
  obtain ⟨t1, t2⟩ := tupP_is I1 hp
  refine ⟨"tuple", id, PySem.F.plainAttrs_tuple, slot, hty, t1, t2, ?_⟩
  have hA := ha.run cpos pins s1 σ H1 _ I1 q1
  rw [hs] at hA ⊢
  refine Calls.callWith_builtin (by show (false || (backTo cpos (starEach es X.env)).any (·.1)) = false; rw [hplain] <;> rfl) (Calls.evalArgs_plain ?_)
  exact thn hA fun us s2 hv2 => by
    obtain ⟨vs, H2, I2, r2, q2⟩ := hv2
    exact hm pins s2 σ H2 (.ref a) vs _ us Q I2 rfl r2 q2
def strsOf : List D → Option (List Str)
  | [] => some []
  | .str x :: r => (strsOf r).map (x :: ·)
  | _ => none
def placeOf (z : Str) : List Str → Option Nat
  | [] => none
  | y :: r => if y = z then some 0 else (placeOf z r).map (· + 1)
theorem placeOf_spec {z : Str} : ∀ {ys : List Str} {j : Nat}, placeOf z ys = some j → ys[j]? = some z ∧ ∀ m, m < j → ys[m]? ≠ some z
  | [], _, h => by cases h
  | y :: r, j, h => by
    unfold placeOf at h
    split at h
    · rename_i e
      cases h
      exact ⟨by rw [e]; rfl, fun m hm => absurd hm (Nat.not_lt_zero m)⟩
    · rename_i ne
      cases q : placeOf z r with
      | none => rw [q] at h; cases h
      | some k =>
        rw [q] at h
        obtain rfl : k + 1 = j := Option.some.inj h
        obtain ⟨h1, h2⟩ := placeOf_spec q
        refine ⟨h1, fun m hm => ?_⟩
        cases m with
        | zero => exact fun e => ne (Option.some.inj e)
        | succ m => exact h2 m (by omega)
theorem strs_rd {O K G} : ∀ {xs : List V} {ds : List D} {ys : List Str}, RDs O K G xs ds → strsOf ds = some ys → xs = ys.map V.str
  | _, _, ys, .nil, h => by cases h; rfl
  | _, _, ys, .cons r rs, h => by
    cases r with
    | str x =>
      unfold strsOf at h
      rename_i vs ds
      cases q : strsOf ds with
      | none => rw [q] at h; cases h
      | some zs =>
        rw [q] at h
        cases h
        rw [strs_rd rs q]
        rfl
    | _ => cases h
def tupIndex (d : D) (es : List D) : T D := match d, es with
  | .tuple ds, [.str z] => orBad (((strsOf ds).bind (placeOf z)).map fun j => .int (j : Nat))
  | _, _ => .bad
def isTup : D → Bool
  | .tuple _ => true
  | _ => false
theorem d_tupIndex {f : Rho → T D} {g : Rho → T (List D)} : ∀ σ H Q, tD C (fun ρ => (f ρ).bind fun d => ask (isTup d = true) ((g ρ).bind fun es => tupIndex d es)) σ H Q →
    tMP C.K (fun x xs H Q => ∃ p, ∃ ys : List Str, ∃ z j, x = .ref p ∧ xs = [.str z] ∧ SqT C.K H p (ys.map V.str) ∧ ys[j]? = some z ∧ (∀ m, m < j → ys[m]? ≠ some z) ∧ Q (.int (j : Nat)) H) (tD C f) (tA C g) σ H Q := by
  rintro σ H Q ⟨G, ρ, b, R, h⟩
  refine ⟨G, ρ, b, R, (Go.bind R h).mono fun d G1 H1 c P j z v rv => ?_⟩
  obtain ⟨R1, z⟩ := z
  obtain ⟨ht, z⟩ := Go.ask z
  cases rv with
  | @tup a xs ds e r =>
    refine ⟨⟨a, xs, rfl, e.mono R1.sub⟩, G1, ρ, c, R1, (Go.bind R1 z).mono fun es G2 H2 c2 P2 j2 z2 ws rs => ?_⟩
    obtain ⟨R2, z2⟩ := z2
    match es, rs, z2 with
    | [.str w], .cons (.str _) .nil, z2 =>
      cases q : strsOf ds with
      | none =>
        have z2 : Go C σ G2 H2 ρ c2 (orBad (((strsOf ds).bind (placeOf w)).map fun j => PyData.int (j : Nat))) _ := z2
        rw [q] at z2
        exact z2.bad.elim
      | some ys =>
        have z2 : Go C σ G2 H2 ρ c2 (orBad (((strsOf ds).bind (placeOf w)).map fun j => PyData.int (j : Nat))) _ := z2
        rw [q] at z2
        cases q2 : placeOf w ys with
        | none =>
          rw [Option.bind_some, q2] at z2
          exact z2.bad.elim
        | some k =>
          rw [Option.bind_some, q2] at z2
          obtain ⟨p1, p2⟩ := placeOf_spec q2
          refine ⟨a, ys, w, k, rfl, rfl, ?_, p1, p2, (z2.ret R2).2.2 _ (.int _)⟩
          rw [← strs_rd r q]
          exact ((e.mono P2.gg).mono R2.sub).T
    | [], _, z2 => exact z2.bad.elim
    | [.none], _, z2 => exact z2.bad.elim
    | [.bool _], _, z2 => exact z2.bad.elim
    | [.int _], _, z2 => exact z2.bad.elim
    | [.list _], _, z2 => exact z2.bad.elim
    | [.tuple _], _, z2 => exact z2.bad.elim
    | [.dict _], _, z2 => exact z2.bad.elim
    | x :: _ :: _, _, z2 => cases x <;> exact z2.bad.elim
  | _ => cases ht

/-! ### in, over words -/
def pyInW (neg : Bool) (d e : D) : T D := match d, e with
  | .str z, .tuple ds => match strsOf ds with
    | some ys => .ret (.bool (if neg then !decide (z ∈ ys) else decide (z ∈ ys)))
    | none => .bad
  | .str z, .list ds => match strsOf ds with
    | some ys => .ret (.bool (if neg then !decide (z ∈ ys) else decide (z ∈ ys)))
    | none => .bad
  | _, _ => .bad
end
end Y
namespace Y
open PySem PySem.Spec PyProof.Rows L2

section
variable {X : Cx} {C : Ct} {σ : L2.St} {G H G' H' : Hp} {ρ : Rho} {b c : Nat}

/-! ### raise -/
/-- X() of an own class without __init__ -/
theorem pmk_own0 {Ca : Addr} {bmB : List Value} {B newId initId : String} {x : Str} {p pos : Pos} (F : ExcBaseFacts B newId initId bmB) (q : PySem.W.excIn X.K Ca bmB newId = true) (gC : X.mg x = some (.ref Ca))
    (kC : PySem.W.keepIn X.K (.ref Ca) = true) (r : Raises X (.ref Ca)) (hg : Gl X x) (hdb : (x == ("__debug__" : Str)) = false := by decide) :
    PMk X (.Call (.Name x p) [] [] pos) (fun σ H Q => Q (.ref Ca) none H) := by
  intro pins s σ H Q I h
  refine wpAny_Call_Name_kw (ld_glob I hg gC ?_ hdb)
  refine PySem.W.callWith_K0 I.kIn kC ?_
  show wpAny _ _ (call (.ref Ca) []) _ _ _
  obtain ⟨bm, N, nm, qn, bs, hdct, sn, sub, ab, col, dd, k0, k1, k2, k3, k5, mN, hC, hN, hni, T⟩ := exc_obj I.kIn q
  exact wpAny_call_exc_subT F T hC hN hni (fun h' e hm => mk_of I hm r h (I.hok.gone hm.new)) (Nat.zero_le _)
def raiseS (n : Str) (ρ : Rho) : T Out := .ret (.xc ⟨n, none⟩ ρ)
theorem s_raise0 {n : Str} {Ca : Addr} (hm : C.mg n = some (.ref Ca)) : ∀ Dn σ H, tS C (raiseS n) Dn σ H → (fun (_ : Ends) σ H => (fun σ H (Q : XK) => Q (.ref Ca) none H) σ H fun cls d H' => C.W cls d σ H') Dn σ H := by
  rintro Dn σ H ⟨G, ρ, b, R, h⟩
  exact h (.ref Ca) none σ G H R ⟨Ca, rfl, hm, rfl⟩

/-! ### try: return .. except X as n: return .. -/
/-- the handle of an error that is held -/
abbrev Jr.exc (J : Jr) (a : Addr) : Jr := { J with O := fun v n => J.O v n ∨ (n = -1 ∧ v = .ref a) }
/-- the context of an except suite -/
abbrev Ct.exc (C : Ct) (a : Addr) : Ct := { C with J := C.J.exc a, W := fun _ _ _ _ => False }
mutual
theorem RD.more {O O' : V → Int → Prop} {K : PySem.W.Frag} {G : Hp} (h : ∀ v n, O v n → O' v n) : ∀ {v : V} {d : D}, RD O K G v d → RD O' K G v d
  | _, _, .non => .non
  | _, _, .bl b => .bl b
  | _, _, .int i => .int i
  | _, _, .str x => .str x
  | _, _, .lst e r => .lst e (RDs.more h r)
  | _, _, .tup e r => .tup e (RDs.more h r)
  | _, _, .dct e r => .dct e (RDk.more h r)
  | _, _, .opq o => .opq (h _ _ o)
  | _, _, .rng e => .rng e
theorem RDs.more {O O' : V → Int → Prop} {K : PySem.W.Frag} {G : Hp} (h : ∀ v n, O v n → O' v n) : ∀ {v : List V} {d : List D}, RDs O K G v d → RDs O' K G v d
  | _, _, .nil => .nil
  | _, _, .cons r t => .cons (RD.more h r) (RDs.more h t)
theorem RDk.more {O O' : V → Int → Prop} {K : PySem.W.Frag} {G : Hp} (h : ∀ v n, O v n → O' v n) : ∀ {v : List (Key × V)} {d : List (D × D)}, RDk O K G v d → RDk O' K G v d
  | _, _, .nil => .nil
  | _, _, .cons r t => .cons (RD.more h r) (RDk.more h t)
end
mutual
theorem RD.less {O O' : V → Int → Prop} {K : PySem.W.Frag} {G : Hp} : ∀ {v : V} {d : D}, RD O K G v d → d.hasDict = false → RD O' K G v d
  | _, _, .non, _ => .non
  | _, _, .bl b, _ => .bl b
  | _, _, .int i, _ => .int i
  | _, _, .str x, _ => .str x
  | _, _, .lst e r, h => .lst e (RDs.less r (by simpa only [PyData.hasDict] using h))
  | _, _, .tup e r, h => .tup e (RDs.less r (by simpa only [PyData.hasDict] using h))
  | _, _, .dct e r, h => by simp only [PyData.hasDict] at h; cases h
  | _, _, .opq _, h => by simp only [hdl, PyData.hasDict] at h; cases h
  | _, _, .rng _, h => by simp only [rgD, PyData.hasDict] at h; cases h
theorem RDs.less {O O' : V → Int → Prop} {K : PySem.W.Frag} {G : Hp} : ∀ {v : List V} {d : List D}, RDs O K G v d → PyData.hasDictAll d = false → RDs O' K G v d
  | _, _, .nil, _ => .nil
  | _, _, .cons r t, h => by
    simp only [PyData.hasDictAll, Bool.or_eq_false_iff] at h
    exact .cons (RD.less r h.1) (RDs.less t h.2)
end
theorem Rel.exc (R : Rel C G H ρ σ b) (a : Addr) : Rel (C.exc a) G H ρ σ b := by
  obtain ⟨α, ho, hi⟩ := R.own
  refine ⟨R.post, R.jar, R.jfr, R.jth, ⟨α, fun i ds e => ?_, hi⟩, fun i d e => ?_, R.len⟩
  · obtain ⟨h1, h2, h3, xs, h4, h5⟩ := ho i ds e
    exact ⟨h1, h2, h3, xs, h4, h5.more fun _ _ => .inl⟩
  · obtain ⟨v, h1, h2⟩ := R.dat i d e
    exact ⟨v, h1, h2.more fun _ _ => .inl⟩
/-- the errors that the clause takes -/
def tryR (i : Nat) (takes : Str → Option Bool) (f : Rho → T D) (h : Ev → Rho → T D) (ρ : Rho) : T Out := (f ρ).attempt.bind fun
  | .ok d => .ret (.rt d)
  | .error ev => match takes ev.cls, ev.arg with
    | some true, none => (noexc (h ev (ρ.set i (.dt (hdl (-1)))))).bind fun d => ask (d.hasDict = false) (.ret (.rt d))
    | some false, _ => .ret (.xc ev ρ)
    | _, _ => .bad
/-- the reading of the suite -/
def tSuite (C : Ct) (h : Ev → Rho → T D) (a : Addr) (cls : Value) (d : Option Addr) : TS := fun Dn σ H => ∃ ev, C.mg ev.cls = some cls ∧ ev.arg = none ∧ d = none ∧ tRet (tD (C.exc a) (h ev)) Dn σ H
theorem s_tryR {i : Nat} {takes : Str → Option Bool} {f : Rho → T D} {h : Ev → Rho → T D} {cv : Value}
    (hx : ∀ n Ca k, takes n = some k → C.mg n = some (.ref Ca) → PySem.W.exmOne C.K (.ref Ca) cv = some k) :
    ∀ Dn σ H, tS C (tryR i takes f h) Dn σ H → (fun Dn σ H => (fun W => tRet (tD { C with W := W } f)) (wAs C.K cv i (tSuite C h) C.W Dn) Dn σ H) Dn σ H := by
  rintro Dn σ H ⟨G, ρ, b, R, q⟩
  have q2 := T.sat_attempt (T.sat_bind q)
  refine ⟨G, ρ, b, ⟨R.post, R.jar, R.jfr, R.jth, R.own, R.dat, R.len⟩, T.sat_mono (fun d c z G' H' P j v r => ?_) (fun ev c z cl od G' H' R' x => ?_) q2⟩
  · exact z v G' H' (R.post.trans P) j r
  · have R' : Rel C G' H' ρ σ c := ⟨R'.post, R'.jar, R'.jfr, R'.jth, R'.own, R'.dat, R'.len⟩
    obtain ⟨Ca, rfl, hm, ha⟩ := x
    obtain ⟨n, ar⟩ := ev
    cases ar with
    | some d => 
      dsimp only at z
      cases tk : takes n with
      | none => simp only [tk] at z; exact z.elim
      | some k =>
        cases k with
        | true => simp only [tk] at z; exact z.elim
        | false =>
          simp only [tk] at z
          exact ⟨false, hx n Ca false tk hm, (fun e => by cases e), fun _ => z _ _ _ _ _ R' ⟨Ca, rfl, hm, ha⟩⟩
    | none =>
      have ha : od = none := ha
      subst ha
      dsimp only at z
      cases tk : takes n with
      | none => simp only [tk] at z; exact z.elim
      | some k =>
        cases k with
        | false =>
          simp only [tk] at z
          exact ⟨false, hx n Ca false tk hm, (fun e => by cases e), fun _ => z _ _ _ _ _ R' ⟨Ca, rfl, hm, rfl⟩⟩
        | true =>
          simp only [tk] at z
          refine ⟨true, hx n Ca true tk hm, fun _ a ha => ?_, (fun e => by cases e)⟩
          have R2 : Rel (C.exc a) G' H' (ρ.set i (.dt (hdl (-1)))) (σ.set i (some (.ref a))) c := (R'.exc a).set (.opq (.inr ⟨rfl, rfl⟩))
          refine ⟨⟨n, none⟩, hm, rfl, rfl, G', _, c, R2, T.sat_mono (fun d c2 z2 G2 H2 P2 j2 v rv => ?_) (fun _ _ z => z.elim) (sat_noexc (T.sat_bind z))⟩
          have z2 : T.sat (ask (d.hasDict = false) (.ret (.rt d))) c2 (Fin C Dn G) fun _ _ => False := z2
          unfold ask at z2
          split at z2
          · rename_i hd
            exact z2 v G2 H2 (R'.post.trans P2) j2 (rv.less hd)
          · exact z2.elim
/-- isinstance of the error that is held -/
def isExc (i : Nat) (k : Bool) (ρ : Rho) : T D := match ρ[i]? with
  | some (.dt (.dict [(.dict [], .int (-1))])) => .ret (.bool k)
  | _ => .bad
end
end Y
namespace Y
open PySem PySem.Spec PyProof.Rows L2

section
variable {X : Cx} {C : Ct} {a b c e : Expr} {es : List Expr} {f g h : Rho → T D} {fs : Rho → T (List D)} {t u : Rho → T Bool} {pos : Pos}
abbrev PD (X : Cx) (C : Ct) (e : Expr) (f : Rho → T D) : Prop := PE X e (tD C f)
abbrev PDt (X : Cx) (C : Ct) (e : Expr) (f : Rho → T Bool) : Prop := PT X e (tT C f)
abbrev PDa (X : Cx) (C : Ct) (e : List Expr) (f : Rho → T (List D)) : Prop := PA X e (tA C f)
abbrev PDL (X : Cx) (C : Ct) (e : Expr) (f : Rho → T (List D)) : Prop := PE X e (tL C f)
abbrev PDs (X : Cx) (C : Ct) (st : List Stmt) (F : Rho → T Out) : Prop := PSs X st (tS C F)
abbrev PD1 (X : Cx) (C : Ct) (st : Stmt) (F : Rho → T Out) : Prop := PS X st (tS C F)
/-- the data of an operation on two -/
abbrev op2 (op : D → D → T D) (f g : Rho → T D) (ρ : Rho) : T D := (f ρ).bind fun x => (g ρ).bind fun y => op x y
abbrev op1 (op : D → T D) (f : Rho → T D) (ρ : Rho) : T D := (f ρ).bind op

theorem pd_var (i : Nat) {x : Str} (hN : X.N[i]? = some x := by rfl) (hv : Vis X.env.scope x := by first | exact Or.inl rfl | exact Or.inr (Or.inl rfl) | exact Or.inr (Or.inr rfl)) (hd : (x == ("__debug__" : Str)) = false := by decide)
    (hcd : (x == ("__classdict__" : Str)) = false := by decide) : PD X C (.Name x pos) (gv i) := PEto (pv i hN hv hd hcd) d_var
theorem pd_int {i : Int} {j} : PD X C (.Constant (.int i) j pos) (fun _ => .ret (.int i)) := PEto pe_int (d_const fun _ => .int i)
theorem pd_bl {i : Bool} {j} : PD X C (.Constant (.bool i) j pos) (fun _ => .ret (.bool i)) := PEto pe_bl (d_const fun _ => .bl i)
theorem pd_str {i : Str} {j} : PD X C (.Constant (.str i) j pos) (fun _ => .ret (.str i)) := PEto pe_str (d_const fun _ => .str i)
theorem pd_non {j} : PD X C (.Constant .none j pos) (fun _ => .ret .none) := PEto pe_non (d_const fun _ => .non)
/-- a constant of the module -/
theorem pd_glob {x : Str} {v : V} {d : D} {w : Value} (hg : Gl X x) (hm : X.mg x = some w) (r : RelV v w) (rd : ∀ G, RD C.J.O C.K G v d) (hd : (x == ("__debug__" : Str)) = false := by decide) : PD X C (.Name x pos) (fun _ => .ret d) := PEto (pe_glob hg hm r hd) (d_const rd)
theorem pd_add (ha : PD X C a f) (hb : PD X C b g) (hK : X.K = C.K := by rfl) : PD X C (.BinOp a .Add b pos) (op2 pyAdd f g) := PEto (pe_op op_plus ha hb) (by rw [hK]; exact d_op o_add)
theorem pd_sub (ha : PD X C a f) (hb : PD X C b g) : PD X C (.BinOp a .Sub b pos) (op2 pySub f g) := PEto (pe_op op_sub ha hb) (d_op o_sub)
theorem pd_mul (ha : PD X C a f) (hb : PD X C b g) : PD X C (.BinOp a .Mult b pos) (op2 pyMul f g) := PEto (pe_op op_mul ha hb) (d_op o_mul)
theorem pd_mod (ha : PD X C a f) (hb : PD X C b g) : PD X C (.BinOp a .Mod b pos) (op2 pyMod f g) := PEto (pe_op op_mod ha hb) (d_op o_mod)
theorem pd_div (ha : PD X C a f) (hb : PD X C b g) : PD X C (.BinOp a .FloorDiv b pos) (op2 pyDiv f g) := PEto (pe_op op_fdiv ha hb) (d_op o_div)
theorem pd_pow (ha : PD X C a f) (hb : PD X C b g) : PD X C (.BinOp a .Pow b pos) (op2 pyPow f g) := PEto (pe_op op_pow ha hb) (d_op o_pow)
theorem pd_neg (ha : PD X C a f) : PD X C (.UnaryOp .USub a pos) (op1 pyNeg f) := PEto (pe_un un_neg ha) d_neg
theorem pd_not (ha : PD X C a f) : PD X C (.UnaryOp .Not a pos) (notD f) := PEto (pe_not ha) d_notV
theorem pd_and {rest : List Expr} (ha : PD X C a f) (hb : PD X C (.BoolOp .And (b :: rest) pos) g) : PD X C (.BoolOp .And (a :: b :: rest) pos) (andD f g) := PEto (pe_and ha hb) d_andV
theorem pd_or {rest : List Expr} (ha : PD X C a f) (hb : PD X C (.BoolOp .Or (b :: rest) pos) g) : PD X C (.BoolOp .Or (a :: b :: rest) pos) (orD f g) := PEto (pe_or ha hb) d_orV
theorem pd_one {o} (ha : PD X C a f) : PD X C (.BoolOp o [a] pos) f := pe_one ha
theorem pd_ifx (ht : PDt X C c t) (ha : PD X C a f) (hb : PD X C b g) : PD X C (.IfExp c a b pos) (ifT t f g) := PEto (pe_ifExp ht ha hb) d_if
/-! comparisons, as values and as tests -/
theorem pd_eq (hu : X.A.units + 64 < cLine) (ha : PD X C a f) (hb : PD X C b g) (hK : X.K = C.K := by rfl) : PD X C (.Compare a [.Eq] [b] pos) (op2 pyEq f g) := PEto (pe_cmpR (op_eqD hu) ha hb (nomark _)) (by rw [hK]; exact d_op o_eq)
theorem pd_ne (hu : X.A.units + 64 < cLine) (ha : PD X C a f) (hb : PD X C b g) (hK : X.K = C.K := by rfl) : PD X C (.Compare a [.NotEq] [b] pos) (op2 pyNe f g) := PEto (pe_cmpR (op_neD hu) ha hb (nomark _)) (by rw [hK]; exact d_op o_ne)
theorem pd_lt (ha : PD X C a f) (hb : PD X C b g) : PD X C (.Compare a [.Lt] [b] pos) (op2 pyLt f g) := PEto (pe_cmpR op_lt ha hb (nomark _)) (d_op o_lt)
theorem pd_le (ha : PD X C a f) (hb : PD X C b g) : PD X C (.Compare a [.LtE] [b] pos) (op2 pyLe f g) := PEto (pe_cmpR op_le ha hb (nomark _)) (d_op o_le)
theorem pd_gt (ha : PD X C a f) (hb : PD X C b g) : PD X C (.Compare a [.Gt] [b] pos) (op2 pyGt f g) := PEto (pe_cmpR op_gt ha hb (nomark _)) (d_op o_gt)
theorem pd_ge (ha : PD X C a f) (hb : PD X C b g) : PD X C (.Compare a [.GtE] [b] pos) (op2 pyGe f g) := PEto (pe_cmpR op_ge ha hb (nomark _)) (d_op o_ge)
theorem pd_is (ha : PD X C a f) (hb : PD X C b g) : PD X C (.Compare a [.Is] [b] pos) (op2 pyIs f g) := PEto (pe_cmpR op_isN ha hb (nomark _)) (d_op o_is)
theorem pd_isnot (ha : PD X C a f) (hb : PD X C b g) : PD X C (.Compare a [.IsNot] [b] pos) (op2 pyIsNot f g) := PEto (pe_cmpR op_notN ha hb (nomark _)) (d_op o_isnot)
abbrev opT (op : D → D → T D) (f g : Rho → T D) (ρ : Rho) : T Bool := (op2 op f g ρ).bind boolOf
theorem pt_eq (hu : X.A.units + 64 < cLine) (ha : PD X C a f) (hb : PD X C b g) (hK : X.K = C.K := by rfl) : PDt X C (.Compare a [.Eq] [b] pos) (opT pyEq f g) := PTto (pt_cmpR (op_eqD hu) ha hb (nomark _)) (by rw [hK]; exact d_testB (d_op o_eq))
theorem pt_ne (hu : X.A.units + 64 < cLine) (ha : PD X C a f) (hb : PD X C b g) (hK : X.K = C.K := by rfl) : PDt X C (.Compare a [.NotEq] [b] pos) (opT pyNe f g) := PTto (pt_cmpR (op_neD hu) ha hb (nomark _)) (by rw [hK]; exact d_testB (d_op o_ne))
theorem pt_lt (ha : PD X C a f) (hb : PD X C b g) : PDt X C (.Compare a [.Lt] [b] pos) (opT pyLt f g) := PTto (pt_cmpR op_lt ha hb (nomark _)) (d_testB (d_op o_lt))
theorem pt_le (ha : PD X C a f) (hb : PD X C b g) : PDt X C (.Compare a [.LtE] [b] pos) (opT pyLe f g) := PTto (pt_cmpR op_le ha hb (nomark _)) (d_testB (d_op o_le))
theorem pt_gt (ha : PD X C a f) (hb : PD X C b g) : PDt X C (.Compare a [.Gt] [b] pos) (opT pyGt f g) := PTto (pt_cmpR op_gt ha hb (nomark _)) (d_testB (d_op o_gt))
theorem pt_ge (ha : PD X C a f) (hb : PD X C b g) : PDt X C (.Compare a [.GtE] [b] pos) (opT pyGe f g) := PTto (pt_cmpR op_ge ha hb (nomark _)) (d_testB (d_op o_ge))
theorem pt_is (ha : PD X C a f) (hb : PD X C b g) : PDt X C (.Compare a [.Is] [b] pos) (opT pyIs f g) := PTto (pt_cmpR op_isN ha hb (nomark _)) (d_testB (d_op o_is))
theorem pt_isnot (ha : PD X C a f) (hb : PD X C b g) : PDt X C (.Compare a [.IsNot] [b] pos) (opT pyIsNot f g) := PTto (pt_cmpR op_notN ha hb (nomark _)) (d_testB (d_op o_isnot))
theorem pt_and2 {rest : List Expr} (ha : PDt X C a t) (hb : PW X (.BoolOp .And (b :: rest) pos) (tT C u)) : PW X (.BoolOp .And (a :: b :: rest) pos) (tT C (andT t u)) := ⟨fun wh pins s σ H Q I q => (pw_and ha hb).run wh pins s σ H Q I (d_and σ H Q q)⟩
theorem pt_or2 {rest : List Expr} (ha : PDt X C a t) (hb : PW X (.BoolOp .Or (b :: rest) pos) (tT C u)) : PW X (.BoolOp .Or (a :: b :: rest) pos) (tT C (orT t u)) := ⟨fun wh pins s σ H Q I q => (pw_or ha hb).run wh pins s σ H Q I (d_or σ H Q q)⟩
theorem ptd_not (ha : PDt X C a t) : PDt X C (.UnaryOp .Not a pos) (notT t) := PTto (pt_not ha) d_not
/-- a value's truth -/
theorem ptd_truth (ha : PD X C a f) (he : ∀ whole, isTrue a X.env whole = (do let v ← whole; standAt a.pos; holding [v] (truthy v)) := by intro _; rfl) (hK : X.K = C.K := by rfl) : PDt X C a (fun ρ => (f ρ).bind truth) := PTto (pt_truth ha he) (by rw [hK]; exact d_truth)
theorem pd_chainLeLe {c : Expr} (ha : PD X C a f) (hb : PD X C b g) (hc : PD X C c h) (hm : lastMarks [.LtE, .LtE] [b, c] = false := by with_unfolding_all rfl) : PD X C (.Compare a [.LtE, .LtE] [b, c] pos) (chainD pyLe pyLe f g h) := PEto (pe_chain op_le op_le ha hb hc hm) (d_chain o_le o_le)
/-! displays, arguments -/
theorem pda_nil : PDa X C [] (fun _ => .ret []) := PAto pa_nil d_anil
theorem pda_cons (ha : PD X C e f) (hr : PDa X C es fs) (hs : starEach (e :: es) X.env = (false, eval e X.env) :: starEach es X.env := by rfl) : PDa X C (e :: es) (consT f fs) := PAto (pa_cons ha hr hs) d_acons
abbrev tupD (fs : Rho → T (List D)) (ρ : Rho) : T D := (fs ρ).bind fun ds => ask (ds.length ≤ sizeLine) (.ret (.tuple ds))
abbrev lstD (fs : Rho → T (List D)) (ρ : Rho) : T D := (fs ρ).bind fun ds => ask (ds.length ≤ sizeLine) (.ret (.list ds))
abbrev lstO (fs : Rho → T (List D)) (ρ : Rho) : T (List D) := (fs ρ).bind fun ds => ask (ds.length ≤ sizeLine) (.ret ds)
theorem pd_tup {k} (h : PDa X C es fs) : PD X C (.Tuple es k pos) (tupD fs) := PEto (pe_tupP h) d_tup
theorem pd_lst (h : PDa X C es fs) : PD X C (.List es pos) (lstD fs) := PEto (pe_lst h) d_lst
theorem pdL_lst (h : PDa X C es fs) : PDL X C (.List es pos) (lstO fs) := PEto (pe_lst h) t_lst
/-! items, slices -/
theorem pd_ix (ha : PD X C a f) (hb : PD X C b g) (hs : PlainIx b := by exact fun _ _ => rfl) (hK : X.K = C.K := by rfl) : PD X C (.Subscript a b pos) (op2 pyIx f g) := PEto (pe_ix ix_seq ha hb hs) (by rw [hK]; exact d_op o_ix)
theorem pdo_none : PO X none (tO C fun _ => .ret none) := ⟨fun pins s σ H Q I q => po_none.run pins s σ H Q I (d_nopart σ H Q q)⟩
theorem pdo_some (ha : PD X C e f) : PO X (some e) (tO C fun ρ => (f ρ).bind asInt) := ⟨fun pins s σ H Q I q => (po_some ha).run pins s σ H Q I (d_part σ H Q q)⟩
theorem pd_sl {lo hi : Option Expr} {l u : Rho → T (Option Int)} {p2 : Pos} (ha : PD X C a f) (hl : PO X lo (tO C l)) (hu : PO X hi (tO C u)) (hK : X.K = C.K := by rfl) : PD X C (.Subscript a (.Slice lo hi none p2) pos) (fun ρ => (f ρ).bind fun x => (l ρ).bind fun lo => (u ρ).bind fun hi => pySl x lo hi) :=
  PEto (pe_slice sl_D ha hl hu) (by rw [hK]; exact d_slice)
theorem pd_rev {k : Nat} {p1 p2 p3 : Pos} (ha : PD X C a f) (hK : X.K = C.K := by rfl) : PD X C (.Subscript a (.Slice none none (some (.UnaryOp .USub (.Constant (.int 1) k p1) p2)) p3) pos) (op1 pyRevL f) := PEto (pe_revL ha) (by rw [hK]; exact d_revL)
/-! built-in functions -/
theorem pd_cb {x : Str} {p : Pos} {id : String} {r : List V → Hp → VK → Prop} {op : List D → T D} (hc : CallR X (.builtin id) r) (hd : CallD C r op) (hg : Gl X x) (hm : X.mg x = none) (hv : bootBuiltins x = some (.builtin id)) (ha : PDa X C (e :: es) fs) (hn : x ≠ "__name__" := by decide) (hdb : (x == ("__debug__" : Str)) = false := by decide)
    (he : starEach (e :: es) X.env = (false, eval e X.env) :: starEach es X.env := by rfl) (hpl : (backTo pos (starEach es X.env)).any (·.1) = false := by rfl) : PD X C (.Call (.Name x p) (e :: es) [] pos) (fun ρ => (fs ρ).bind op) := PEto (pe_callB hc hg hm hv ha hn hdb he hpl) (d_cb hd)
theorem pd_cty {x : Str} {p : Pos} {id : String} {r : List V → Hp → VK → Prop} {op : List D → T D} (hc : CallR X (.type id) r) (hd : CallD C r op) (hg : Gl X x) (hm : X.mg x = none) (hv : bootBuiltins x = some (.type id)) (ha : PDa X C (e :: es) fs) (hn : x ≠ "__name__" := by decide) (hdb : (x == ("__debug__" : Str)) = false := by decide)
    (he : starEach (e :: es) X.env = (false, eval e X.env) :: starEach es X.env := by rfl) (hpl : (backTo pos (starEach es X.env)).any (·.1) = false := by rfl) : PD X C (.Call (.Name x p) (e :: es) [] pos) (fun ρ => (fs ρ).bind op) := PEto (pe_callTy hc hg hm hv ha hn hdb he hpl) (d_cb hd)
theorem pd_len {p : Pos} (hg : Gl X "len") (hm : X.mg "len" = none) (ha : PDa X C (e :: es) fs) (hK : X.K = C.K := by rfl) (he : starEach (e :: es) X.env = (false, eval e X.env) :: starEach es X.env := by rfl) (hpl : (backTo pos (starEach es X.env)).any (·.1) = false := by rfl) :
    PD X C (.Call (.Name "len" p) (e :: es) [] pos) (fun ρ => (fs ρ).bind (only len1)) := pd_cb call_len (by rw [hK]; exact c_len) hg hm (by decide +kernel) ha (by decide) (by decide) he hpl
theorem pd_list {p : Pos} (hg : Gl X "list") (hm : X.mg "list" = none) (ha : PDa X C (e :: es) fs) (hK : X.K = C.K := by rfl) (he : starEach (e :: es) X.env = (false, eval e X.env) :: starEach es X.env := by rfl) (hpl : (backTo pos (starEach es X.env)).any (·.1) = false := by rfl) :
    PD X C (.Call (.Name "list" p) (e :: es) [] pos) (fun ρ => (fs ρ).bind (only list1)) := pd_cty call_list_of (by rw [hK]; exact c_list) hg hm (by decide +kernel) ha (by decide) (by decide) he hpl
theorem pd_tuple {p : Pos} (hg : Gl X "tuple") (hm : X.mg "tuple" = none) (ha : PDa X C (e :: es) fs) (hK : X.K = C.K := by rfl) (he : starEach (e :: es) X.env = (false, eval e X.env) :: starEach es X.env := by rfl) (hpl : (backTo pos (starEach es X.env)).any (·.1) = false := by rfl) :
    PD X C (.Call (.Name "tuple" p) (e :: es) [] pos) (fun ρ => (fs ρ).bind (only tup1)) := pd_cty cr_tup (by rw [hK]; exact c_tup) hg hm (by decide +kernel) ha (by decide) (by decide) he hpl
theorem pd_intf {p : Pos} (hg : Gl X "int") (hm : X.mg "int" = none) (ha : PDa X C (e :: es) fs) (he : starEach (e :: es) X.env = (false, eval e X.env) :: starEach es X.env := by rfl) (hpl : (backTo pos (starEach es X.env)).any (·.1) = false := by rfl) :
    PD X C (.Call (.Name "int" p) (e :: es) [] pos) (fun ρ => (fs ρ).bind (only int1)) := pd_cty call_int1 c_int hg hm (by decide +kernel) ha (by decide) (by decide) he hpl
theorem pd_divmod {p : Pos} (hg : Gl X "divmod") (hm : X.mg "divmod" = none) (ha : PDa X C (e :: es) fs) (he : starEach (e :: es) X.env = (false, eval e X.env) :: starEach es X.env := by rfl) (hpl : (backTo pos (starEach es X.env)).any (·.1) = false := by rfl) :
    PD X C (.Call (.Name "divmod" p) (e :: es) [] pos) (fun ρ => (fs ρ).bind dmL) := pd_cb cr_divmod c_divmod hg hm (by decide +kernel) ha (by decide) (by decide) he hpl
theorem pd_repr {p : Pos} (hgu : X.A.guards = some []) (hu : X.A.units + 200 < cLine) (hg : Gl X "repr") (hm : X.mg "repr" = none) (ha : PDa X C (e :: es) fs) (hK : X.K = C.K := by rfl) (he : starEach (e :: es) X.env = (false, eval e X.env) :: starEach es X.env := by rfl) (hpl : (backTo pos (starEach es X.env)).any (·.1) = false := by rfl) :
    PD X C (.Call (.Name "repr" p) (e :: es) [] pos) (fun ρ => (fs ρ).bind (only repr1)) := pd_cb (cr_repr hgu hu) (by rw [hK]; exact c_repr) hg hm (by decide +kernel) ha (by decide) (by decide) he hpl
theorem pd_isi {p p2 : Pos} {x : Str} {ty : String} (kt : KitT ty) (hg : Gl X "isinstance") (hm : X.mg "isinstance" = none) (hgx : Gl X x) (hmx : X.mg x = none) (hvx : bootBuiltins x = some (.type ty)) (ha : PD X C e f) (hK : X.K = C.K := by rfl)
    (hn : x ≠ "__name__" := by decide) (hdb : (x == ("__debug__" : Str)) = false := by decide)
    (hs : starEach [e, .Name x p2] X.env = (false, eval e X.env) :: starEach [.Name x p2] X.env := by rfl) (hs2 : starEach [.Name x p2] X.env = (false, eval (.Name x p2) X.env) :: starEach [] X.env := by rfl) (hpl : (backTo pos (starEach [.Name x p2] X.env)).any (·.1) = false := by rfl) :
    PD X C (.Call (.Name "isinstance" p) [e, .Name x p2] [] pos) (op1 (isi1 ty) f) :=
  PEto (pe_callB call_isi hg hm (by decide +kernel) (pa_cons ha (pa_cons (pe_bltn (v := .ty ty) hgx hmx hvx rfl hn hdb) pa_nil hs2) hs) (by decide) (by decide) hs hpl) (by rw [hK]; exact d_isi kt)
theorem pd_tupIndex {apos : Pos} (ha : PD X C a f) (hb : PDa X C (e :: es) fs) (hbase : attributeBase a "index" X.env (eval a X.env) = eval a X.env := by rfl)
    (hfew : ((backTo pos (starEach (e :: es) X.env)).all (fun x => !x.1) && (backToKw pos (keywordEach [] X.env)).all (fun x => x.1.isSome)
      && decide ((e :: es).length + ([] : List Keyword).length + (if ([] : List Keyword).isEmpty then 0 else 1) < 30)) = true := by rfl)
    (hline : (apos.endLine == pos.line) = true := by rfl) (hs : starEach (e :: es) X.env = (false, eval e X.env) :: starEach es X.env := by rfl) (hplain : (backTo pos (starEach es X.env)).any (·.1) = false := by rfl) (hK : X.K = C.K := by rfl) :
    PD X C (.Call (.Attribute a "index" apos) (e :: es) [] pos) (fun ρ => (f ρ).bind fun d => ask (isTup d = true) ((fs ρ).bind fun es => tupIndex d es)) :=
  PEto (pe_mP PySem.F.slot_tuple_index PySem.F.type_tuple_index mt_tup_index ha hb hbase hfew hline hs hplain) (by rw [hK]; exact d_tupIndex)
end
end Y
namespace Y
open PySem PySem.Spec PyProof.Rows L2

section
variable {X : Cx} {C : Ct} {a b c e : Expr} {es : List Expr} {f g h : Rho → T D} {fs gs : Rho → T (List D)} {t u : Rho → T Bool} {pos : Pos} {F : List D → T D} {k n : Nat} {fa : Addr} {fd : FuncData} {ps ks : List Str} {x : Str} {p : Pos}
/-! ### calls of defs of the text -/
def callD (n : Nat) (F : List D → T D) (fs : Rho → T (List D)) (ρ : Rho) : T D := (fs ρ).bind fun ds => ask (ds.length = n) (F ds)
theorem d_call : ∀ σ H Q, tD C (callD n F fs) σ H Q → tA C fs σ H fun vs H1 => spD C.J C.K C.mg F n vs H1 Q (WE C.W σ) := by
  rintro σ H Q ⟨G, ρ, b, R, h⟩
  refine ⟨G, ρ, b, R, (Go.bind R h).mono fun ds G1 H1 c P j z vs rs => ?_⟩
  obtain ⟨hl, z2⟩ := Go.ask z.2
  exact spD_of z.1 (by rw [rs.len]; exact hl) rs (z2.mono fun _ _ _ _ _ _ q => q.2)
theorem pd_call (Fn : FnG X.prog X.w X.K X.mg X.base k fa fd ps (spD C.J C.K C.mg F ps.length)) (hr : Room k X.A) (hgu : X.A.guards = some []) (hg : Gl X x) (hm : X.mg x = some (.ref fa)) (hk : PySem.W.keepIn X.K (.ref fa) = true)
    (hb : Binds X.K fd ps []) (tk : Takes X C.W) (ha : PDa X C (e :: es) fs) (hdb : (x == ("__debug__" : Str)) = false := by decide) (he : starEach (e :: es) X.env = (false, eval e X.env) :: starEach es X.env := by rfl) (hpl : (backTo pos (starEach es X.env)).any (·.1) = false := by rfl) :
    PD X C (.Call (.Name x p) (e :: es) [] pos) (callD ps.length F fs) := PEto (pe_callG Fn hr hgu hg hm hk hb tk ha hdb he hpl) d_call
def callD0 (F : List D → T D) (_ : Rho) : T D := F []
theorem d_call0 (hn : n = 0) : ∀ σ H Q, tD C (callD0 F) σ H Q → spD C.J C.K C.mg F n [] H Q (WE C.W σ) := by
  rintro σ H Q ⟨G, ρ, b, R, h⟩
  exact spD_of R hn.symm .nil h
theorem pd_call0 (Fn : FnG X.prog X.w X.K X.mg X.base k fa fd [] (spD C.J C.K C.mg F 0)) (hr : Room k X.A) (hgu : X.A.guards = some []) (hg : Gl X x) (hm : X.mg x = some (.ref fa)) (hk : PySem.W.keepIn X.K (.ref fa) = true)
    (hb : Binds X.K fd [] []) (tk : Takes X C.W) (hdb : (x == ("__debug__" : Str)) = false := by decide) :
    PD X C (.Call (.Name x p) [] [] pos) (callD0 F) := PEto (pe_callG0 Fn hr hgu hg hm hk hb tk hdb) (d_call0 rfl)
/-- the items at the places told -/
def pkA {α : Type} (is : List Nat) (l : List α) : List α := is.filterMap fun i => l[i]?
def gK {α : Type} (m n : Nat) (is : List Nat) (us ws : List α) : List α := if us.length = m ∧ ws.length = n then pkA is (us ++ ws) else []
theorem pkA_rel {α β : Type} {R : α → β → Prop} {is : List Nat} {l : List α} {l' : List β} (h : ∀ i : Nat, (l[i]? = none ∧ l'[i]? = none) ∨ ∃ x y, l[i]? = some x ∧ l'[i]? = some y ∧ R x y) {P : List α → List β → Prop} (n : P [] []) (c : ∀ x y xs ys, R x y → P xs ys → P (x :: xs) (y :: ys)) : P (pkA is l) (pkA is l') := by
  induction is with
  | nil => exact n
  | cons i is ih =>
    unfold pkA
    rw [List.filterMap_cons, List.filterMap_cons]
    rcases h i with ⟨h1, h2⟩ | ⟨x, y, h1, h2, r⟩
    · rw [h1, h2]; exact ih
    · rw [h1, h2]; exact c _ _ _ _ r ih
theorem RDs.at? {O K G} : ∀ {xs : List V} {ds : List D}, RDs O K G xs ds → ∀ i : Nat, (xs[i]? = none ∧ ds[i]? = none) ∨ ∃ x d, xs[i]? = some x ∧ ds[i]? = some d ∧ RD O K G x d
  | _, _, .nil, i => .inl ⟨rfl, rfl⟩
  | _, _, .cons r rs, 0 => .inr ⟨_, _, rfl, rfl, r⟩
  | _, _, .cons r rs, i + 1 => RDs.at? rs i
theorem vals_at? : ∀ {vs : List V} {us : List Value}, Vals vs us → ∀ i : Nat, (vs[i]? = none ∧ us[i]? = none) ∨ ∃ x d, vs[i]? = some x ∧ us[i]? = some d ∧ RelV x d
  | _, _, .nil, i => .inl ⟨rfl, rfl⟩
  | _, _, .cons r rs, 0 => .inr ⟨_, _, rfl, rfl, r⟩
  | _, _, .cons r rs, i + 1 => vals_at? rs i
theorem gK_vals {m n : Nat} {is : List Nat} {vs zs : List V} {us ws : List Value} (r : Vals vs us) (q : Vals zs ws) : Vals (gK m n is vs zs) (gK m n is us ws) := by
  unfold gK
  rw [r.length, q.length]
  split
  · exact pkA_rel (vals_at? (r.append q)) .nil fun _ _ _ _ => .cons
  · exact .nil
theorem gK_rd {O K G} {m n : Nat} {is : List Nat} {vs zs : List V} {ds es : List D} (r : RDs O K G vs ds) (q : RDs O K G zs es) : RDs O K G (gK m n is vs zs) (gK m n is ds es) := by
  unfold gK
  rw [r.len, q.len]
  split
  · exact pkA_rel (r.app q).at? .nil fun _ _ _ _ => .cons
  · exact .nil
theorem kb_of {K : PySem.W.Frag} {m : Nat} {is : List Nat} (hp : ps.length ≠ 0) (h : ∀ us ws : List Value, us.length = m → ws.length = ks.length → bindArgs fd ⟨us, ks.zip ws⟩ = pure (ps.zip (pkA is (us ++ ws)))) : KBinds K fd ps ks (gK m ks.length is) (gK m ks.length is) := by
  refine ⟨fun s us ws _ hl => ?_, gK_vals⟩
  unfold gK at hl ⊢
  split at hl
  · rename_i z
    rw [if_pos z]
    exact .of_eq (h us ws z.1 z.2)
  · exact absurd hl.symm hp
def callK (m nk n : Nat) (is : List Nat) (F : List D → T D) (fs gs : Rho → T (List D)) (ρ : Rho) : T D := (fs ρ).bind fun ds => (gs ρ).bind fun es => ask ((gK m nk is ds es).length = n) (F (gK m nk is ds es))
theorem d_callK {m nk : Nat} {is : List Nat} : ∀ σ H Q, tD C (callK m nk n is F fs gs) σ H Q → tA C fs σ H fun vs H1 => tA C gs σ H1 fun zs H2 => spD C.J C.K C.mg F n (gK m nk is vs zs) H2 Q (WE C.W σ) := by
  rintro σ H Q ⟨G, ρ, b, R, h⟩
  refine ⟨G, ρ, b, R, (Go.bind R h).mono fun ds G1 H1 c P j z vs rs => ?_⟩
  refine ⟨G1, ρ, c, z.1, (Go.bind z.1 z.2).mono fun es G2 H2 c2 P2 j2 z2 zs rz => ?_⟩
  obtain ⟨hl, z3⟩ := Go.ask z2.2
  have r2 := gK_rd (m := m) (n := nk) (is := is) (rs.mono P2.gg) rz
  exact spD_of z2.1 (by rw [r2.len]; exact hl) r2 (z3.mono fun _ _ _ _ _ _ q => q.2.2)
abbrev PDk (X : Cx) (C : Ct) (kws : List Keyword) (f : Rho → T (List D)) : Prop := PK X kws (tA C f)
theorem PKto {X : Cx} {kws : List Keyword} {t t' : TA} (h : PK X kws t) (w : ∀ σ H Q, t' σ H Q → t σ H Q) : PK X kws t' := ⟨fun pos pins s σ H Q I q => h.run pos pins s σ H Q I (w σ H Q q)⟩
theorem pdk_nil : PDk X C [] (fun _ => .ret []) := PKto pk_nil d_anil
theorem pdk_cons {nm : Option Str} {kws : List Keyword} {kpos : Pos} (ha : PD X C e f) (hr : PDk X C kws fs) : PDk X C (⟨nm, e, kpos⟩ :: kws) (consT f fs) := PKto (pk_cons ha hr) d_acons
theorem pd_callK {m : Nat} {is : List Nat} {kws : List Keyword} (Fn : FnG X.prog X.w X.K X.mg X.base k fa fd ps (spD C.J C.K C.mg F ps.length)) (hr : Room k X.A) (hgu : X.A.guards = some []) (hg : Gl X x) (hm : X.mg x = some (.ref fa)) (hk : PySem.W.keepIn X.K (.ref fa) = true)
    (hb : KBinds X.K fd ps ks (gK m ks.length is) (gK m ks.length is)) (tk : Takes X C.W) (ha : PDa X C (e :: es) fs) (hkw : PDk X C kws gs) (hall : (backToKw pos (keywordEach kws X.env)).all (·.1.isSome) = true := by rfl) (hks : (backToKw pos (keywordEach kws X.env)).filterMap (·.1) = ks := by rfl)
    (hdb : (x == ("__debug__" : Str)) = false := by decide) (he : starEach (e :: es) X.env = (false, eval e X.env) :: starEach es X.env := by rfl)
    (hpl : ((backTo pos (starEach (e :: es) X.env)).any (·.1) || (backToKw pos (keywordEach kws X.env)).any (·.1.isNone)) = false := by rfl) :
    PD X C (.Call (.Name x p) (e :: es) kws pos) (callK m ks.length ps.length is F fs gs) := PEto (pe_callGK Fn hr hgu hg hm hk hb tk ha hkw hall hks hdb he hpl) d_callK
def callK0 (nk n : Nat) (is : List Nat) (F : List D → T D) (gs : Rho → T (List D)) (ρ : Rho) : T D := (gs ρ).bind fun es => ask ((gK 0 nk is [] es).length = n) (F (gK 0 nk is [] es))
theorem d_callK0 {nk : Nat} {is : List Nat} : ∀ σ H Q, tD C (callK0 nk n is F gs) σ H Q → tA C gs σ H fun zs H2 => spD C.J C.K C.mg F n (gK 0 nk is [] zs) H2 Q (WE C.W σ) := by
  rintro σ H Q ⟨G, ρ, b, R, h⟩
  refine ⟨G, ρ, b, R, (Go.bind R h).mono fun es G1 H1 c P j z zs rz => ?_⟩
  obtain ⟨hl, z3⟩ := Go.ask z.2
  have r2 := gK_rd (m := 0) (n := nk) (is := is) (.nil (O := C.J.O) (K := C.K) (G := G1)) rz
  exact spD_of z.1 (by rw [r2.len]; exact hl) r2 (z3.mono fun _ _ _ _ _ _ q => q.2)
theorem pd_callK0 {is : List Nat} {kws : List Keyword} (Fn : FnG X.prog X.w X.K X.mg X.base k fa fd ps (spD C.J C.K C.mg F ps.length)) (hr : Room k X.A) (hgu : X.A.guards = some []) (hg : Gl X x) (hm : X.mg x = some (.ref fa)) (hk : PySem.W.keepIn X.K (.ref fa) = true)
    (hb : KBinds X.K fd ps ks (gK 0 ks.length is) (gK 0 ks.length is)) (tk : Takes X C.W) (hkw : PDk X C kws gs) (hall : (backToKw pos (keywordEach kws X.env)).all (·.1.isSome) = true := by rfl) (hks : (backToKw pos (keywordEach kws X.env)).filterMap (·.1) = ks := by rfl)
    (hdb : (x == ("__debug__" : Str)) = false := by decide)
    (hpl : ((backTo pos (starEach [] X.env)).any (·.1) || (backToKw pos (keywordEach kws X.env)).any (·.1.isNone)) = false := by rfl) :
    PD X C (.Call (.Name x p) [] kws pos) (callK0 ks.length ps.length is F gs) := PEto (pe_callGK0 Fn hr hgu hg hm hk hb tk hkw hall hks hdb hpl) d_callK0

/-! ### statements -/
variable {st : Stmt} {rest sts sus : List Stmt} {Fa Fb : Rho → T Out}
theorem PStoD {X : Cx} {st : Stmt} {t t' : TS} (h : PS X st t) (w : ∀ Dn σ H, t' Dn σ H → t Dn σ H) : PS X st t' := ⟨fun pins s σ H D I q => h.run pins s σ H D I (w D σ H q)⟩
theorem PSstoD {X : Cx} {st : List Stmt} {t t' : TS} (h : PSs X st t) (w : ∀ Dn σ H, t' Dn σ H → t Dn σ H) : PSs X st t' := ⟨fun pins s σ H D I q => h.run pins s σ H D I (w D σ H q)⟩
theorem pds_nil : PDs X C [] skipS := PSstoD pss_nil s_next
theorem pds_cons (h1 : PD1 X C st Fa) (h2 : PDs X C rest Fb) : PDs X C (st :: rest) (seqS Fa Fb) := PSstoD (pss_cons h1 h2) s_seq
theorem pds_one (h1 : PD1 X C st Fa) : PDs X C [st] Fa := pss_one h1
theorem pd1_pass : PD1 X C (.Pass pos) skipS := PStoD ps_pass s_next
theorem pd1_break : PD1 X C (.Break pos) (fun ρ => .ret (.bk ρ)) := PStoD ps_break s_break
theorem pd1_cont : PD1 X C (.Continue pos) (fun ρ => .ret (.ct ρ)) := PStoD ps_continue s_cont
theorem pd1_set (i : Nat) {y : Str} {pos' : Pos} (he : PD X C e f) (hN : X.N.Nodup) (hi : X.N[i]? = some y := by rfl) (hx : Loc X.env.scope y := by first | exact Or.inl rfl | exact Or.inr rfl) (hs : swapsWith e (some (.Name y pos')) pos.line X.env = pure false := by rfl) (hf : X.fn y = true ∨ X.env.scope.names.lookup y = some .local := by first | exact .inl rfl | exact .inr rfl | assumption) :
    PD1 X C (.Assign [.Name y pos'] e pos) (asgS i f) := PStoD (ps_set hN hi hx he hs hf) s_asg
/-- a new list that stays the body's own -/
theorem pd1_setO (i : Nat) {y : Str} {pos' : Pos} (he : PDL X C e fs) (hN : X.N.Nodup) (hi : X.N[i]? = some y := by rfl) (hx : Loc X.env.scope y := by first | exact Or.inl rfl | exact Or.inr rfl) (hs : swapsWith e (some (.Name y pos')) pos.line X.env = pure false := by rfl) (hf : X.fn y = true ∨ X.env.scope.names.lookup y = some .local := by first | exact .inl rfl | exact .inr rfl | assumption) :
    PD1 X C (.Assign [.Name y pos'] e pos) (asgO i fs) := PStoD (ps_set hN hi hx he hs hf) s_asgO
theorem pd1_asg {us : List Nat} {g : D → Rho → Option Rho} {tg : Expr} (he : PD X C e f) (hg : PG X tg (gD C us g)) (hs : swapsWithSole [tg] e pos.line X.env = pure false := by rfl) (hw : swappedStores [tg] e X.env = pure none := by rfl)
    (h1 : (assignEach [tg] X.env).map (·.2) = [assign tg X.env] := by rfl) : PD1 X C (.Assign [tg] e pos) (asgG g f) := PStoD (ps_asg he hg hs hw h1) s_asgG
theorem pd1_drop (he : PD X C e f) (hs : swapsWith e none pos.line X.env = pure false := by rfl) : PD1 X C (.Expr e pos) (dropS f) := PStoD (ps_expr he hs) s_drop
theorem pd1_ret (he : PD X C e f) : PD1 X C (.Return (some e) pos) (retS f) := PStoD (ps_ret he) s_ret
theorem pd1_if (hc : PDt X C c t) (ha : PDs X C sts Fa) (hb : PDs X C sus Fb) : PD1 X C (.If c sts sus pos) (ifS t Fa Fb) := PStoD (ps_if hc ha hb) s_if
abbrev PDi (X : Cx) (C : Ct) (tg e : Expr) {α : Type} (vs : List Nat) (it : Rho → T (List α)) (w : TG) (g : α → Rho → Option Rho) : Prop := PI X tg e (tIt C vs it w g)
theorem pd1_for {α : Type} {vs : List Nat} {it : Rho → T (List α)} {w : TG} {g : α → Rho → Option Rho} {tg iter : Expr} {body : List Stmt} (hp : PassesOwn (model X.prog X.w) X.A X.env X.xe) (hc : X.calm = true) (hi : PDi X C tg iter vs it w g) (hg : PG X tg w) (hb : PDs X C body Fa)
    (hs : ∀ x, foldedSetIterable iter X.env x = pure x := by intro _; rfl) : PD1 X C (.For tg iter body [] pos) (forD it g Fa) := PStoD (ps_for hp hc hi hg hb hs) s_for
/-! what stands to be walked -/
theorem pdi_seq {us : List Nat} {tg : Expr} {g : D → Rho → Option Rho} (he : PD X C e f) (hK : X.K = C.K := by rfl) : PDi X C tg e us (fun ρ => (f ρ).bind seqOf) (gD C us g) g := PIto (pi_seq he) (by rw [hK]; exact i_seq)
theorem pdi_rng1 {us : List Nat} {tg : Expr} {g : D → Rho → Option Rho} (he : PD X C e f) (hg : Gl X "range") (hm : X.mg "range" = none) (hs : starEach [e] X.env = [(false, eval e X.env)] := by rfl) : PDi X C tg (.Call (.Name "range" p) [e] [] pos) us (fun ρ => (f ρ).bind range1) (gD C us g) g :=
  PIto (pi_range1 hg hm (pa_cons he pa_nil hs) hs) i_rng1
theorem pdi_rng2 {us : List Nat} {tg : Expr} {g : D → Rho → Option Rho} (he : PD X C a f) (he2 : PD X C b h) (hg : Gl X "range") (hm : X.mg "range" = none) (hs : starEach [a, b] X.env = [(false, eval a X.env), (false, eval b X.env)] := by rfl) (hs2 : starEach [b] X.env = [(false, eval b X.env)] := by rfl) :
    PDi X C tg (.Call (.Name "range" p) [a, b] [] pos) us (fun ρ => (f ρ).bind fun i => (h ρ).bind fun j => range2 i j) (gD C us g) g :=
  PIto (pi_range2 hg hm (pa_cons he (pa_cons he2 pa_nil hs2) (by rw [hs2]; exact hs)) hs hs2) i_rng2
theorem pdi_rev {us : List Nat} {tg : Expr} {g : D → Rho → Option Rho} (he : PD X C e f) (hg : Gl X "reversed") (hm : X.mg "reversed" = none) (hK : X.K = C.K := by rfl) (hs : starEach [e] X.env = (false, eval e X.env) :: starEach [] X.env := by rfl) :
    PDi X C tg (.Call (.Name "reversed" p) [e] [] pos) us (fun ρ => (f ρ).bind fun d => (seqOf d).bind fun ds => .ret ds.reverse) (gD C us g) g := PIto (RT.pi_revA hg hm he hs) (by rw [hK]; exact i_rev)
/-! targets -/
abbrev PDg (X : Cx) (C : Ct) (e : Expr) (us : List Nat) (g : D → Rho → Option Rho) : Prop := PG X e (gD C us g)
abbrev PDgs (X : Cx) (C : Ct) (e : List Expr) (us : List Nat) (g : List D → Rho → Option Rho) : Prop := PGs X e (gsD C us g)
theorem pdg_name {us : List Nat} (i : Nat) {y : Str} (hN : X.N.Nodup) (hu : i ∈ us := by decide) (hi : X.N[i]? = some y := by rfl) (hx : Loc X.env.scope y := by first | exact Or.inl rfl | exact Or.inr rfl) (hf : X.fn y = true ∨ X.env.scope.names.lookup y = some .local := by first | exact .inl rfl | exact .inr rfl | assumption) :
    PDg X C (.Name y pos) us (toSlot i) := PGto (pg_name hN hi hx hf) (g_name hu)
theorem pdgs_nil {us : List Nat} : PDgs X C [] us toNil := PGsto pgs_nil g_nil
end
end Y
namespace Y
open PySem PySem.Spec PyProof.Rows L2

section
variable {X : Cx} {C : Ct} {σ : L2.St} {G H : Hp} {a b c e : Expr} {es : List Expr} {f g h : Rho → T D} {fs gs : Rho → T (List D)} {t u : Rho → T Bool} {pos : Pos} {x : Str} {p : Pos} {us : List Nat}
theorem pdgs_cons {g : D → Rho → Option Rho} {gs : List D → Rho → Option Rho} (h1 : PDg X C e us g) (h2 : PDgs X C es us gs) (hs : (assignEach (e :: es) X.env).map (·.2) = assign e X.env :: (assignEach es X.env).map (·.2) := by rfl) : PDgs X C (e :: es) us (toCons g gs) := PGsto (pgs_cons h1 h2 hs) g_cons
theorem pdg_tup {k n : Nat} {gs : List D → Rho → Option Rho} (hc : X.calm = true) (h : PDgs X C es us gs) (hn : (assignEach es X.env).length = n := by rfl) (hst : (assignEach es X.env).findIdx? (·.1) = none := by rfl) (hK : X.K = C.K := by rfl) : PDg X C (.Tuple es k pos) us (toTup n gs) :=
  PGto (pg_tup hc h hn hst) (by rw [hK]; exact g_tup)
/-- the target of a zip's pairs -/
abbrev zipW (C : Ct) (us : List Nat) (gs : List D → Rho → Option Rho) : TG := gTup C.K 2 (gsD C us gs)
theorem pg_zipW {k : Nat} {gs : List D → Rho → Option Rho} (hc : X.calm = true) (h : PDgs X C es us gs) (hn : (assignEach es X.env).length = 2 := by rfl) (hst : (assignEach es X.env).findIdx? (·.1) = none := by rfl) (hK : X.K = C.K := by rfl) : PG X (.Tuple es k pos) (zipW C us gs) := by
  have := pg_tup (pos := pos) (k := k) hc h hn hst
  rw [hK] at this
  exact this
theorem pdi_zip {gs : List D → Rho → Option Rho} {elts : List Expr} {kk : Nat} {tpos : Pos} (ha : PD X C a f) (hb : PD X C b g) (hg : Gl X "zip") (hm : X.mg "zip" = none)
    (hs : starEach [a, b] X.env = (false, eval a X.env) :: starEach [b] X.env := by rfl) (hs2 : starEach [b] X.env = (false, eval b X.env) :: starEach [] X.env := by rfl) (hpl : (backTo pos (starEach [b] X.env)).any (·.1) = false := by rfl) (hK : X.K = C.K := by rfl) :
    PDi X C (.Tuple elts kk tpos) (.Call (.Name "zip" p) [a, b] [] pos) us (fun ρ => (f ρ).bind fun x => (g ρ).bind fun y => zip2 x y) (zipW C us gs) (fun p => gs [p.1, p.2]) :=
  PIto (pi_zipB hg hm (pa_cons ha (pa_cons hb pa_nil hs2) hs) hs hpl) (by rw [hK]; exact i_zip)

/-! ### lists of ours -/
def ownS (i : Nat) (F : Rho → T Out) (ρ : Rho) : T Out := match ρ[i]? with | some (.ow _) => F ρ | _ => .bad
theorem pd1_app (i : Nat) {y : Str} {p1 apos cpos : Pos} (he : PD X C e f) (hi : X.N[i]? = some y := by rfl) (hv : Vis X.env.scope y := by first | exact Or.inl rfl | exact Or.inr (Or.inl rfl) | exact Or.inr (Or.inr rfl)) (hd : (y == ("__debug__" : Str)) = false := by decide) (hcd : (y == ("__classdict__" : Str)) = false := by decide)
    (hbase : attributeBase (.Name y p1) "append" X.env (eval (.Name y p1) X.env) = eval (.Name y p1) X.env := by rfl)
    (hfew : ((backTo cpos (starEach [e] X.env)).all (fun x => !x.1) && (backToKw cpos (keywordEach [] X.env)).all (fun x => x.1.isSome)
      && decide ([e].length + ([] : List Keyword).length + (if ([] : List Keyword).isEmpty then 0 else 1) < 30)) = true := by rfl)
    (hline : (apos.endLine == cpos.line) = true := by rfl) (hs : starEach [e] X.env = (false, eval e X.env) :: starEach [] X.env := by rfl) (hplain : (backTo cpos (starEach [] X.env)).any (·.1) = false := by rfl)
    (hsw : swapsWith (.Call (.Attribute (.Name y p1) "append" apos) [e] [] cpos) none pos.line X.env = pure false := by rfl) (hK : X.K = C.K := by rfl) :
    PD1 X C (.Expr (.Call (.Attribute (.Name y p1) "append" apos) [e] [] cpos) pos) (ownS i (appS i f)) := by
  have := ps_expr (pos := pos) (pe_bm PySem.F.plainAttrs_list PySem.F.slot_list_append PySem.F.type_list_append mt_append (pv i hi hv hd hcd) (pa_cons he pa_nil hs) hbase hfew hline hs hplain) hsw
  rw [hK] at this
  exact PStoD this s_app
theorem pd1_setI (i : Nat) {y : Str} {p1 p2 : Pos} {k : Expr} (he : PD X C e f) (hk : PD X C k g) (hi : X.N[i]? = some y := by rfl) (hv : Vis X.env.scope y := by first | exact Or.inl rfl | exact Or.inr (Or.inl rfl) | exact Or.inr (Or.inr rfl)) (hd : (y == ("__debug__" : Str)) = false := by decide) (hcd : (y == ("__classdict__" : Str)) = false := by decide)
    (hs : swapsWithSole [.Subscript (.Name y p1) k p2] e pos.line X.env = pure false := by rfl) (hw : swappedStores [.Subscript (.Name y p1) k p2] e X.env = pure none := by rfl)
    (h1 : (assignEach [.Subscript (.Name y p1) k p2] X.env).map (·.2) = [assign (.Subscript (.Name y p1) k p2) X.env] := by rfl)
    (ha : ∀ v, assign (.Subscript (.Name y p1) k p2) X.env v = (do
      let ov ← holding [v] (eval (.Name y p1) X.env)
      let iv ← holding [v, ov] (eval k X.env)
      standAt p2
      holding [v, ov, iv] (setItem ov iv v)
      release [v, ov, iv] []) := by intro _; rfl) :
    PD1 X C (.Assign [.Subscript (.Name y p1) k p2] e pos) (ownS i (setSt i f g)) := PStoD (ps_asg he (pg_sub (pv i hi hv hd hcd) hk set_list ha) hs hw h1) s_setL
/-- from here on the list in slot i is data -/
def frzS (i : Nat) (F : Rho → T Out) (ρ : Rho) : T Out := F (frz i ρ)
theorem pd1_frz (i : Nat) {st : Stmt} {F : Rho → T Out} (h : PD1 X C st F) : PD1 X C st (frzS i F) := PStoD h (s_frz i fun _ _ _ q => q)
theorem pds_frz (i : Nat) {st : List Stmt} {F : Rho → T Out} (h : PDs X C st F) : PDs X C st (frzS i F) := PSstoD h (s_frz i fun _ _ _ q => q)

/-! ### tuple(reversed(xs)) -/
def tTupRevP (K : PySem.W.Frag) (te : TE) : TE := fun σ H Q => te σ H fun v H1 => ∃ (a : Addr) (xs : List V), v = .ref a ∧ SqL K H1 a xs ∧ NewT H1 xs.reverse Q
theorem pe_tupRevP {p2 pos2 : Pos} {te : TE} (hc : X.calm = true) (hg : Gl X "tuple") (hm : X.mg "tuple" = none) (hg2 : Gl X "reversed") (hm2 : X.mg "reversed" = none) (he : PE X e te)
    (hs : starEach [e] X.env = (false, eval e X.env) :: starEach [] X.env := by rfl)
    (hs2 : starEach [.Call (.Name "reversed" p2) [e] [] pos2] X.env = (false, eval (.Call (.Name "reversed" p2) [e] [] pos2) X.env) :: starEach [] X.env := by rfl) :
    PE X (.Call (.Name "tuple" p) [.Call (.Name "reversed" p2) [e] [] pos2] [] pos) (tTupRevP X.K te) := by
  refine ⟨fun pins s σ H Q I h => Call_ (ld_blt I hg hm boot_tuple (PyProof.Rows.callWith_type1 (args_cons (Call_ (ld_blt I hg2 hm2 PyProof.Rows.boot_reversed (PyProof.Rows.callWith_type1 (args_cons (thn (he.run pins s σ H _ I h) fun u s1 ⟨v, H1, I1, r1, q1⟩ => args_nil ?_) hs) hs rfl))) hs2) hs2 rfl))⟩
  obtain ⟨a, xs, ev, hq, q⟩ := q1
  cases ev
  cases r1
  obtain ⟨its, rv, pl, hz⟩ := I1.list hq
  have hl := pl.isList
  obtain ⟨ol, hol, _⟩ := id hl
  have fr := I1.fpOk (H' := H1) (b := s1.heap.objs.size) (Nat.le_refl _) (I1.hok.fresh (Nat.le_refl _))
  refine call_reversed_list hl (args_nil ?_)
  have I2 : Inv X pins σ H1 { s1 with heap := s1.heap.push (revObj a ((its.toArray.size : Int) - 1)) } := I1.kept (t' := s1.toks) fun b o e => Heap.get?_push_of_some _ e
  refine RT.call_tuple_rev (s := { s1 with heap := s1.heap.push (revObj a ((its.toArray.size : Int) - 1)) }) (I1.ok.hd hc) ⟨_, Heap.get?_push_size _ rfl, rfl, rfl⟩ (hl.push _) (Nat.ne_of_lt (Heap.lt_size hol)) (by rw [List.size_toArray, ← rv.length]; exact hz) fun h' tk acc hk hi => ?_
  have I3 : Inv X pins σ H1 { s1 with heap := h', toks := tk } := I2.turned (t' := tk) (fun b o hb e => hk b o hb e) fr.1 fr.2.1 fr.2.2.2.1 fr.2.2.2.2.1 fr.2.2.2.2.2
  have L := laidT (t := tk) I3 (RT.vals_rev rv hi) (by rw [List.length_reverse]; exact hz) q
  rw [Array.toArray_toList] at L
  exact L
theorem d_tupRev : ∀ σ H Q, tD C (fun ρ => (f ρ).bind fun d => match d with | .list ds => .ret (.tuple ds.reverse) | _ => .bad) σ H Q → tTupRevP C.K (tD C f) σ H Q := by
  rintro σ H Q ⟨G, ρ, b, R, h⟩
  refine ⟨G, ρ, b, R, (Go.bind R h).mono fun d G1 H1 c P j z v r => ?_⟩
  obtain ⟨R1, z⟩ := z
  cases r with
  | lst e r => exact ⟨_, _, rfl, SqL.of (R1.sub _ _ e), fun q o n hc hd => (z.mono fun _ _ _ _ _ _ y => y.2).newT R1 n hc hd r.rev⟩
  | _ => exact z.bad.elim
theorem pd_tupRev {p2 pos2 : Pos} (hc : X.calm = true) (he : PD X C e f) (hg : Gl X "tuple") (hm : X.mg "tuple" = none) (hg2 : Gl X "reversed") (hm2 : X.mg "reversed" = none) (hK : X.K = C.K := by rfl)
    (hs : starEach [e] X.env = (false, eval e X.env) :: starEach [] X.env := by rfl)
    (hs2 : starEach [.Call (.Name "reversed" p2) [e] [] pos2] X.env = (false, eval (.Call (.Name "reversed" p2) [e] [] pos2) X.env) :: starEach [] X.env := by rfl) :
    PD X C (.Call (.Name "tuple" p) [.Call (.Name "reversed" p2) [e] [] pos2] [] pos) (fun ρ => (f ρ).bind fun d => match d with | .list ds => .ret (.tuple ds.reverse) | _ => .bad) :=
  PEto (pe_tupRevP hc hg hm hg2 hm2 he hs hs2) (by rw [hK]; exact d_tupRev)

/-! ### in, over data -/
def inD (neg : Bool) (d e : D) : T D := match e with
  | .list ds => ask (SeqAt.shaped d = true ∧ PyData.canLayAll0 ds = true) (.ret (.bool ((ds.any fun z => PyData.eqv z d) != neg)))
  | .tuple ds => ask (SeqAt.shaped d = true ∧ PyData.canLayAll0 ds = true) (.ret (.bool ((ds.any fun z => PyData.eqv z d) != neg)))
  | _ => .bad
def rInA (K : PySem.W.Frag) (neg : Bool) : R2 := fun x y H Q => ∃ d ds, Dp K H x d ∧ (Dp K H y (.list ds) ∨ Dp K H y (.tuple ds)) ∧ SeqAt.shaped d = true ∧ PyData.canLayAll0 ds = true ∧ Q (.bl ((ds.any fun z => PyData.eqv z d) != neg)) H
theorem op_inA (hu : X.A.units + 65 < cLine) : OpR X (compareOp .In) (rInA X.K false) := by
  intro pins s σ H x y v u Q I rx ry h
  obtain ⟨d, ds, hd, he, sd, se, q⟩ := h
  obtain ⟨as, r1⟩ := Dp.reads I d x v hd rx
  rw [Bool.bne_false] at q
  rcases he with he | he
  · obtain ⟨bs, r2⟩ := Dp.reads I (.list ds) y u he ry
    exact SeqAt.in_list_reads r2 r1 se (SeqAt.canLay_of_shaped sd) (room_in_shaped sd hu) ⟨.bl _, H, I, rfl, q⟩
  · obtain ⟨bs, r2⟩ := Dp.reads I (.tuple ds) y u he ry
    exact SeqAt.in_tuple_reads r2 r1 se (SeqAt.canLay_of_shaped sd) (room_in_shaped sd hu) ⟨.bl _, H, I, rfl, q⟩
theorem op_notInA (hu : X.A.units + 65 < cLine) : OpR X (compareOp .NotIn) (rInA X.K true) := by
  intro pins s σ H x y v u Q I rx ry h
  obtain ⟨d, ds, hd, he, sd, se, q⟩ := h
  obtain ⟨as, r1⟩ := Dp.reads I d x v hd rx
  rw [Bool.bne_true] at q
  rcases he with he | he
  · obtain ⟨bs, r2⟩ := Dp.reads I (.list ds) y u he ry
    exact SeqAt.notIn_list_reads r2 r1 se (SeqAt.canLay_of_shaped sd) (room_in_shaped sd hu) ⟨.bl _, H, I, rfl, q⟩
  · obtain ⟨bs, r2⟩ := Dp.reads I (.tuple ds) y u he ry
    exact SeqAt.notIn_tuple_reads r2 r1 se (SeqAt.canLay_of_shaped sd) (room_in_shaped sd hu) ⟨.bl _, H, I, rfl, q⟩
theorem o_in {neg : Bool} : Op2 C (rInA C.K neg) (inD neg) := by
  intro σ G H ρ b x y d e Q R rx ry h
  cases e with
  | list ds =>
    obtain ⟨hs, h⟩ := Go.ask h
    exact ⟨d, ds, dp_mono R.sub (dp_of rx (shaped_lay hs.1)), .inl (dp_mono R.sub (dp_of ry hs.2)), hs.1, hs.2, h.retv R (.bl _)⟩
  | tuple ds =>
    obtain ⟨hs, h⟩ := Go.ask h
    exact ⟨d, ds, dp_mono R.sub (dp_of rx (shaped_lay hs.1)), .inr (dp_mono R.sub (dp_of ry hs.2)), hs.1, hs.2, h.retv R (.bl _)⟩
  | _ => exact h.bad.elim
theorem pd_in (hu : X.A.units + 65 < cLine) (ha : PD X C a f) (hb : PD X C b g) (hK : X.K = C.K := by rfl) (hM : behindInMarks .In b = false := by with_unfolding_all rfl) : PD X C (.Compare a [.In] [b] pos) (op2 (inD false) f g) := PEto (pe_cmpR (op_inA hu) ha hb hM) (by rw [hK]; exact d_op o_in)
theorem pd_notIn (hu : X.A.units + 65 < cLine) (ha : PD X C a f) (hb : PD X C b g) (hK : X.K = C.K := by rfl) (hM : behindInMarks .NotIn b = false := by with_unfolding_all rfl) : PD X C (.Compare a [.NotIn] [b] pos) (op2 (inD true) f g) := PEto (pe_cmpR (op_notInA hu) ha hb hM) (by rw [hK]; exact d_op o_in)
theorem pt_in (hu : X.A.units + 65 < cLine) (ha : PD X C a f) (hb : PD X C b g) (hK : X.K = C.K := by rfl) (hM : behindInMarks .In b = false := by with_unfolding_all rfl) : PDt X C (.Compare a [.In] [b] pos) (opT (inD false) f g) := PTto (pt_cmpR (op_inA hu) ha hb hM) (by rw [hK]; exact d_testB (d_op o_in))
theorem pt_notIn (hu : X.A.units + 65 < cLine) (ha : PD X C a f) (hb : PD X C b g) (hK : X.K = C.K := by rfl) (hM : behindInMarks .NotIn b = false := by with_unfolding_all rfl) : PDt X C (.Compare a [.NotIn] [b] pos) (opT (inD true) f g) := PTto (pt_cmpR (op_notInA hu) ha hb hM) (by rw [hK]; exact d_testB (d_op o_in))

/-! ### lists of items -/
theorem takes_blk {s : Shared} {scope : Scope} {cenv : Env} {fp : List Addr} : Takes (X.blk s H scope cenv fp) C.nox.W := fun u s' x => by
  obtain ⟨_, _, _, _, _, _, _, _, _, _, _, _, _, _, _, _, w⟩ := x
  exact w
theorem PTsto {X : Cx} {e : List Expr} {t t' : TT} (h : PTs X e t) (w : ∀ σ H Q, t' σ H Q → t σ H Q) : PTs X e t' := ⟨fun pins s σ H Q I q => h.run pins s σ H Q I (w σ H Q q)⟩
theorem d_yes : ∀ σ H Q, tT C (fun _ => .ret true) σ H Q → tYes σ H Q := by
  rintro σ H Q ⟨G, ρ, b, R, h⟩
  exact h.ret R
theorem pdL_lc {α : Type} {it : Rho → T (List α)} {w : TG} {gg : α → Rho → Option Rho} {elt tg iter : Expr} {ifs : List Expr} {scope : Scope} {own : List (Str × Nat)} (hc : X.calm = true) (hN : X.N.Nodup) (hi : PDi X C tg iter (own.map (·.2)) it w gg) (ok : BlkOk X.N X.env.scope scope own)
    (hg : ∀ (s : Shared) (H : Hp) (D : Addr) (cl : List (Str × Addr)) (fp : List Addr), PG (X.blk s H scope (compEnvC scope cl D X.env) fp) tg w) (ht : ∀ (s : Shared) (H : Hp) (D : Addr) (cl : List (Str × Addr)) (fp : List Addr), PTs (X.blk s H scope (compEnvC scope cl D X.env) fp) ifs (tT C.nox t))
    (he : ∀ (s : Shared) (H : Hp) (D : Addr) (cl : List (Str × Addr)) (fp : List Addr), PD (X.blk s H scope (compEnvC scope cl D X.env) fp) C.nox elt f) (hs : ∀ x, foldedSetIterable iter X.env x = pure x := by intro _; rfl) :
    PDL X C (.ListComp elt [⟨tg, iter, ifs, 0⟩] scope pos) (lcD (own.map (·.2)) it gg t f) := PEto (pe_lc hc hN hi ok hg ht he hs) d_lc
theorem pts_nil' {X : Cx} {C : Ct} : PTs X [] (tT C fun _ => .ret true) := PTsto pts_nil d_yes
/-- a new list, as data at once -/
abbrev asData (fs : Rho → T (List D)) (ρ : Rho) : T D := (fs ρ).bind fun ds => .ret (.list ds)
theorem pd_L (h : PDL X C e fs) : PD X C e (asData fs) := PEto h (d_LD fun _ _ _ q => q)

/-! ### raise, try -/
theorem pd1_raise0 {Ca : Addr} {bmB : List Value} {B newId initId : String} {p1 p2 pos : Pos} (F : ExcBaseFacts B newId initId bmB) (hc : X.calm = true) (tk : Takes X C.W) (q : PySem.W.excIn X.K Ca bmB newId = true) (gC : X.mg x = some (.ref Ca))
    (kC : PySem.W.keepIn X.K (.ref Ca) = true) (r : Raises X (.ref Ca)) (hg : Gl X x) (hm : C.mg x = some (.ref Ca)) (hdb : (x == ("__debug__" : Str)) = false := by decide) :
    PD1 X C (.Raise (some (.Call (.Name x p1) [] [] p2)) none pos) (raiseS x) := PStoD (ps_raise hc tk (pmk_own0 F q gC kC r hg hdb)) (s_raise0 hm)
theorem pd1_try {i : Nat} {n : Str} {cv : Value} {takes : Str → Option Bool} {h : Ev → Rho → T D} {e' : Expr} {np pos' p1 p2 : Pos} (hs : X.stack = X.env :: X.outer) (hf : X.env.frame = some X.env.locals) (hN : X.N.Nodup) (hi : X.N[i]? = some n) (hln : X.env.kindOf n = some .local) (hc : Names X x cv) (tk : Takes X C.W) (hK : X.K = C.K)
    (hx : ∀ n Ca k, takes n = some k → C.mg n = some (.ref Ca) → PySem.W.exmOne C.K (.ref Ca) cv = some k)
    (hb : ∀ (W : WX) (pn : List (Addr × Obj)) (xe : Value → Shared → Prop), Takes (X.tr pn xe) W → PassesOwn (model X.prog X.w) X.A X.env xe → PD (X.tr pn xe) { C with W := W } e f)
    (hsu : ∀ (a : Addr) (oe : Obj) (cls : Value) (ev : Ev) (pn : List (Addr × Obj)), Zc cls none oe → (∃ vs, oe.data = .fields vs) → C.mg ev.cls = some cls → PD (X.suite a ((a, oe) :: pn)) (C.exc a) e' (h ev)) :
    PD1 X C (.Try [.Return (some e) p1] [.ExceptHandler (some (.Name x np)) (some n) [.Return (some e') p2] pos'] [] [] pos) (tryR i takes f h) := by
  refine PStoD (ps_try_as hs hf hN hi hln hc tk (tb := fun W => tRet (tD { C with W := W } f)) (ts := tSuite C h) (fun W pn xe tkw hp => pss_one (ps_ret (hb W pn xe tkw hp))) fun a oe cls d pn hz hd => ⟨fun pins s σ H Dn I q => ?_⟩) (by rw [hK]; exact s_tryR hx)
  obtain ⟨ev, hm, hna, rfl, q⟩ := q
  exact (pss_one (ps_ret (hsu a oe cls ev pn hz hd hm))).run pins s σ H Dn I q
end
end Y
namespace Y
open PySem PySem.Spec PyProof.Rows L2

theorem room64 {k : Nat} {A : Around} (r : Room k A) : A.units + 64 < cLine := by have := r.un; omega
theorem room65 {k : Nat} {A : Around} (r : Room k A) : A.units + 65 < cLine := by have := r.un; omega
theorem room200 {k : Nat} {A : Around} (r : Room k A) : A.units + 200 < cLine := by have := r.un; omega

/-! ### constants of the module -/
/-- the items of a written tuple without a dict of its own -/
def kTup (K : PySem.W.Frag) (u : Value) : Option (List Value) := match u with
  | .ref a => match K.lookup a with
    | some ⟨.type t, none, .seq its _, _⟩ => if t = "tuple" ∧ its.size ≤ sizeLine then some its.toList else none
    | _ => none
  | _ => none
theorem kTup_ok {K : PySem.W.Frag} {u : Value} {us : List Value} (h : kTup K u = some us) : ∃ (a : Addr) (o : Obj) (its : Array Value) (n : Nat), u = .ref a ∧ K.lookup a = some o ∧ o.cls = .type "tuple" ∧ o.dict = none ∧ o.data = .seq its n ∧ its.size ≤ sizeLine ∧ its.toList = us := by
  unfold kTup at h
  split at h
  · split at h
    · rename_i hl
      split at h
      · rename_i c
        cases h
        exact ⟨_, _, _, _, rfl, hl, by rw [c.1], rfl, rfl, c.2, rfl⟩
      · cases h
    · cases h
  · cases h
mutual
def kD (K : PySem.W.Frag) : D → Value → Bool
  | .none, u => match u with
    | .none => true
    | _ => false
  | .bool b, u => match u with
    | .bool a => a == b
    | _ => false
  | .int j, u => match u with
    | .int i _ => decide (i = j)
    | _ => false
  | .str y, u => match u with
    | .str x _ => decide (x = y)
    | _ => false
  | .tuple ds, u => match kTup K u with
    | some us => kDs K ds us
    | none => false
  | .list _, _ => false
  | .dict _, _ => false
def kDs (K : PySem.W.Frag) : List D → List Value → Bool
  | [], us => us.isEmpty
  | d :: ds, us => match us with
    | [] => false
    | v :: vs => kD K d v && kDs K ds vs
end
mutual
theorem kD_ok {O : V → Int → Prop} {K : PySem.W.Frag} : ∀ {d : D} {u : Value}, kD K d u = true → ∃ v, RelV v u ∧ ∀ G : Hp, RD O K G v d
  | .none, u, h => by
    unfold kD at h
    split at h
    · exact ⟨.non, rfl, fun _ => .non⟩
    · cases h
  | .bool b, u, h => by
    unfold kD at h
    split at h
    · exact ⟨.bl b, by rw [beq_iff_eq] at h; rw [← h]; rfl, fun _ => .bl _⟩
    · cases h
  | .int b, u, h => by
    unfold kD at h
    split at h
    · exact ⟨.int b, ⟨_, by rw [← of_decide_eq_true h]⟩, fun _ => .int _⟩
    · cases h
  | .str b, u, h => by
    unfold kD at h
    split at h
    · exact ⟨.str b, ⟨_, by rw [← of_decide_eq_true h]⟩, fun _ => .str _⟩
    · cases h
  | .tuple ds, u, h => by
    unfold kD at h
    split at h
    · rename_i us hk
      obtain ⟨a, o, its, n, rfl, h1, h2, h3, h4, h5, rfl⟩ := kTup_ok hk
      obtain ⟨xs, r, q⟩ := kDs_ok (O := O) h
      exact ⟨.ref a, rfl, fun G => .tup (.inr ⟨o, its, n, h1, h2, h3, h4, h5, r⟩) (q G)⟩
    · cases h
  | .list _, _, h => by unfold kD at h; cases h
  | .dict _, _, h => by unfold kD at h; cases h
theorem kDs_ok {O : V → Int → Prop} {K : PySem.W.Frag} : ∀ {ds : List D} {us : List Value}, kDs K ds us = true → ∃ vs, Vals vs us ∧ ∀ G : Hp, RDs O K G vs ds
  | [], us, h => by
    unfold kDs at h
    cases us with
    | nil => exact ⟨[], .nil, fun _ => .nil⟩
    | cons _ _ => cases h
  | d :: ds, us, h => by
    unfold kDs at h
    split at h
    · cases h
    · rw [Bool.and_eq_true] at h
      obtain ⟨v, r, q⟩ := kD_ok (O := O) h.1
      obtain ⟨vs, rs, qs⟩ := kDs_ok (O := O) h.2
      exact ⟨v :: vs, .cons r rs, fun G => .cons (q G) (qs G)⟩
end
section
variable {X : Cx} {C : Ct} {σ : L2.St} {G H G' H' G2 H2 : Hp} {ρ : Rho} {b c : Nat} {e : Expr} {pos : Pos}
theorem pd_const {x : Str} {d : D} {w : Value} (hg : Gl X x) (hm : X.mg x = some w) (h : kD X.K d w = true) (hd : (x == ("__debug__" : Str)) = false := by decide) (hK : X.K = C.K := by rfl) : PD X C (.Name x pos) (fun _ => .ret d) := by
  obtain ⟨v, r, q⟩ := kD_ok (O := C.J.O) h
  exact pd_glob hg hm r (fun G => by rw [← hK]; exact q G) hd

/-! ### displays of dicts -/
theorem Post.newLate {fp : Addr → Prop} {p : Addr} {o u : HO} (P : Post fp G (upd H p o) G2 H2) (n : H p = none) (s : ∀ a o, G a = some o → H a = some o) (hp : ¬ fp p) : G2 p = none ∧ H2 p = some o ∧ Post fp G H (upd G2 p u) (upd H2 p u) := by
  have e : H2 p = some o := P.hh p o hp upd_same
  have g : G2 p = none := by
    cases q : G2 p with
    | none => rfl
    | some y =>
      rcases P.fr p (by rw [q]; simp) with z | z
      · cases w : G p with
        | none => exact absurd w z
        | some y => have := s _ _ w; rw [n] at this; cases this
      · rw [upd_same] at z; cases z
  refine ⟨g, e, fun a y q => ?_, fun a y q => ?_, fun a y nf q => ?_, fun a q => ?_, fun a q => ?_⟩
  · have := P.gg a y q
    rw [upd_ne (ne_of_none this g)]; exact this
  · by_cases h : a = p
    · subst h; rw [upd_same] at q ⊢; exact q
    · rw [upd_ne h] at q ⊢; exact P.sub a y q
  · have h : a ≠ p := ne_of_none q n
    rw [upd_ne h]
    exact P.hh a y nf (by rw [upd_ne h]; exact q)
  · by_cases h : a = p
    · subst h; rw [upd_same]; simp
    · rw [upd_ne h]; exact P.th a (by rw [upd_ne h]; exact q)
  · by_cases h : a = p
    · subst h; exact .inr n
    · rw [upd_ne h] at q
      rcases P.fr a q with z | z
      · exact .inl z
      · rw [upd_ne h] at z; exact .inr z
/-- the pairs of a display -/
def dispT : List (Key × (Rho → T D)) → Rho → T (List (D × D))
  | [], _ => .ret []
  | (k, f) :: r, ρ => (f ρ).bind fun d => (dispT r ρ).bind fun ds => .ret ((keyD k, d) :: ds)
def dispD (kfs : List (Key × (Rho → T D))) (ρ : Rho) : T D := (dispT kfs ρ).bind fun ds => .ret (.dict ds)
def dispTr (C : Ct) (kfs : List (Key × (Rho → T D))) : List (TE × TE) := kfs.map fun p => (tC (kV p.1), tD C p.2)
theorem disp_pairs : ∀ (kfs : List (Key × (Rho → T D))) {σ : L2.St} {G H : Hp} {ρ : Rho} {b : Nat} {Q : List (V × V) → Hp → Prop}, Rel C G H ρ σ b →
    Go C σ G H ρ b (dispT kfs ρ) (fun ds G' H' _ => ∀ kvs : List (Key × V), kvs.map (·.1) = kfs.map (·.1) → RDk C.J.O C.K G' kvs ds → Q (kvs.map fun kv => (kV kv.1, kv.2)) H') → tPairs (dispTr C kfs) σ H Q
  | [], σ, G, H, ρ, b, Q, R, h => h.ret R [] rfl .nil
  | (k, f) :: r, σ, G, H, ρ, b, Q, R, h => by
    refine ⟨G, ρ, b, R, (Go.bind R h).mono fun d G1 H1 c P j z v rv => ?_⟩
    obtain ⟨R1, z⟩ := z
    refine disp_pairs r R1 ((Go.bind R1 z).mono fun ds G2 H2 c2 P2 j2 z2 kvs hk rk => ?_)
    obtain ⟨R2, z2⟩ := z2
    exact (z2.ret R2).2.2 ((k, v) :: kvs) (by rw [List.map_cons, List.map_cons, hk]) (.cons (rv.mono P2.gg) rk)
theorem valV_not {kvs : List (Key × V)} {k : Key} (h : k ∉ kvs.map (·.1)) : valV kvs k = none := by
  induction kvs with
  | nil => rfl
  | cons p r ih =>
    rw [List.map_cons, List.mem_cons, not_or] at h
    rw [valV_neg (fun z => h.1 z.symm)]
    exact ih h.2
theorem mergeK_nd : ∀ (more kvs : List (Key × V)), (kvs.map (·.1) ++ more.map (·.1)).Nodup → mergeK kvs more = kvs ++ more
  | [], kvs, _ => by rw [List.append_nil]; rfl
  | p :: r, kvs, h => by
    have e : mergeK kvs (p :: r) = mergeK (putK kvs p.1 p.2) r := rfl
    rw [List.map_cons] at h
    have hn : p.1 ∉ kvs.map (·.1) := fun z => (List.nodup_append.mp h).2.2 _ z _ List.mem_cons_self rfl
    rw [e, putK_new _ (valV_not hn), mergeK_nd r _ (by simpa [List.append_assoc] using h), List.append_assoc]
    rfl
theorem d_disp {kfs : List (Key × (Rho → T D))} (nd : (kfs.map (·.1)).Nodup) (h15 : kfs.length ≤ 15) : ∀ σ H Q, tD C (dispD kfs) σ H Q → tDisp (dispTr C kfs) σ H Q := by
  rintro σ H Q ⟨G, ρ, b, R, h⟩ p n
  have hp : ¬ C.J.fp p := fun f => R.jth p f (by
    cases q : C.H0 p with
    | none => rfl
    | some o => exact absurd n (R.post.th p (by rw [q]; simp)))
  have P0 : Post C.J.fp G H G (upd H p (.dK [])) := .newH R.sub n
  have R0 : Rel C G (upd H p (.dK [])) ρ σ b := R.step P0 (C.J.loc b H _ R.jar fun a ha => upd_ne fun z => hp (z ▸ ha))
  refine disp_pairs kfs R0 (T.sat_mono (fun ds c z G2 H2 P2 j2 kvs hk rk => ?_) (fun _ _ z => z) (T.sat_bind h))
  have P2 : Post C.J.fp G (upd H p (.dK [])) G2 H2 := P2
  obtain ⟨g, e2, P⟩ := Post.newLate (u := .dK kvs) P2 n R.sub hp
  refine ⟨e2, kvs, rfl, by rw [← List.length_map (f := (·.1)), hk, List.length_map]; exact h15, ?_⟩
  rw [mergeK_nd kvs [] (by rw [hk]; simpa using nd), List.nil_append]
  have gg : ∀ a o, G2 a = some o → (upd G2 p (.dK kvs)) a = some o := fun a o q => by rw [upd_ne (ne_of_none q g)]; exact q
  exact z _ _ P (C.J.loc c H2 _ j2 fun a ha => upd_ne fun z => hp (z ▸ ha)) _ (.dct upd_same (rk.mono gg))
theorem d_dnew : ∀ σ H Q, tD C (fun _ => .ret (.dict [])) σ H Q → tDNewK σ H Q := by
  rintro σ H Q ⟨G, ρ, b, R, h⟩ p n
  exact h.newv R n (.dct upd_same .nil)
theorem pd_dnew : PD X C (.Dict [] [] pos) (fun _ => .ret (.dict [])) := PEto pe_dnewK d_dnew
abbrev PDp (X : Cx) (C : Ct) (pos : Pos) (keys : List (Option Expr)) (values : List Expr) (kfs : List (Key × (Rho → T D))) : Prop := PPs X pos keys values (dispTr C kfs)
theorem pdp_nil : PDp X C pos [] [] [] := pps_nil
theorem pdp_str {x : Str} {j : Nat} {p : Pos} {ks : List (Option Expr)} {vs : List Expr} {kfs : List (Key × (Rho → T D))} {v : Expr} {f : Rho → T D} (hv : PD X C v f) (hr : PDp X C pos ks vs kfs) : PDp X C pos (some (.Constant (.str x) j p) :: ks) (v :: vs) ((.inr x, f) :: kfs) :=
  pps_cons pe_str hv hr
theorem pdp_int {x : Int} {j : Nat} {p : Pos} {ks : List (Option Expr)} {vs : List Expr} {kfs : List (Key × (Rho → T D))} {v : Expr} {f : Rho → T D} (hv : PD X C v f) (hr : PDp X C pos ks vs kfs) : PDp X C pos (some (.Constant (.int x) j p) :: ks) (v :: vs) ((.inl x, f) :: kfs) :=
  pps_cons pe_int hv hr
theorem pd_disp {keys : List (Option Expr)} {values : List Expr} {kfs : List (Key × (Rho → T D))} {js : List Key} (h : PDp X C pos keys values kfs) (hj : kfs.map (·.1) = js := by rfl) (nd : js.Nodup := by decide) (h15 : js.length ≤ 15 := by decide) (hall : keys.all (·.isSome) = true := by rfl) (hl : keys.length = values.length := by rfl) (h0 : keys ≠ [] := by simp) (hk15 : keys.length ≤ 15 := by decide) :
    PD X C (.Dict keys values pos) (dispD kfs) := PEto (pe_disp h hall hl h0 hk15) (d_disp (by rw [hj]; exact nd) (by rw [← List.length_map (f := (·.1)), hj]; exact h15))

/-! ### isinstance of an error -/
theorem keyD_nd (k : Key) (xs : List (D × D)) : keyD k ≠ .dict xs := by cases k <;> (unfold keyD; intro h; cases h)
theorem d_isExc {i : Nat} {a D : Addr} {cv : Value} {k : Bool} {v : V} (hO : ∀ v, ¬ C.J.O v (-1)) (hcv : ∀ u, RelV v u → u = cv) (kt : PySem.W.kitOne C.K (.ref D) cv = some k) :
    ∀ σ H Q, tD (C.exc a) (isExc i k) σ H Q → tCB (rIsE C.K D a) (tCons (tVar i) (tCons (tC v) tNil)) σ H Q := by
  rintro σ H Q ⟨G, ρ, b, R, h⟩
  unfold isExc at h
  split at h
  · rename_i e
    obtain ⟨x, h1, h2⟩ := R.dat _ _ e
    refine ⟨x, h1, ?_⟩
    have ex : ∀ d, RD (C.exc a).J.O C.K G x d → d = hdl (-1) → x = .ref a := by
      intro d r ed
      cases r with
      | dct _ r =>
        cases r with
        | nil => cases ed
        | cons r1 r2 =>
          simp only [hdl, PyData.dict.injEq, List.cons.injEq, Prod.mk.injEq] at ed
          exact absurd ed.1.1 (keyD_nd _ _)
      | opq o =>
        unfold hdl at ed
        simp at ed
        subst ed
        rcases o with o | o
        · exact absurd o (hO _)
        · exact o.2
      | _ => cases ed
    have ex := ex _ h2 rfl
    subst ex
    exact ⟨v, cv, k, rfl, hcv, kt, h.retv R (.bl _)⟩
  · exact h.elim
theorem pd_isExc {i : Nat} {a D Da : Addr} {oe : Obj} {k : Bool} {n x : Str} {p p1 p2 : Pos} {pn : List (Addr × Obj)} (hO : ∀ v, ¬ C.J.O v (-1)) (kt : PySem.W.kitOne C.K (.ref D) (.ref Da) = some k) (E : ExcC X.K D) (hz : Zc (.ref D) none oe) (hd : ∃ vs, oe.data = .fields vs)
    (hN : X.N[i]? = some n) (hv : Vis X.env.scope n) (hg : Gl X "isinstance") (hm : X.mg "isinstance" = none) (hgx : Gl X x) (hmx : X.mg x = some (.ref Da)) (hK : X.K = C.K := by rfl)
    (hdn : (n == ("__debug__" : Str)) = false := by decide) (hcd : (n == ("__classdict__" : Str)) = false := by decide) (hdx : (x == ("__debug__" : Str)) = false := by decide)
    (hs : starEach [.Name n p1, .Name x p2] (X.suite a ((a, oe) :: pn)).env = (false, eval (.Name n p1) (X.suite a ((a, oe) :: pn)).env) :: starEach [.Name x p2] (X.suite a ((a, oe) :: pn)).env := by rfl)
    (hs2 : starEach [.Name x p2] (X.suite a ((a, oe) :: pn)).env = (false, eval (.Name x p2) (X.suite a ((a, oe) :: pn)).env) :: starEach [] (X.suite a ((a, oe) :: pn)).env := by rfl) (hpl : (backTo pos (starEach [.Name x p2] (X.suite a ((a, oe) :: pn)).env)).any (·.1) = false := by rfl) :
    PD (X.suite a ((a, oe) :: pn)) (C.exc a) (.Call (.Name "isinstance" p) [.Name n p1, .Name x p2] [] pos) (isExc i k) :=
  PEto (pe_callB (call_isE E hz hd) hg hm (by decide +kernel) (pa_cons (pv i hN hv hdn hcd) (pa_cons (pe_glob (v := .ref Da) hgx hmx rfl hdx) pa_nil hs2) hs) (by decide) (by decide) hs hpl) (by rw [hK]; exact d_isExc hO (fun u r => r) kt)
/-- a reading that nothing keeps -/
theorem pd_if {pr : Prop} [Decidable pr] {f : Rho → T D} (h : pr → PD X C e f) : PD X C e (fun ρ => if pr then f ρ else .bad) := by
  by_cases hp : pr
  · rw [show (fun ρ => if pr then f ρ else (.bad : T D)) = f from funext fun ρ => if_pos hp]
    exact h hp
  · rw [show (fun ρ => if pr then f ρ else (.bad : T D)) = fun _ => .bad from funext fun ρ => if_neg hp]
    exact ⟨fun pins s σ H Q I ⟨_, _, _, _, z⟩ => z.elim⟩
end

/-! ### a def that is called -/
structure Cal (P : Program) (w : World) (J : Jr) (K : PySem.W.Frag) (mg : Str → Option Value) (base : Heap) (k : Nat) (x : Str) (st : Stmt) (ps : List Str) (F : List D → T D) (f : Addr) (fd : FuncData) : Prop where
  fn : FnG P w K mg base k f fd ps (spD J K mg F ps.length)
  mg : mg x = some (.ref f)
  fu : Fun K x x st f fd
  bi : Binds K fd ps []
theorem Cal.kp {P : Program} {w : World} {J : Jr} {K : PySem.W.Frag} {mg : Str → Option Value} {base : Heap} {k : Nat} {x : Str} {st : Stmt} {ps : List Str} {F : List D → T D} {f : Addr} {fd : FuncData} (c : Cal P w J K mg base k x st ps F f fd) : PySem.W.keepIn K (.ref f) = true := c.fu.kp
theorem Cal.kb {P : Program} {w : World} {J : Jr} {K : PySem.W.Frag} {mg : Str → Option Value} {base : Heap} {k : Nat} {x : Str} {st : Stmt} {ps ks : List Str} {F : List D → T D} {f : Addr} {fd : FuncData} (c : Cal P w J K mg base k x st ps F f fd) {m : Nat} {is : List Nat} (hp : ps.length ≠ 0)
    (h : ∀ (kV doc pm : Value) (an : Option Addr) (cdv ct : Value) (us ws : List Value), us.length = m → ws.length = ks.length → bindArgs (PySem.W.fnOf x x (defArgs st) (defBody st) (defScope st) .none kV doc pm an cdv ct) ⟨us, ks.zip ws⟩ = pure (ps.zip (pkA is (us ++ ws)))) :
    KBinds K fd ps ks (gK m ks.length is) (gK m ks.length is) := by
  obtain ⟨oc, od, kV, doc, pm, an, cdv, ct, osl, rfl, lk, hcd⟩ := c.fu.ex
  exact kb_of hp (h kV doc pm an cdv ct)
end Y
namespace Y
open PySem PySem.Spec PyProof.Rows L2

section
variable {X : Cx} {C : Ct} {σ : L2.St} {G H G' H' G2 H2 : Hp} {ρ : Rho} {b c : Nat} {e : Expr} {es : List Expr} {pos p : Pos} {fs : Rho → T (List D)} {f g : Rho → T D}
/-! ### list(x), a list of ours -/
def list1L : List D → T (List D)
  | [d] => seqOf d
  | _ => .bad
theorem Go.newO {ds : List D} {xs : List V} {Q : VK} {H0 : Hp} {p : Addr} (h : Go C σ G H ρ b (.ret ds) fun ds G' H' _ => ∀ p xs, H0 p = none → G' p = none → H' p = some (.lst xs) → RDs C.J.O C.K G' xs ds → Q (.ref p) H') (R : Rel C G H ρ σ b) (n : H p = none) (n0 : H0 p = none) (r : RDs C.J.O C.K G xs ds) : Q (.ref p) (upd H p (.lst xs)) := by
  have gp : G p = none := by
    cases q : G p with
    | none => rfl
    | some o => have := R.sub p o q; rw [n] at this; cases this
  exact h G (upd H p (.lst xs)) (.newH R.sub n) (C.J.loc b H _ R.jar fun a ha => upd_ne fun z => R.post.th a (R.jth a ha) (by rw [z]; exact n)) p xs n0 gp upd_same r
theorem t_list : ∀ σ H Q, tL C (fun ρ => (fs ρ).bind list1L) σ H Q → tCB (fun xs H Q => ∃ p ys, xs = [.ref p] ∧ (SqL C.K H p ys ∨ SqT C.K H p ys) ∧ ∀ l, H l = none → Q (.ref l) (upd H l (.lst ys))) (tA C fs) σ H Q := by
  rintro σ H Q ⟨G, ρ, b, R, h⟩
  refine ⟨G, ρ, b, R, (Go.bind R h).mono fun ds G1 H1 c P j z vs rs => ?_⟩
  obtain ⟨R1, z⟩ := z
  have back : ∀ l, H1 l = none → H l = none := fun l n => by
    cases q : H l with
    | none => rfl
    | some o => exact absurd n (P.th l (by rw [q]; simp))
  cases rs with
  | nil => exact z.elim
  | cons r rs =>
    cases rs with
    | cons _ _ => exact z.elim
    | nil =>
      have z := z.mono fun _ _ _ _ _ _ q => q.2
      cases r with
      | lst e r => exact ⟨_, _, rfl, .inl (SqL.of (R1.sub _ _ e)), fun l n => Go.newO z R1 n (back l n) r⟩
      | tup e r => exact ⟨_, _, rfl, .inr (e.mono R1.sub).T, fun l n => Go.newO z R1 n (back l n) r⟩
      | _ => exact z.elim
theorem pdL_list (ha : PDa X C (e :: es) fs) (hg : Gl X "list") (hm : X.mg "list" = none) (hK : X.K = C.K := by rfl) (he : starEach (e :: es) X.env = (false, eval e X.env) :: starEach es X.env := by rfl) (hpl : (backTo pos (starEach es X.env)).any (·.1) = false := by rfl) :
    PDL X C (.Call (.Name "list" p) (e :: es) [] pos) (fun ρ => (fs ρ).bind list1L) := PEto (pe_callTy call_list_of hg hm (by decide +kernel) ha (by decide) (by decide) he hpl) (by rw [hK]; exact t_list)

/-! ### two names at once -/
def parS (i j : Nat) (fs : Rho → T (List D)) : Rho → T Out := atS fs fun ρ ds => match ds with
  | [d, e] => .ret (.nx ((ρ.set i (.dt d)).set j (.dt e)))
  | _ => .bad
theorem s_par {i j : Nat} : ∀ Dn σ H, tS C (parS i j fs) Dn σ H → tPar i j (tA C fs) Dn σ H := by
  rintro Dn σ H ⟨G, ρ, b, R, h⟩
  refine ⟨G, ρ, b, R, (S_go R h).mono fun ds G1 H1 c P k z vs rs => ?_⟩
  obtain ⟨R1, z⟩ := z
  match ds, vs, rs, z with
  | [d, e], _, .cons r1 (.cons r2 .nil), z => exact ⟨_, _, rfl, z _ _ _ (Gr.refl _) ((R1.set r1).set r2)⟩
  | [], _, _, z => exact z.elim
  | [_], _, _, z => exact z.elim
  | _ :: _ :: _ :: _, _, _, z => exact z.elim
theorem pd1_par (i j : Nat) {x y : Str} {a b : Expr} {px py pt : Pos} {kt k2 pt2} (hc : X.calm = true) (hN : X.N.Nodup) (ha : PDa X C [a, b] fs) (hi : X.N[i]? = some x := by rfl) (hj : X.N[j]? = some y := by rfl) (hij : i ≠ j := by decide)
    (hx : X.env.scope.names.lookup x = some .local := by rfl) (hy : X.env.scope.names.lookup y = some .local := by rfl)
    (hw : swappedStores [.Tuple [.Name x px, .Name y py] kt pt] (.Tuple [a, b] k2 pt2) X.env = pure (some [x, y]) := by rfl)
    (hs : swapsWithSole [.Tuple [.Name x px, .Name y py] kt pt] (.Tuple [a, b] k2 pt2) pos.line X.env = pure false := by rfl) :
    PD1 X C (.Assign [.Tuple [.Name x px, .Name y py] kt pt] (.Tuple [a, b] k2 pt2) pos) (parS i j fs) := PStoD (ps_par hc hN hi hj hij hx hy ha hw hs) s_par
end

/-! ### the script, as a handle -/
/-- a written list -/
def KLst (K : PySem.W.Frag) (a : Addr) (xs : List V) : Prop := ∃ (o : Obj) (its : Array Value) (n : Nat), K.lookup a = some o ∧ o.cls = .type "list" ∧ o.dict = none ∧ o.data = .seq its n ∧ its.size ≤ sizeLine ∧ Vals xs its.toList
def scrJ (K : PySem.W.Frag) (a : Addr) (ns : List Int) (z : Prop) : Jr where
  fp b := b = a ∧ z
  ok _ H := (z ∧ Rd H a (.lst (ns.map .int))) ∨ KLst K a (ns.map .int)
  loc b H H' h k := by
    rcases h with ⟨hz, h⟩ | h
    · refine .inl ⟨hz, ?_⟩
      unfold Rd at h ⊢
      rw [k a ⟨rfl, hz⟩]
      exact h
    · exact .inr h
  O v n := n = 0 ∧ v = .ref a
section
variable {X : Cx} {K : PySem.W.Frag} {mg : Str → Option Value} {sa : Addr} {ns : List Int} {zz : Prop} {G0 H0 : Hp} {W : WX} {f : Rho → T D} {a : Expr} {p pos p2 : Pos}
abbrev scrC (K : PySem.W.Frag) (mg : Str → Option Value) (sa : Addr) (ns : List Int) (zz : Prop) (G0 H0 : Hp) (W : WX) : Ct := ⟨scrJ K sa ns zz, K, mg, G0, H0, W⟩
theorem opq_key {J : Jr} {G : Hp} {v : V} {d : D} {n : Int} (q : RD J.O K G v d) (ed : d = hdl n) : J.O v n := by
  cases q with
  | dct _ qs =>
    cases qs with
    | nil => cases ed
    | cons r1 r2 =>
      simp only [hdl, PyData.dict.injEq, List.cons.injEq, Prod.mk.injEq] at ed
      exact absurd ed.1.1 (keyD_nd _ _)
  | opq o =>
    simp only [hdl, PyData.dict.injEq, List.cons.injEq, Prod.mk.injEq, PyData.int.injEq] at ed
    rw [← ed.1.2]
    exact o
  | _ => cases ed
theorem opq_is {J : Jr} {G : Hp} {v : V} {n : Int} (r : RD J.O K G v (hdl n)) : J.O v n := opq_key r rfl
theorem scr_seq {H : Hp} {b : Nat} (h : (scrJ K sa ns zz).ok b H) : SqL K H sa (ns.map .int) := by
  rcases h with ⟨_, h⟩ | h
  · exact .inl h
  · exact .inr h
def isScr : D → Bool
  | .dict [(.dict [], .int 0)] => true
  | _ => false
theorem isScr_eq {d : D} (h : isScr d = true) : d = hdl 0 := by
  unfold isScr at h
  split at h
  · rfl
  · cases h
theorem ints_rd {O : V → Int → Prop} {G : Hp} : ∀ ns : List Int, RDs O K G (ns.map .int) (ns.map .int)
  | [] => .nil
  | n :: r => .cons (.int n) (ints_rd r)
def scrSl (ns : List Int) (x : D) (lo hi : Option Int) : T D := ask (isScr x = true) (.ret (.list (cutD (ns.map PyData.int) lo hi)))
theorem d_scrSl {l u : Rho → T (Option Int)} : ∀ σ H Q, tD (scrC K mg sa ns zz G0 H0 W) (fun ρ => (f ρ).bind fun x => (l ρ).bind fun lo => (u ρ).bind fun hi => scrSl ns x lo hi) σ H Q →
    tSl (rSlL K) (tD (scrC K mg sa ns zz G0 H0 W) f) (tO (scrC K mg sa ns zz G0 H0 W) l) (tO (scrC K mg sa ns zz G0 H0 W) u) σ H Q := by
  rintro σ H Q ⟨G, ρ, b, R, h⟩
  refine ⟨G, ρ, b, R, (Go.bind R h).mono fun d G1 H1 c P j z v r => ?_⟩
  obtain ⟨R1, z⟩ := z
  refine ⟨G1, ρ, c, R1, (Go.bind R1 z).mono fun lo G2 H2 c2 P2 j2 z2 => ?_⟩
  obtain ⟨R2, z2⟩ := z2
  refine ⟨G2, ρ, c2, R2, (Go.bind R2 z2).mono fun hi G3 H3 c3 P3 j3 z3 => ?_⟩
  obtain ⟨R3, z3⟩ := z3
  obtain ⟨hd, z3⟩ := Go.ask z3
  have := isScr_eq hd
  subst this
  obtain ⟨_, rfl⟩ := opq_is r
  exact ⟨sa, ns.map .int, rfl, scr_seq R3.jar, fun p n => (z3.mono fun _ _ _ _ _ _ q => q.2.2.2).newL R3 n ((ints_rd ns).cut lo hi)⟩
theorem pd_scrSl {C : Ct} (hC : C = scrC K mg sa ns zz G0 H0 W) {lo hi : Option Expr} {l u : Rho → T (Option Int)} (ha : PD X C a f) (hl : PO X lo (tO C l)) (hu : PO X hi (tO C u)) (hK : X.K = K := by rfl) : PD X C (.Subscript a (.Slice lo hi none p2) pos) (fun ρ => (f ρ).bind fun x => (l ρ).bind fun lo => (u ρ).bind fun hi => scrSl ns x lo hi) := by
  subst hC
  have := pe_slice (pos := pos) (p2 := p2) sl_list ha hl hu
  rw [hK] at this
  exact PEto this d_scrSl
def scrLen (ns : List Int) : List D → T D
  | [x] => ask (isScr x = true) (.ret (.int ns.length))
  | _ => .bad
theorem c_scrLen : CallD (scrC K mg sa ns zz G0 H0 W) (fun xs H Q => ∃ x n, xs = [x] ∧ LenV K x H n ∧ Q (.int n) H) (scrLen ns) := by
  intro σ G H ρ b vs ds Q R rs h
  match ds, vs, rs, h with
  | [d], _, .cons r .nil, h =>
    obtain ⟨hd, h⟩ := Go.ask h
    have := isScr_eq hd
    subst this
    obtain ⟨_, rfl⟩ := opq_is r
    have hl : ((ns.map V.int).length : Int) = ns.length := by rw [List.length_map]
    exact ⟨_, _, rfl, .inl ⟨_, scr_seq R.jar, rfl⟩, by rw [hl]; exact h.retv R (.int _)⟩
  | [], _, _, h => exact h.elim
  | _ :: _ :: _, _, _, h => exact h.elim
theorem pd_scrLen {C : Ct} (hC : C = scrC K mg sa ns zz G0 H0 W) {es : List Expr} {fs : Rho → T (List D)} (hg : Gl X "len") (hm : X.mg "len" = none) (ha : PDa X C (a :: es) fs) (hK : X.K = K := by rfl) (he : starEach (a :: es) X.env = (false, eval a X.env) :: starEach es X.env := by rfl) (hpl : (backTo pos (starEach es X.env)).any (·.1) = false := by rfl) :
    PD X C (.Call (.Name "len" p) (a :: es) [] pos) (fun ρ => (fs ρ).bind (scrLen ns)) := by
  subst hC
  exact pd_cb call_len (by rw [hK]; exact c_scrLen) hg hm (by decide +kernel) ha (by decide) (by decide) he hpl
end
end Y
namespace Y
open PySem PySem.Spec PyProof.Rows L2
/-- an own class of errors over ValueError, made of nothing -/
structure OwnE (K : PySem.W.Frag) (mg : Str → Option Value) (x : Str) (a : Addr) : Prop where
  mg : mg x = some (.ref a)
  kp : PySem.W.keepIn K (.ref a) = true
  ei : PySem.W.excIn K a [.type "ValueError", .type "Exception", .type "BaseException", .type "object"] "ValueError.__new__" = true
  sub : PySem.W.subIn K (.ref a) (.type "BaseException") = some true
  ty : PySem.W.typeIn K (.ref a) = some (.type "type")
  dct : PySem.W.hasDictIn K a = true
  self : PySem.W.subIn K (.ref a) (.ref a) = some true
  ec : ExcC K a
def tkOf (c n : Str) : Option Bool := if n = c then some true else none
theorem tkOf_ok {C : Ct} {x : Str} {a : Addr} (e : OwnE C.K C.mg x a) : ∀ (n : Str) (Ca : Addr) (k : Bool), tkOf x n = some k → C.mg n = some (.ref Ca) → PySem.W.exmOne C.K (.ref Ca) (.ref a) = some k := fun n Ca k h hm => by
  unfold tkOf at h
  split at h
  · rename_i he
    cases h
    subst he
    have := e.mg.symm.trans hm
    cases this
    exact PySem.W.exm_ref e.sub e.dct e.ty e.self
  · cases h
section
variable {X : Cx} {C : Ct} {f : Rho → T D} {t : Rho → T Bool} {pos spos py : Pos}
/-- name = [.. for ..] on one row, as data -/
theorem pd1_setLc (i : Nat) {y : Str} {α : Type} {it : Rho → T (List α)} {w : TG} {gg : α → Rho → Option Rho} {elt tg iter : Expr} {ifs : List Expr} {scope : Scope} {own : List (Str × Nat)} (hc : X.calm = true) (hN : X.N.Nodup) (hi : PDi X C tg iter (own.map (·.2)) it w gg) (ok : BlkOk X.N X.env.scope scope own)
    (hg : ∀ (s : Shared) (H : Hp) (D : Addr) (cl : List (Str × Addr)) (fp : List Addr), PG (X.blk s H scope (compEnvC scope cl D X.env) fp) tg w) (ht : ∀ (s : Shared) (H : Hp) (D : Addr) (cl : List (Str × Addr)) (fp : List Addr), PTs (X.blk s H scope (compEnvC scope cl D X.env) fp) ifs (tT C.nox t))
    (he : ∀ (s : Shared) (H : Hp) (D : Addr) (cl : List (Str × Addr)) (fp : List Addr), PD (X.blk s H scope (compEnvC scope cl D X.env) fp) C.nox elt f) (hy : X.N[i]? = some y := by rfl) (hyl : X.env.scope.names.lookup y = some .local := by rfl)
    (hsw : swapsWith (.ListComp elt [⟨tg, iter, ifs, 0⟩] scope pos) (some (.Name y py)) spos.line X.env = pure true := by rfl) (hs : ∀ x, foldedSetIterable iter X.env x = pure x := by intro _; rfl) :
    PD1 X C (.Assign [.Name y py] (.ListComp elt [⟨tg, iter, ifs, 0⟩] scope pos) spos) (asgS i fun ρ => (lcD (own.map (·.2)) it gg t f ρ).bind fun ds => .ret (.list ds)) :=
  PStoD (ps_setLc hc hN hy hyl hsw hi ok hg ht he hs) fun Dn σ H q => (d_LD fun _ _ _ q => d_lc _ _ _ q) _ _ _ (s_asg Dn σ H q)
theorem pd1_setLcO (i : Nat) {y : Str} {α : Type} {it : Rho → T (List α)} {w : TG} {gg : α → Rho → Option Rho} {elt tg iter : Expr} {ifs : List Expr} {scope : Scope} {own : List (Str × Nat)} (hc : X.calm = true) (hN : X.N.Nodup) (hi : PDi X C tg iter (own.map (·.2)) it w gg) (ok : BlkOk X.N X.env.scope scope own)
    (hg : ∀ (s : Shared) (H : Hp) (D : Addr) (cl : List (Str × Addr)) (fp : List Addr), PG (X.blk s H scope (compEnvC scope cl D X.env) fp) tg w) (ht : ∀ (s : Shared) (H : Hp) (D : Addr) (cl : List (Str × Addr)) (fp : List Addr), PTs (X.blk s H scope (compEnvC scope cl D X.env) fp) ifs (tT C.nox t))
    (he : ∀ (s : Shared) (H : Hp) (D : Addr) (cl : List (Str × Addr)) (fp : List Addr), PD (X.blk s H scope (compEnvC scope cl D X.env) fp) C.nox elt f) (hy : X.N[i]? = some y := by rfl) (hyl : X.env.scope.names.lookup y = some .local := by rfl)
    (hsw : swapsWith (.ListComp elt [⟨tg, iter, ifs, 0⟩] scope pos) (some (.Name y py)) spos.line X.env = pure true := by rfl) (hs : ∀ x, foldedSetIterable iter X.env x = pure x := by intro _; rfl) :
    PD1 X C (.Assign [.Name y py] (.ListComp elt [⟨tg, iter, ifs, 0⟩] scope pos) spos) (asgO i (lcD (own.map (·.2)) it gg t f)) :=
  PStoD (ps_setLc hc hN hy hyl hsw hi ok hg ht he hs) fun Dn σ H q => d_lc _ _ _ (s_asgO Dn σ H q)
end
abbrev cD (d : D) (_ : Rho) : T D := .ret d
abbrev nilA (_ : Rho) : T (List D) := .ret []
abbrev noP (_ : Rho) : T (Option Int) := .ret none
abbrev yesT (_ : Rho) : T Bool := .ret true
/-- a draw from the jar -/
def drawF : List D → T D
  | [j, .int n] => if isScr j = true then .draw n fun r => .ret (.int r) else .bad
  | _ => .bad
end Y
namespace Y
open PySem PySem.Spec PyProof.Rows L2
/-! ### the jar -/
/-- the keys and values of a jar -/
def jarK (a1 a2 : Addr) (sl count : Int) : List (Key × V) := [(.inr "far", .ref a1), (.inr "cells", .ref a2), (.inr "seal", .int sl), (.inr "count", .int count)]
structure JarP where
  p : Addr
  a1 : Addr
  a2 : Addr
  cells : List Int
  sl : Int
structure JarP.Ok (j : JarP) : Prop where
  p1 : j.p ≠ j.a1
  p2 : j.p ≠ j.a2
  a12 : j.a1 ≠ j.a2
  ne : 0 < j.cells.length
  few : j.cells.length ≤ 100
  s0 : 0 ≤ j.sl
  s1 : j.sl < 2 ^ 33
def JarP.holds (j : JarP) (b : Nat) (H : Hp) : Prop := ∃ (far : List Int) (count : Int), H j.p = some (.dK (jarK j.a1 j.a2 j.sl count)) ∧ H j.a1 = some (.lst (far.map .int)) ∧ H j.a2 = some (.lst (j.cells.map .int)) ∧ 0 ≤ count ∧ count + b ≤ 2 ^ 40 ∧ far.length ≤ 100
def JarP.J (j : JarP) : Jr where
  fp b := b = j.p ∨ b = j.a1 ∨ b = j.a2
  ok b H := j.holds b H
  loc b H H' := by
    rintro ⟨far, count, h1, h2, h3, h4⟩ k
    exact ⟨far, count, by rw [k _ (.inl rfl)]; exact h1, by rw [k _ (.inr (.inl rfl))]; exact h2, by rw [k _ (.inr (.inr rfl))]; exact h3, h4⟩
  O v n := n = 0 ∧ v = .ref j.p
theorem jar_far {a1 a2 : Addr} {s c : Int} : valV (jarK a1 a2 s c) (.inr "far") = some (.ref a1) := rfl
theorem jar_cells {a1 a2 : Addr} {s c : Int} : valV (jarK a1 a2 s c) (.inr "cells") = some (.ref a2) := rfl
theorem jar_seal {a1 a2 : Addr} {s c : Int} : valV (jarK a1 a2 s c) (.inr "seal") = some (.int s) := rfl
theorem jar_count {a1 a2 : Addr} {s c : Int} : valV (jarK a1 a2 s c) (.inr "count") = some (.int c) := rfl
theorem jar_put {a1 a2 : Addr} {s c d : Int} : putK (jarK a1 a2 s c) (.inr "count") (.int d) = jarK a1 a2 s d := rfl
theorem ints_dp {K : PySem.W.Frag} {H : Hp} : ∀ ns : List Int, DpAll K H (ns.map .int) (ns.map .int)
  | [] => .nil
  | n :: r => .cons (.int n) (ints_dp r)
theorem ints_shaped (ns : List Int) : SeqAt.shaped (.list (ns.map PyData.int)) = true := by
  have h1 : ∀ ns : List Int, PyData.canLayAll0 (ns.map .int) = true := fun ns => by
    induction ns with
    | nil => rfl
    | cons n r ih => rw [List.map_cons]; simp only [PyData.canLayAll0, PyData.canLay0, ih]; rfl
  have h2 : ∀ ns : List Int, PyData.depthAll (ns.map .int) ≤ 1 := fun ns => by
    induction ns with
    | nil => simp [PyData.depthAll]
    | cons n r ih => rw [List.map_cons]; simp only [PyData.depthAll, PyData.depth]; omega
  unfold SeqAt.shaped
  rw [Bool.and_eq_true]
  refine ⟨by simp only [PyData.canLay0, h1], ?_⟩
  have := h2 ns
  simp only [PyData.depth]
  exact decide_eq_true (by omega)
theorem far_ne (far : List Int) : (!PyData.eqv (.list (far.map PyData.int)) (.list [])) = !far.isEmpty := by
  cases far with
  | nil => rfl
  | cons _ _ => rfl
/-- what stood, but for the jar -/
def Kp (fp : Addr → Prop) (H H' : Hp) : Prop := (∀ a, ¬ fp a → H a ≠ none → H' a = H a) ∧ ∀ a, H a ≠ none → H' a ≠ none
theorem Kp.refl (fp : Addr → Prop) (H : Hp) : Kp fp H H := ⟨fun _ _ _ => rfl, fun _ h => h⟩
theorem Kp.upd {fp : Addr → Prop} {H H' : Hp} (k : Kp fp H H') {a : Addr} {o : HO} (h : fp a ∨ H' a = none) : Kp fp H (upd H' a o) := by
  refine ⟨fun b nb hb => ?_, fun b hb => ?_⟩
  · have e := k.1 b nb hb
    have hne : b ≠ a := fun z => by
      subst z
      rcases h with h | h
      · exact nb h
      · rw [h] at e; exact hb e.symm
    rw [upd_ne hne]; exact e
  · by_cases z : b = a
    · subst z; rw [upd_same]; simp
    · rw [upd_ne z]; exact k.2 b hb
theorem Kp.post {fp : Addr → Prop} {G H H' : Hp} (k : Kp fp H H') (s : ∀ a o, G a = some o → H a = some o) (f : ∀ a, fp a → G a = none) : Post fp G H G H' := by
  refine ⟨fun _ _ e => e, fun a o e => ?_, fun a o nf e => by rw [k.1 a nf (by rw [e]; simp)]; exact e, fun a h => k.2 a h, fun a h => .inl h⟩
  have e1 := s a o e
  rw [k.1 a (fun z => by rw [f a z] at e; cases e) (by rw [e1]; simp)]
  exact e1
/-- what a draw is asked -/
theorem draw_in {K : PySem.W.Frag} {mg : Str → Option Value} {j : JarP} {vs : List V} {H : Hp} {Q : VK} {E : XK} (h : spD j.J K mg drawF 2 vs H Q E) :
    ∃ (n : Int) (c : Nat), vs = [.ref j.p, .int n] ∧ 0 < n ∧ n < 2 ^ 30 ∧ j.holds (c + 1) H ∧ ∀ r H', 0 ≤ r → r < n → Kp j.J.fp H H' → j.holds c H' → Q (.int r) H' := by
  obtain ⟨hn, G, b, ds, sub, jk, fr, rs, z⟩ := h
  unfold drawF at z
  split at z
  · rename_i d n
    cases rs with
    | cons r1 rs =>
      cases rs with
      | cons r2 rs =>
        cases rs
        cases r2
        split at z
        · rename_i hs
          have := isScr_eq hs
          subst this
          obtain ⟨_, rfl⟩ := opq_is r1
          obtain ⟨c, rfl, n0, n1, z⟩ := z
          exact ⟨n, c, rfl, n0, n1, jk, fun r H' r0 r1 k jc => z r r0 r1 (.int r) G H' (k.post sub fun a ha => (fr a ha).1) jc (.int r)⟩
        · exact z.elim
  · exact z.elim
end Y
namespace Y
open PySem PySem.Spec PyProof.Rows L2
/-- what the law's def promises: with a script of a list, as it stands, True -/
def spLaw (K : PySem.W.Frag) (m : Nat) : Sp := fun vs H Q _ => ∃ (a : Addr) (ns : List Int) (zz : Prop), vs = [.ref a] ∧ ns.length ≤ m ∧ (scrJ K a ns zz).ok 0 H ∧ (zz → H a ≠ none) ∧ ∀ H', Q (.bl true) H'
/-- the script's object, known whole, where it is not the module's own -/
noncomputable def scrH (K : PySem.W.Frag) (a : Addr) (vs : List Value) (ns : List Int) : Hp := fun b => open Classical in
  if b = a ∧ K.lookup a = none then some (.frz { cls := .type "list", data := .seq vs.toArray } (.lst (ns.map .int))) else none
theorem scrH_some {K : PySem.W.Frag} {a : Addr} {vs : List Value} {ns : List Int} {b : Addr} {u : HO} (h : scrH K a vs ns b = some u) : (b = a ∧ K.lookup a = none) ∧ u = .frz { cls := .type "list", data := .seq vs.toArray } (.lst (ns.map .int)) := by
  unfold scrH at h
  split at h
  · rename_i c
    cases h
    exact ⟨c, rfl⟩
  · cases h
theorem law_callG {P : Program} {w : World} {K : PySem.W.Frag} {mg mb : Str → Option Value} {k m : Nat} {fa a : Addr} {fd : FuncData} {x : Str} {t : Shared} {vs : List Value} {ns : List Int} (inK : K.In t.heap) (gl : t.heap.Ns mainGlobals mg) (bl : t.heap.Ns builtinsNs mb) (bm : ∀ x : Str, x ≠ "__name__" → mb x = bootBuiltins x)
    (nl : t.heap.NoLimit) (ge : t.gens = #[]) (ob : t.heap.get? a = some { cls := .type "list", data := .seq vs.toArray }) (hi : IntsAre vs ns) (hm : ns.length ≤ m) (hl : m ≤ sizeLine) (rm : Room k callerA)
    (Fn : ∀ base : Heap, K.In base → base.Ns mainGlobals mg → FnG P w K mg base k fa fd [x] (spLaw K m)) (bi : ∀ (s : Shared) (u : Value), BindsTo s fd ⟨[u], []⟩ [(x, u)]) :
    codeAny (model P w) callerA (.call (.ref fa) ⟨[.ref a], []⟩) (fun r s' => r = .ok (.ret (.bool true)) ∧ OldK t.heap s'.heap ∧ s'.os = t.os ∧ AllBare s'.gens) t := by
  have rv := vals_ints hi
  have vl : vs.length ≤ sizeLine := by rw [hi.length]; omega
  have ok : HOk P w (scrH K a vs ns) t.heap := fun b u e => by
    obtain ⟨⟨rfl, _⟩, rfl⟩ := scrH_some e
    exact ⟨ob, by rw [List.length_map]; omega, vs, _, rv, ob⟩
  -- what else stands is in the ground
  have ground : ∀ {b : Addr} {o : Obj}, t.heap.get? b = some o → scrH K a vs ns b = none → (hidT t.heap (scrH K a vs ns)).get? b = some o := fun e n => hidT_get e n
  have dict : ∀ {b : Addr} {o : Obj} {es : Array DictEntry} {ep : Nat}, t.heap.get? b = some o → o.data = .dict es ep → scrH K a vs ns b = none := fun {b o es ep} e d => by
    cases q : scrH K a vs ns b with
    | none => rfl
    | some u =>
      obtain ⟨⟨rfl, _⟩, _⟩ := scrH_some q
      rw [ob] at e
      cases e
      cases d
  have ns_ : ∀ {b : Addr} {g : Str → Option Value}, t.heap.Ns b g → (hidT t.heap (scrH K a vs ns)).Ns b g := fun ⟨o, es, ep, e, d, r⟩ => ⟨o, es, ep, ground e (dict e d), d, r⟩
  have kin : K.In (hidT t.heap (scrH K a vs ns)) := fun b o e => by
    refine ground (inK b o e) ?_
    cases q : scrH K a vs ns b with
    | none => rfl
    | some u =>
      obtain ⟨⟨rfl, n⟩, _⟩ := scrH_some q
      rw [e] at n
      cases n
  obtain ⟨ml, nl1, nl2⟩ := nl
  have env : Env0 P w K mg (hidT t.heap (scrH K a vs ns)) callerA [] t (scrH K a vs ns) := {
    frames := rfl
    mod := ⟨kin, ns_ gl, ⟨mb, ns_ bl, bm⟩, ⟨ml, ns_ nl1, nl2⟩⟩
    bs := fun b o e => of_hidT e
    bsz := Nat.le_of_eq (hidT_size _ _)
    funs := trivial
    frf := fun b hb => nomatch hb
    hok := ok
    bare := .of_eq ge }
  have scr : (scrJ K a ns (K.lookup a = none)).ok 0 (scrH K a vs ns) := by
    by_cases hk : K.lookup a = none
    · exact .inl ⟨hk, .inr ⟨_, if_pos ⟨rfl, hk⟩⟩⟩
    · cases q : K.lookup a with
      | none => exact absurd q hk
      | some o =>
        have e := inK a o q
        rw [ob] at e
        cases e
        exact .inr ⟨_, vs.toArray, _, q, rfl, rfl, rfl, by rw [List.size_toArray]; exact vl, by simpa using rv⟩
  have run := (Fn _ kin (ns_ gl)).run callerA [] t _ ⟨[.ref a], []⟩ [.ref a] [.ref a] (fun v _ => v = .bl true) (fun _ _ _ => False) rm rfl env (bi t (.ref a)) (.cons rfl .nil)
    ⟨a, ns, K.lookup a = none, rfl, hm, scr, (fun hk => by rw [show scrH K a vs ns a = some _ from if_pos ⟨rfl, hk⟩]; simp), fun _ => rfl⟩
  refine codeAny_mono run fun r s' z => ?_
  match r, z with
  | .error e, ⟨_, _, _, _, _, _, _, _, _, _, _, _, z⟩ => exact z.elim
  | .ok (.ret u), ⟨v, H', os, ba, un, ok', rv', q⟩ =>
    cases q
    have ru : u = Value.bool true := rv'
    refine ⟨by rw [ru], OldK.of_keep fun b o e => ?_, os, ba⟩
    cases q : scrH K a vs ns b with
    | none => exact un.keep b o e q (fun z => nomatch z) (fun z => nomatch z)
    | some u =>
      obtain ⟨_, rfl⟩ := scrH_some q
      have e1 := (ok b _ q).1
      have e2 := (ok' b _ (un.frzs b _ _ q)).1
      rw [e] at e1
      cases e1
      exact e2
/-- the end's question, from the law's promise -/
theorem walkG {l : PySem.W.OpenLaw} {m k : Nat} {q : Program} {loose : List Str} {XP : (Str → Option Value) → Heap → Prop} {YP : World → Heap → Prop} {d : DefRec} {K : Params → PySem.W.Frag} {x : Str} (hn : l.most = some m) (hs : m ≤ sizeLine) (hd : d.params.defaults = []) (hr : Room k callerA)
    (hY : ∀ (w : World) (h : Heap), YP w h → (K w.params).In h)
    (F : ∀ (w : World) (mg : Str → Option Value) (fa : Addr) (h : Heap), (K w.params).In h → h.Ns mainGlobals mg → mg d.name = some (.ref fa) → ∃ fd : FuncData, (∀ (s : Shared) (u : Value), BindsTo s fd ⟨[u], []⟩ [(x, u)]) ∧
      ∀ base : Heap, (K w.params).In base → base.Ns mainGlobals mg → FnG l.prog w (K w.params) mg base k fa fd [x] (spLaw (K w.params) m)) :
    PySem.W.WalkO q loose XP YP l.row.toRowW d [] (fun f vs => PySem.call f vs) :=
  Att.attach_call hn hd fun w _ t mg mb fa o pm cd doc a vs ns G Y ho hdd hcd hmg hobj hints hlen hg =>
    let ⟨_, hb, hF⟩ := F w mg fa _ (hY w _ Y) G.T.g hmg
    law_callG (hY w _ Y) G.T.g G.T.b G.T.builtins G.T.nolimit hg hobj hints hlen hs hr hF hb
/-! ### the law's def: the jar, then the rest -/
def jarD (far cells : List Int) (sl : Int) : D := .dict [(.str "far", .list (far.map .int)), (.str "cells", .list (cells.map .int)), (.str "seal", .int sl), (.str "count", .int 0)]
theorem rdk_str {O : V → Int → Prop} {K : PySem.W.Frag} {G : Hp} {kvs : List (Key × V)} {x : Str} {d : D} {ds es : List (D × D)} (r : RDk O K G kvs es) (e : es = (.str x, d) :: ds) : ∃ v r', kvs = (.inr x, v) :: r' ∧ RD O K G v d ∧ RDk O K G r' ds := by
  cases r with
  | nil => cases e
  | @cons k v kvs d' ds' r1 r2 =>
    simp only [List.cons.injEq, Prod.mk.injEq] at e
    obtain ⟨⟨h1, rfl⟩, rfl⟩ := e
    cases k with
    | inl i => unfold keyD at h1; cases h1
    | inr y =>
      unfold keyD at h1
      simp only [PyData.str.injEq] at h1
      subst h1
      exact ⟨v, kvs, rfl, r1, r2⟩
theorem rds_ints {O : V → Int → Prop} {K : PySem.W.Frag} {G : Hp} : ∀ {ns : List Int} {xs : List V}, RDs O K G xs (ns.map .int) → xs = ns.map .int
  | [], _, .nil => rfl
  | n :: r, _, .cons h t => by
    cases h
    rw [rds_ints t]
    rfl
theorem rd_ints {O : V → Int → Prop} {K : PySem.W.Frag} {G : Hp} {v : V} {d : D} {ns : List Int} (r : RD O K G v d) (e : d = .list (ns.map .int)) : ∃ a, v = .ref a ∧ G a = some (.lst (ns.map .int)) := by
  cases r with
  | lst h t =>
    cases e
    rw [rds_ints t] at h
    exact ⟨_, rfl, h⟩
  | _ => cases e
theorem rd_int {O : V → Int → Prop} {K : PySem.W.Frag} {G : Hp} {v : V} {d : D} {n : Int} (r : RD O K G v d) (e : d = .int n) : v = .int n := by
  cases r with
  | int i => cases e; rfl
  | _ => cases e
theorem jar_of {O : V → Int → Prop} {K : PySem.W.Frag} {G H : Hp} {v : V} {far cells : List Int} {sl : Int} (sub : ∀ a o, G a = some o → H a = some o) {d : D} (r : RD O K G v d) (e : d = jarD far cells sl) (hne : 0 < cells.length) (hc : cells.length ≤ 100) (hf : far.length ≤ 100) (hd : far ≠ cells) (s0 : 0 ≤ sl) (s1 : sl < 2 ^ 33) :
    ∃ j : JarP, j.Ok ∧ v = .ref j.p ∧ j.holds (2 ^ 40) H := by
  cases r with
  | dct g rk =>
    rename_i p kvs ds
    unfold jarD at e
    simp only [PyData.dict.injEq] at e
    obtain ⟨v1, r1, rfl, h1, k1⟩ := rdk_str rk e
    obtain ⟨v2, r2, rfl, h2, k2⟩ := rdk_str k1 rfl
    obtain ⟨v3, r3, rfl, h3, k3⟩ := rdk_str k2 rfl
    obtain ⟨v4, r4, rfl, h4, k4⟩ := rdk_str k3 rfl
    cases k4
    obtain ⟨a1, rfl, g1⟩ := rd_ints h1 rfl
    obtain ⟨a2, rfl, g2⟩ := rd_ints h2 rfl
    obtain rfl := rd_int h3 rfl
    obtain rfl := rd_int h4 rfl
    refine ⟨⟨p, a1, a2, cells, sl⟩, ⟨fun z => ?_, fun z => ?_, fun z => ?_, hne, hc, s0, s1⟩, rfl, far, 0, sub _ _ g, sub _ _ g1, sub _ _ g2, by decide, by decide, hf⟩
    · have z : p = a1 := z
      rw [z, g1] at g; cases g
    · have z : p = a2 := z
      rw [z, g2] at g; cases g
    · have z : a1 = a2 := z
      rw [z, g2] at g1
      have e1 : cells.map V.int = far.map V.int := by injection g1 with g1; injection g1
      exact hd ((List.map_inj_right fun x y h => by injection h).mp e1).symm
  | opq o => unfold jarD at e; simp [hdl] at e
  | _ => cases e
section
variable {X : Cx} {K : PySem.W.Frag} {mg : Str → Option Value} {E : XK} {Dl : Rho → T Out} {sts : List Stmt}
def tRest (K : PySem.W.Frag) (mg : Str → Option Value) (E : XK) (Dl : Rho → T Out) : TS := fun Dn σ H => ∃ j : JarP, j.Ok ∧ ∃ G HC, tS (ctOf j.J K mg G HC E) Dl Dn σ H
theorem ps_rest (h : ∀ (j : JarP) (G HC : Hp), j.Ok → PSs X sts (tS (ctOf j.J K mg G HC E) Dl)) : PSs X sts (tRest K mg E Dl) := ⟨fun pins s σ H D I ⟨j, jo, G, HC, q⟩ => (h j G HC jo).run pins s σ H D I q⟩
/-- the slots behind the first row -/
def rho0 (n : Nat) : Rho := ((ini n []).set 0 .un).set 1 (.dt (hdl 0))
theorem rest_ok {N : List Str} {a : Addr} {v : V} {H : Hp} {Q : VK} {nx : L2.St → Hp → Prop} {j : JarP} (jo : j.Ok) (hv : v = .ref j.p) (jh : j.holds (2 ^ 40) H) (hs : ((L2.start N []).set 0 (some (.ref a))).set 1 (some v) = (L2.start N [.ref a]).set 1 (some v))
    (q : ∀ H', Q (.bl true) H') (h : (Dl (rho0 N.length)).sat (2 ^ 40) (fun o _ => o = .rt (.bool true)) fun _ _ => False) :
    tRest K mg E Dl { nx := nx, rt := Q } ((L2.start N [.ref a]).set 1 (some v)) H := by
  refine ⟨j, jo, fun _ => none, H, fun _ => none, rho0 N.length, 2 ^ 40, ?_, ?_⟩
  · rw [← hs]
    have R0 := rel_ini (C := ctOf j.J K mg (fun _ => none) H E) (b := 2 ^ 40) (N := N) (vs := []) (ds := []) (fun a o e => nomatch e) jh (fun a ha => ⟨rfl, ?_⟩) .nil
    · subst hv
      exact (R0.setU (some (.ref a))).set (.opq ⟨rfl, rfl⟩)
    · obtain ⟨far, count, h1, h2, h3, _⟩ := jh
      show H a ≠ none
      rcases ha with z | z | z
      · rw [z, h1]; simp
      · rw [z, h2]; simp
      · rw [z, h3]; simp
  · refine T.sat_mono (fun o c z => ?_) (fun _ _ z => z) h
    subst z
    intro v G' H' P jk r
    cases r
    exact q H'
end
def JarMath (F : List D → T D) : Prop := ∃ far cells sl, F [hdl 0] = .ret (jarD far cells sl) ∧ 0 < cells.length ∧ cells.length ≤ 100 ∧ far.length ≤ 100 ∧ far ≠ cells ∧ 0 ≤ sl ∧ sl < 2 ^ 33
end Y
namespace Y
open PySem PySem.Spec PyProof.Rows L2
/-! ### reckoning: what the words come to -/
section
variable {α β : Type} {f g h : Rho → T D} {fs gs : Rho → T (List D)} {t u : Rho → T Bool} {F K : Rho → T Out} {ρ : Rho} {i j n : Nat}
@[simp] theorem gv_0 (d : D) (r : Rho) : gv 0 (.dt d :: r) = .ret d := rfl
@[simp] theorem gv_s (a : S) (r : Rho) (n : Nat) : gv (n + 1) (a :: r) = gv n r := rfl
theorem seqS_eq : seqS F K ρ = (F ρ).bind fun | .nx ρ' => K ρ' | o => .ret o := rfl
def atT (t : T α) (k : α → T Out) (ρ : Rho) : T Out := match t with
  | .ret a => k a
  | .exc ev => .ret (.xc ev ρ)
  | .bad => .bad
  | .draw n c => .draw n fun r => (c r).attempt.bind fun
    | .ok a => k a
    | .error ev => .ret (.xc ev ρ)
@[simp] theorem atT_ret (a : α) (k : α → T Out) : atT (.ret a) k ρ = k a := rfl
@[simp] theorem atT_exc (ev : Ev) (k : α → T Out) : atT (.exc ev) k ρ = .ret (.xc ev ρ) := rfl
@[simp] theorem atT_bad (k : α → T Out) : atT .bad k ρ = .bad := rfl
theorem atS_eq {f : Rho → T α} {k : Rho → α → T Out} : atS f k ρ = atT (f ρ) (k ρ) ρ := by
  unfold atS
  cases f ρ with
  | draw n c =>
    show T.draw n _ = T.draw n _
    congr 1
  | _ => rfl
@[simp] theorem asgS_eq : asgS i f ρ = atT (f ρ) (fun d => .ret (.nx (ρ.set i (.dt d)))) ρ := atS_eq
@[simp] theorem asgO_eq : asgO i fs ρ = atT (fs ρ) (fun d => .ret (.nx (ρ.set i (.ow d)))) ρ := atS_eq
@[simp] theorem retS_eq : retS f ρ = atT (f ρ) (fun d => .ret (.rt d)) ρ := atS_eq
@[simp] theorem ifS_eq : ifS t F K ρ = atT (t ρ) (fun k => if k then F ρ else K ρ) ρ := atS_eq
@[simp] theorem forD_eq {it : Rho → T (List α)} {gg : α → Rho → Option Rho} : forD it gg F ρ = atT (it ρ) (fun xs => forL gg F xs ρ) ρ := atS_eq
def parK (i j : Nat) (ρ : Rho) : List D → T Out
  | [d, e] => .ret (.nx ((ρ.set i (.dt d)).set j (.dt e)))
  | _ => .bad
@[simp] theorem parK_2 {d e : D} : parK i j ρ [d, e] = .ret (.nx ((ρ.set i (.dt d)).set j (.dt e))) := rfl
@[simp] theorem parS_eq : parS i j fs ρ = atT (fs ρ) (parK i j ρ) ρ := by
  refine atS_eq.trans ?_
  congr 1
@[simp] theorem skipS_eq : skipS ρ = .ret (.nx ρ) := rfl
@[simp] theorem frzS_eq : frzS i F ρ = F (frz i ρ) := rfl
@[simp] theorem frz_0 (ds : List D) (r : Rho) : frz 0 (.ow ds :: r) = .dt (.list ds) :: r := rfl
@[simp] theorem frz_s (a : S) (r : Rho) (n : Nat) : frz (n + 1) (a :: r) = a :: frz n r := by
  unfold frz
  simp only [List.getElem?_cons_succ]
  split <;> simp_all
@[simp] theorem consT_eq : consT f fs ρ = (f ρ).bind fun d => (fs ρ).bind fun ds => .ret (d :: ds) := rfl
@[simp] theorem op2_eq {op : D → D → T D} : op2 op f g ρ = (f ρ).bind fun x => (g ρ).bind fun y => op x y := rfl
@[simp] theorem op1_eq {op : D → T D} : op1 op f ρ = (f ρ).bind op := rfl
@[simp] theorem opT_eq {op : D → D → T D} : opT op f g ρ = ((f ρ).bind fun x => (g ρ).bind fun y => op x y).bind boolOf := rfl
@[simp] theorem ifT_eq : ifT t f g ρ = (t ρ).bind fun k => if k then f ρ else g ρ := rfl
@[simp] theorem andT_eq : andT t u ρ = (t ρ).bind fun k => if k then u ρ else .ret false := rfl
@[simp] theorem orT_eq : orT t u ρ = (t ρ).bind fun k => if k then .ret true else u ρ := rfl
@[simp] theorem notT_eq : notT t ρ = (t ρ).bind fun k => .ret !k := rfl
@[simp] theorem asData_eq : asData fs ρ = (fs ρ).bind fun ds => .ret (.list ds) := rfl
@[simp] theorem lstD_eq : lstD fs ρ = (fs ρ).bind fun ds => ask (ds.length ≤ sizeLine) (.ret (.list ds)) := rfl
@[simp] theorem tupD_eq : tupD fs ρ = (fs ρ).bind fun ds => ask (ds.length ≤ sizeLine) (.ret (.tuple ds)) := rfl
@[simp] theorem lstO_eq : lstO fs ρ = (fs ρ).bind fun ds => ask (ds.length ≤ sizeLine) (.ret ds) := rfl
@[simp] theorem callD_eq {F : List D → T D} : callD n F fs ρ = (fs ρ).bind fun ds => ask (ds.length = n) (F ds) := rfl
@[simp] theorem callD0_eq {F : List D → T D} : callD0 F ρ = F [] := rfl
theorem ask_t {p : Prop} [Decidable p] {t : T α} (h : p) : ask p t = t := if_pos h
@[simp] theorem ask_true {t : T α} : ask True t = t := if_pos trivial
@[simp] theorem mul_r {i j : Int} (h : -(2 ^ 64) < j ∧ j < 2 ^ 64) : pyMul (.int i) (.int j) = .ret (.int (i * j)) := if_pos (.inr h)
@[simp] theorem mul_l {i j : Int} (h : -(2 ^ 64) < i ∧ i < 2 ^ 64) : pyMul (.int i) (.int j) = .ret (.int (i * j)) := if_pos (.inl h)
@[simp] theorem add_i {i j : Int} : pyAdd (.int i) (.int j) = .ret (.int (i + j)) := rfl
@[simp] theorem sub_i {i j : Int} : pySub (.int i) (.int j) = .ret (.int (i - j)) := rfl
@[simp] theorem mod_i {i j : Int} (h : 0 < j) : pyMod (.int i) (.int j) = .ret (.int (i % j)) := if_pos h
@[simp] theorem div_i {i j : Int} (h : 0 < j) (h2 : j < 1073741824) : pyDiv (.int i) (.int j) = .ret (.int (i / j)) := if_pos ⟨h, h2⟩
@[simp] theorem neg_i {i : Int} : pyNeg (.int i) = .ret (.int (-i)) := rfl
@[simp] theorem lt_i {i j : Int} : pyLt (.int i) (.int j) = .ret (.bool (decide (i < j))) := rfl
@[simp] theorem le_i {i j : Int} : pyLe (.int i) (.int j) = .ret (.bool (decide (i ≤ j))) := rfl
@[simp] theorem gt_i {i j : Int} : pyGt (.int i) (.int j) = .ret (.bool (decide (j < i))) := rfl
@[simp] theorem ge_i {i j : Int} : pyGe (.int i) (.int j) = .ret (.bool (decide (j ≤ i))) := rfl
theorem size15 {n : Nat} (h : n ≤ 1000) : n ≤ sizeLine := Nat.le_trans h (by decide)
@[simp] theorem size_ok {n : Nat} (t : T α) (h : n ≤ 1000) : ask (n ≤ sizeLine) t = t := if_pos (size15 h)
@[simp] theorem boolOf_b {k : Bool} : boolOf (.bool k) = .ret k := rfl
@[simp] theorem seqOf_l {ds : List D} : seqOf (.list ds) = .ret ds := rfl
@[simp] theorem seqOf_t {ds : List D} : seqOf (.tuple ds) = .ret ds := rfl
@[simp] theorem only_1 {op : D → T D} {d : D} : only op [d] = op d := rfl
@[simp] theorem len_l {ds : List D} : len1 (.list ds) = .ret (.int ds.length) := rfl
@[simp] theorem len_t {ds : List D} : len1 (.tuple ds) = .ret (.int ds.length) := rfl
@[simp] theorem int_i {i : Int} : int1 (.int i) = .ret (.int i) := rfl
@[simp] theorem asInt_i {i : Int} : asInt (.int i) = .ret (some i) := rfl
theorem forL_nil {gg : α → Rho → Option Rho} : forL gg F [] ρ = .ret (.nx ρ) := rfl
theorem forL_step {gg : α → Rho → Option Rho} {a : α} {as : List α} {ρ1 ρ2 : Rho} (h1 : gg a ρ = some ρ1) (h2 : F ρ1 = .ret (.nx ρ2)) : forL gg F (a :: as) ρ = forL gg F as ρ2 := by
  simp only [forL, h1, h2]
  rfl
theorem forL_ret {gg : α → Rho → Option Rho} {a : α} {as : List α} {ρ1 : Rho} {d : D} (h1 : gg a ρ = some ρ1) (h2 : F ρ1 = .ret (.rt d)) : forL gg F (a :: as) ρ = .ret (.rt d) := by
  simp only [forL, h1, h2]
  rfl
/-- a list of items whose parts only tell -/
theorem lcL_pure {gg : α → Rho → Option Rho} {e : Rho → T D} (p : α → Bool) (v : α → D) : ∀ {as : List α}, (∀ a ∈ as, ∃ ρ1, gg a ρ = some ρ1 ∧ t ρ1 = .ret (p a) ∧ (p a = true → e ρ1 = .ret (v a))) → lcL gg t e as ρ = .ret ((as.filter p).map v)
  | [], _ => rfl
  | a :: as, h => by
    obtain ⟨ρ1, h1, h2, h3⟩ := h a List.mem_cons_self
    have ih := lcL_pure (e := e) p v (as := as) fun b hb => h b (List.mem_cons_of_mem _ hb)
    simp only [lcL, h1, h2]
    by_cases hp : p a = true
    · rw [List.filter_cons_of_pos hp, List.map_cons]
      simp only [h3 hp, ih, hp]
      rfl
    · have hp' : p a = false := by simpa using hp
      rw [List.filter_cons_of_neg hp, ← ih]
      simp only [hp']
      rfl
theorem run_rt {n : Nat} {F : Rho → T Out} {ds : List D} {d : D} (h : F (ini n ds) = .ret (.rt d)) : run n F ds = .ret d := by
  unfold run
  rw [h]
  rfl
theorem run_xc {n : Nat} {F : Rho → T Out} {ds : List D} {ev : Ev} {ρ : Rho} (h : F (ini n ds) = .ret (.xc ev ρ)) : run n F ds = .exc ev := by
  unfold run
  rw [h]
  rfl
end
end Y
namespace Y
open PySem PySem.Spec PyProof.Rows L2
/-! ### what is told whatever is drawn, with m draws at most -/
structure Tl {α : Type} (t : T α) (m : Nat) (P : α → Prop) : Prop where
  run' : ∀ b Q E, m ≤ b → (∀ a c, P a → b ≤ c + m → c ≤ b → Q a c) → t.sat b Q E
section
variable {α β : Type} {t : T α} {m k n : Nat} {P P' : α → Prop} {R : β → Prop} {S' : Out → Prop} {ρ : Rho} {F K : Rho → T Out} {f g : Rho → T D} {i j : Nat}
theorem Tl.ret {a : α} (h : P a) : Tl (.ret a) m P := ⟨fun b Q E hb q => q a b h (Nat.le_add_right _ _) (Nat.le_refl _)⟩
theorem Tl.mono (h : Tl t m P) (hm : m ≤ n) (hp : ∀ a, P a → P' a) : Tl t n P' := ⟨fun b Q E hb q => h.run' b Q E (Nat.le_trans hm hb) fun a c pa h1 h2 => q a c (hp a pa) (by omega) h2⟩
theorem Tl.imp (h : Tl t m P) (hp : ∀ a, P a → P' a) : Tl t m P' := h.mono (Nat.le_refl _) hp
theorem Tl.bind {f : α → T β} (h : Tl t m P) (hf : ∀ a, P a → Tl (f a) k R) : Tl (t.bind f) (m + k) R := ⟨fun b Q E hb q =>
  T.bind_sat (h.run' b _ E (by omega) fun a c pa h1 h2 => (hf a pa).run' c Q E (by omega) fun a' c' pa' h3 h4 => q a' c' pa' (by omega) (by omega))⟩
theorem Tl.bind0 {f : α → T β} {a : α} (e : t = .ret a) (hf : Tl (f a) k R) : Tl (t.bind f) k R := by rw [e]; exact hf
theorem Tl.att (h : Tl t m P) : Tl t.attempt m (fun x => ∃ a, x = .ok a ∧ P a) := ⟨fun b Q E hb q => T.attempt_sat (h.run' b _ _ hb fun a c pa h1 h2 => q _ c ⟨a, rfl, pa⟩ h1 h2)⟩
theorem Tl.atS {f : Rho → T α} {k' : Rho → α → T Out} (h : Tl (f ρ) m P) (hk : ∀ a, P a → Tl (k' ρ a) k S') : Tl (atS f k' ρ) (m + k) S' := by
  unfold Y.atS
  refine h.att.bind ?_
  rintro _ ⟨a, rfl, pa⟩
  exact hk a pa
theorem Tl.seq {P : Rho → Prop} (h : Tl (F ρ) m fun o => ∃ ρ', o = .nx ρ' ∧ P ρ') (hk : ∀ ρ', P ρ' → Tl (K ρ') k S') : Tl (seqS F K ρ) (m + k) S' := by
  refine h.bind ?_
  rintro _ ⟨ρ', rfl, pa⟩
  exact hk ρ' pa
theorem Tl.asg {P : D → Prop} (h : Tl (f ρ) m P) : Tl (asgS i f ρ) m fun o => ∃ ρ', o = .nx ρ' ∧ ∃ d, P d ∧ ρ' = ρ.set i (.dt d) := by
  have := Tl.atS (k := 0) (k' := fun ρ d => .ret (.nx (ρ.set i (.dt d)))) (S' := fun o => ∃ ρ', o = .nx ρ' ∧ ∃ d, P d ∧ ρ' = ρ.set i (.dt d)) h fun a pa => .ret ⟨_, rfl, a, pa, rfl⟩
  exact this
/-- a row that stores, then the rest -/
theorem Tl.asgK {P : D → Prop} (h : Tl (f ρ) m P) (hk : ∀ d, P d → Tl (K (ρ.set i (.dt d))) k S') : Tl (seqS (asgS i f) K ρ) (m + k) S' := by
  refine Tl.seq h.asg ?_
  rintro _ ⟨d, pd, rfl⟩
  exact hk d pd
theorem Tl.asg0 {d : D} (e : f ρ = .ret d) (hk : Tl (K (ρ.set i (.dt d))) k S') : Tl (seqS (asgS i f) K ρ) k S' := by
  have : seqS (asgS i f) K ρ = K (ρ.set i (.dt d)) := by simp [seqS_eq, e]
  rw [this]
  exact hk
theorem Tl.par0 {fs : Rho → T (List D)} {d e : D} (h : fs ρ = .ret [d, e]) (hk : Tl (K ((ρ.set i (.dt d)).set j (.dt e))) k S') : Tl (seqS (parS i j fs) K ρ) k S' := by
  have : seqS (parS i j fs) K ρ = K ((ρ.set i (.dt d)).set j (.dt e)) := by simp [seqS_eq, h]
  rw [this]
  exact hk
theorem Tl.skip {u : Rho → T Bool} {F : Rho → T Out} (h : u ρ = .ret false) (hk : Tl (K ρ) k S') : Tl (seqS (ifS u F skipS) K ρ) k S' := by
  have : seqS (ifS u F skipS) K ρ = K ρ := by simp [seqS_eq, h]
  rw [this]
  exact hk
theorem Tl.run {P : D → Prop} {ds : List D} (h : Tl (F (ini n ds)) m fun o => ∃ d, o = .rt d ∧ P d) : Tl (run n F ds) m P := by
  have := Tl.bind (k := 0) (R := P) (f := fun | .ok (.rt d) => .ret d | .ok (.nx _) => .ret .none | .ok (.xc ev _) => .exc ev | _ => .bad) h.att ?_
  · exact this
  · rintro _ ⟨_, rfl, d, rfl, pd⟩
    exact .ret pd
theorem Tl.retS {P : D → Prop} (h : Tl (f ρ) m P) : Tl (retS f ρ) m fun o => ∃ d, o = .rt d ∧ P d := by
  have := Tl.atS (k := 0) (k' := fun (_ : Rho) d => .ret (.rt d)) (S' := fun o => ∃ d, o = .rt d ∧ P d) h fun a pa => .ret ⟨a, rfl, pa⟩
  exact this
theorem Tl.draw {n : Int} (h0 : 0 < n) (h1 : n < 2 ^ 30) : Tl (drawF [hdl 0, .int n]) 1 fun d => ∃ r, d = .int r ∧ 0 ≤ r ∧ r < n := ⟨fun b Q E hb q => by
  have e : drawF [hdl 0, .int n] = .draw n fun r => .ret (.int r) := rfl
  rw [e]
  exact ⟨b - 1, by omega, h0, h1, fun r r0 r1 => q _ _ ⟨r, rfl, r0, r1⟩ (by omega) (by omega)⟩⟩
/-- a loop whose turns keep what is told of the slots -/
theorem Tl.forL {γ : Type} {gg : γ → Rho → Option Rho} {I : Nat → Rho → Prop} {xs : List γ} (hs : ∀ (x : Nat) (c : γ) (ρ : Rho), xs[x]? = some c → I x ρ → ∃ ρ1, gg c ρ = some ρ1 ∧ Tl (F ρ1) m fun o => ∃ ρ', o = .nx ρ' ∧ I (x + 1) ρ') :
    ∀ (rest : List γ) (x : Nat) (ρ : Rho), xs.drop x = rest → x + rest.length = xs.length → I x ρ → Tl (Y.forL gg F rest ρ) (m * rest.length) fun o => ∃ ρ', o = .nx ρ' ∧ I xs.length ρ'
  | [], x, ρ, e, hl, h => .ret ⟨ρ, rfl, by rw [← hl]; exact h⟩
  | c :: rest, x, ρ, e, hl, h => by
    have hx : xs[x]? = some c := by
      have : (xs.drop x)[0]? = some c := by rw [e]; rfl
      rwa [List.getElem?_drop, Nat.add_zero] at this
    obtain ⟨ρ1, h1, h2⟩ := hs x c ρ hx h
    have ih := Tl.forL hs rest (x + 1)
    unfold Y.forL
    simp only [h1]
    refine (h2.bind (k := m * rest.length) ?_).mono (by rw [List.length_cons, Nat.mul_succ]; omega) fun _ z => z
    rintro _ ⟨ρ', rfl, hi⟩
    exact ih ρ' (by rw [← List.drop_drop, e] <;> rfl) (by rw [← hl, List.length_cons]; omega) hi
end
end Y
namespace Y
open PySem PySem.Spec PyProof.Rows L2
/-! ### texts that are shown -/
def Gd (n : Nat) (x : Str) : Prop := x.length ≤ n ∧ PyData.strOk x = true
theorem Gd.mono {m n : Nat} {x : Str} (h : Gd m x) (l : m ≤ n) : Gd n x := ⟨Nat.le_trans h.1 l, h.2⟩
theorem strOk_app {x y : Str} (h : PyData.strOk x = true) (g : PyData.strOk y = true) : PyData.strOk (x ++ y) = true := by
  unfold PyData.strOk at *
  rw [Array.all_eq_true'] at *
  intro c hc
  have hc : c ∈ x.cps ++ y.cps := hc
  rw [Array.mem_append] at hc
  rcases hc with z | z
  · exact h c z
  · exact g c z
theorem Gd.app {m n : Nat} {x y : Str} (h : Gd m x) (g : Gd n y) : Gd (m + n) (x ++ y) := ⟨by rw [Str.length_append]; have := h.1; have := g.1; omega, strOk_app h.2 g.2⟩
theorem gd_sep (k : Nat) : Gd 2 ((if k > 0 then ", " else "" : String) : Str) := by
  by_cases h : k > 0
  · rw [if_pos h]; exact ⟨by decide +kernel, by decide +kernel⟩
  · rw [if_neg h]; exact ⟨by decide +kernel, by decide +kernel⟩
theorem gd_from {L : Nat} : ∀ (ts : List Str) (k A : Nat) (acc : Str), Gd A acc → (∀ t ∈ ts, Gd L t) → Gd (A + ts.length * (L + 2)) (textFrom k acc ts)
  | [], k, A, acc, h, _ => h.mono (by simp)
  | t :: r, k, A, acc, h, g => by
    have := gd_from r (k + 1) (A + 2 + L) (acc ++ (if k > 0 then ", " else "" : String) ++ t) ((h.app (gd_sep k)).app (g t List.mem_cons_self)) fun u hu => g u (List.mem_cons_of_mem _ hu)
    exact this.mono (by rw [List.length_cons, Nat.succ_mul]; omega)
theorem gd_list {L : Nat} {ts : List Str} (h : ∀ t ∈ ts, Gd L t) : Gd (2 + ts.length * (L + 2)) (listText ts) := by
  have := (gd_from (L := L) ts 0 1 "[" ⟨by decide +kernel, by decide +kernel⟩ h).app (y := "]") (n := 1) ⟨by decide +kernel, by decide +kernel⟩
  exact this.mono (by omega)
theorem gd_join {L : Nat} : ∀ (ts : List Str), (∀ t ∈ ts, Gd L t) → Gd (ts.length * (L + 2)) (Str.join ", " ts)
  | [], _ => Gd.mono (m := 0) (x := Str.empty) ⟨by decide +kernel, by decide +kernel⟩ (Nat.zero_le _)
  | [x], h => (h x List.mem_cons_self).mono (by simp)
  | x :: y :: r, h => by
    have ih := gd_join (y :: r) fun u hu => h u (List.mem_cons_of_mem _ hu)
    have := ((h x List.mem_cons_self).app (y := (", " : Str)) (n := 2) ⟨by decide +kernel, by decide +kernel⟩).app ih
    exact this.mono (by simp only [List.length_cons, Nat.succ_mul]; omega)
theorem gd_tuple {L : Nat} {ts : List Str} (h : ∀ t ∈ ts, Gd L t) : Gd (3 + ts.length * (L + 2)) (tupleText ts) := by
  have e : Gd 2 ((if ts.length == 1 then ",)" else ")" : String) : Str) := by
    by_cases z : (ts.length == 1) = true
    · rw [if_pos z]; exact ⟨by decide +kernel, by decide +kernel⟩
    · rw [if_neg z]; exact ⟨by decide +kernel, by decide +kernel⟩
  have : Gd (1 + ts.length * (L + 2) + 2) (tupleText ts) := ((Gd.app (x := ("(" : Str)) (m := 1) ⟨by decide +kernel, by decide +kernel⟩ (gd_join ts h)).app e)
  exact this.mono (by omega)
theorem gd_int {i : Int} (h : i.natAbs.log2 < 1920) : Gd 1921 (PyData.int i).shown := by
  refine ⟨int_text_len_1921 h, ?_⟩
  unfold PyData.strOk
  rw [Array.all_eq_true']
  intro c hc
  by_cases z : c ≠ 45 ∧ (c < 48 ∨ 57 < c)
  · exact absurd (Array.mem_toList_iff.mpr hc) (int_text_free' c z i)
  · exact decide_eq_true (by omega)
theorem shownAll_map (ds : List D) : PyData.shownAll ds = ds.map PyData.shown := by
  induction ds with
  | nil => rfl
  | cons d r ih => simp only [PyData.shownAll, List.map_cons, ih]
theorem gd_shown_list {L : Nat} {ds : List D} (h : ∀ d ∈ ds, Gd L d.shown) : Gd (2 + ds.length * (L + 2)) (PyData.list ds).shown := by
  have := gd_list (ts := ds.map PyData.shown) (L := L) fun t ht => by obtain ⟨d, hd, rfl⟩ := List.mem_map.mp ht; exact h d hd
  rw [List.length_map] at this
  simp only [PyData.shown, shownAll_map]
  exact this
theorem gd_shown_tuple {L : Nat} {ds : List D} (h : ∀ d ∈ ds, Gd L d.shown) : Gd (3 + ds.length * (L + 2)) (PyData.tuple ds).shown := by
  have := gd_tuple (ts := ds.map PyData.shown) (L := L) fun t ht => by obtain ⟨d, hd, rfl⟩ := List.mem_map.mp ht; exact h d hd
  rw [List.length_map] at this
  simp only [PyData.shown, shownAll_map]
  exact this
theorem shaped_str {n : Nat} {x : Str} (h : Gd n x) : SeqAt.shaped (.str x) = true := by
  unfold SeqAt.shaped
  rw [Bool.and_eq_true]
  exact ⟨h.2, decide_eq_true (by simp [PyData.depth])⟩
theorem repr_ok {d : D} {n : Nat} (s : d.showable = true) (nd : d.hasDict = false) (dp : d.depth ≤ 100) (g : Gd n d.shown) (hn : n ≤ 10000) : repr1 d = .ret (.str d.shown) := if_pos ⟨s, nd, dp, Nat.le_trans g.1 (Nat.le_trans hn (by decide))⟩
theorem ne_str {x y : Str} {m n : Nat} (h : Gd m x) (g : Gd n y) : pyNe (.str x) (.str y) = .ret (.bool (!(x == y))) := by
  unfold pyNe
  rw [ask_t ⟨shaped_str h, shaped_str g⟩]
  simp only [PyData.eqv]
end Y
namespace Y
open PySem PySem.Spec PyProof.Rows L2
section
variable {X : Cx} {C : Ct} {e : Expr} {f : Rho → T D} {p pos tpos : Pos} {us : List Nat} {gs : List D → Rho → Option Rho}
/-! ### enumerate over a list -/
/-- the items with their places -/
def enumD (ds : List D) : List (D × D) := (upto 0 ds.length).zip ds
def enumL (d : D) : T (List (D × D)) := match d with
  | .list ds => .ret (enumD ds)
  | _ => .bad
theorem enum_at {ds : List D} {i : Nat} {q : D × D} (h : (enumD ds)[i]? = some q) : ∃ d, q = (.int (i : Nat), d) ∧ ds[i]? = some d := by
  unfold enumD upto at h
  rw [List.getElem?_zip_eq_some] at h
  obtain ⟨h1, h2⟩ := h
  obtain ⟨a, b⟩ := q
  have hi : i < ds.length := (List.getElem?_eq_some_iff.mp h2).1
  rw [List.getElem?_map, List.getElem?_range hi] at h1
  cases h1
  exact ⟨b, by simp, h2⟩
theorem enum_len (ds : List D) : (enumD ds).length = ds.length := by
  unfold enumD upto
  rw [List.length_zip, List.length_map, List.length_range, Nat.min_self]
theorem i_enum : ∀ σ H R, tIt C us (fun ρ => (f ρ).bind enumL) (gTup C.K 2 (gsD C us gs)) (fun q => gs [q.1, q.2]) σ H R → iEnum C.K (tCons (tD C f) tNil) σ H R := by
  rintro σ H R ⟨G, ρ, b, Rl, h⟩
  refine ⟨G, ρ, b, Rl, (Go.bind Rl h).mono fun d G1 H1 c P j z v rv => ?_⟩
  obtain ⟨R1, z⟩ := z
  cases rv with
  | lst ea ra =>
    rename_i a xs ds
    refine ⟨a, xs, rfl, SqL.of (R1.sub _ _ ea), (z.ret R1).2 _ (fun G => G a = some (.lst xs) ∧ RDs C.J.O C.K G xs ds) ⟨ea, ra⟩ ⟨fun G G' g q => ⟨g _ _ q.1, q.2.mono g⟩, fun i G H hi g q => ?_, fun G H g q => ?_, fun i q G H ρ σ b x H' ρ' Q ha R2 qq y eg k => ?_⟩⟩
    · rw [enum_len] at hi
      have h1 : i < xs.length := by rw [ra.len]; exact hi
      exact ⟨xs, xs[i], SqL.of (g _ _ q.1), List.getElem?_eq_getElem h1⟩
    · exact ⟨xs, SqL.of (g _ _ q.1), by rw [enum_len, ra.len]; exact Nat.le_refl _⟩
    · obtain ⟨T, x1, rfl, nT, rfl, fx⟩ := y
      obtain ⟨d', rfl, hd⟩ := enum_at ha
      obtain ⟨vx, ex, rx⟩ := qq.2.get hd
      have e1 : vx = x1 := Option.some.inj (ex.symm.trans (fx xs (SqL.of (R2.sub _ _ qq.1))))
      subst e1
      have Pn : Post C.J.fp G H G (upd H T (.tup [.int (i : Nat), vx])) := .newH R2.sub nT
      have Rn : Rel C G (upd H T (.tup [.int (i : Nat), vx])) ρ σ b := R2.step Pn (C.J.loc b H _ R2.jar fun a ha => upd_ne fun z => R2.post.th a (R2.jth a ha) (by rw [z]; exact nT))
      exact ⟨T, [.int (i : Nat), vx], rfl, SqT.of upd_same, rfl, G, ρ, b, [.int (i : Nat), d'], ρ', Rn, .cons (.int _) (.cons rx .nil), eg, fun σ' R' s1 => k σ' G (Gr.refl _) R' s1 Pn⟩
  | _ => exact z.bad.elim
theorem pdi_enum {elts : List Expr} {kk : Nat} (he : PD X C e f) (hg : Gl X "enumerate") (hm : X.mg "enumerate" = none) (hs : starEach [e] X.env = [(false, eval e X.env)] := by rfl) (hK : X.K = C.K := by rfl) :
    PDi X C (.Tuple elts kk tpos) (.Call (.Name "enumerate" p) [e] [] pos) us (fun ρ => (f ρ).bind enumL) (zipW C us gs) (fun q => gs [q.1, q.2]) :=
  PIto (pi_enum hg hm (pa_cons he pa_nil hs) hs) (by rw [hK]; exact i_enum)

/-! ### an item of a list of ours -/
def ixO (i : Nat) (g : Rho → T D) (ρ : Rho) : T D := match ρ[i]? with
  | some (.ow ds) => (g ρ).bind fun k => pyIx (.list ds) k
  | some (.dt d) => (g ρ).bind fun k => pyIx d k
  | _ => .bad
theorem d_ixO {i : Nat} {g : Rho → T D} : ∀ σ H Q, tD C (ixO i g) σ H Q → tOp (rIx C.K) (tVar i) (tD C g) σ H Q := by
  rintro σ H Q ⟨G, ρ, b, R, h⟩
  unfold ixO at h
  split at h
  · rename_i ds e
    obtain ⟨q, xs, h1, h2, h3, h4, h5⟩ := R.own_at e
    refine ⟨.ref q, h1, G, ρ, b, R, (Go.bind R h).mono fun d G1 H1 c P j z w rw => ?_⟩
    obtain ⟨R1, z⟩ := z
    obtain ⟨q', xs', g1, _, _, g4, g5⟩ := R1.own_at e
    rw [h1] at g1
    cases g1
    cases rw with
    | int k =>
      have z : Go C σ G1 H1 ρ c (orBad (L2.atI ds k)) _ := z
      cases qk : L2.atI ds k with
      | none => rw [qk] at z; exact z.bad.elim
      | some d' =>
        rw [qk] at z
        obtain ⟨v', hv, rv⟩ := g5.atI qk
        exact .inl ⟨q, xs', k, v', rfl, rfl, SqL.of g4, hv, (z.mono fun _ _ _ _ _ _ y => y.2).retv R1 rv⟩
    | _ => exact z.bad.elim
  · rename_i d e
    refine d_var (C := C) σ H _ ?_
    refine ⟨G, ρ, b, R, ?_⟩
    have hv : gv i ρ = .ret d := by unfold gv; rw [e]
    rw [hv]
    intro G' H' P j v rv
    exact ⟨G', ρ, b, R.step P j, (Go.bind (R.step P j) (show Go C σ G' H' ρ b ((g ρ).bind fun k => pyIx d k) _ from T.sat_mono (fun _ _ z G2 H2 P2 j2 => z G2 H2 (Post.trans P P2) j2) (fun _ _ z => z) h)).mono fun k G1 H1 c P1 j1 z w rw => o_ix σ G1 H1 ρ c v w d k Q z.1 (rv.mono P1.gg) rw (z.2.mono fun _ _ _ _ _ _ y => y.2)⟩
  · exact h.elim
theorem pd_ixO (i : Nat) {y : Str} {b : Expr} {g : Rho → T D} {p1 : Pos} (hb : PD X C b g) (hi : X.N[i]? = some y := by rfl) (hv : Vis X.env.scope y := by first | exact Or.inl rfl | exact Or.inr (Or.inl rfl) | exact Or.inr (Or.inr rfl)) (hd : (y == ("__debug__" : Str)) = false := by decide) (hcd : (y == ("__classdict__" : Str)) = false := by decide)
    (hs : PlainIx b := by exact fun _ _ => rfl) (hK : X.K = C.K := by rfl) : PD X C (.Subscript (.Name y p1) b pos) (ixO i g) := PEto (pe_ix ix_seq (pv i hi hv hd hcd) hb hs) (by rw [hK]; exact d_ixO)
end
end Y
namespace Y
open PySem PySem.Spec PyProof.Rows L2
open PyProof
/-! ### enumerate over what can be walked -/
set_option maxHeartbeats 2000000 in
theorem enum_new1 {v : Value} {o : Obj} {P : Heap → Prop} (B : Begins v o P) : Meets (Builtin.«enumerate.__new__» ⟨[.type "enumerate", v], []⟩) (fun _ R t => P t.heap ∧
    R (.ok (.ret (.ref (t.heap.push o).objs.size))) { t with heap := (t.heap.push o).push { cls := .type "enumerate", data := .fields #[.none, .bool false, .ref t.heap.objs.size, rawInt 0, .none, .none] } }) :=
  .of_wp fun prog w A R t z => by
    obtain ⟨hp, g, d, tk, os⟩ := t
    obtain ⟨h1, z⟩ := z
    have hsub := sub_enumerate
    have walk : ∀ {A' : Around} {E Q : Value → Shared → Prop}, Q (.ref hp.objs.size) ⟨hp.push o, g, d, tk, os⟩ → wpAny (model prog w) A' (pyIter v) Q E ⟨hp, g, d, tk, os⟩ := fun q => B.iter prog w _ _ ⟨hp, g, d, tk, os⟩ _ h1 q
    wp_walk using walk
    refine wpAny_stack_any fun st => wpAny_pure ?_
    split
    · rename_i c _ _ _ _ _
      cases (c == Value.type "enumerate") <;> (wp_walk using walk; exact ⟨_, rfl, z⟩)
    · wp_walk using walk
      exact ⟨_, rfl, z⟩
section
variable {P : Program} {w : World} {A : Around} {E : Value → Shared → Prop} {t : Shared}
theorem enum_start {v : Value} {o : Obj} {R : Heap → Prop} {Q : Value → Shared → Prop} (B : Begins v o R) (h1 : R t.heap)
    (q : ∀ h', IsEnum h' (t.heap.objs.size + 1) t.heap.objs.size 0 .none → h'.get? t.heap.objs.size = some o → (∀ b o, t.heap.get? b = some o → h'.get? b = some o) → Q (.ref (t.heap.objs.size + 1)) { t with heap := h' }) :
    wpAny (model P w) A (call (.type "enumerate") [v]) Q E t := by
  refine callType_new F.called_enumerate (by decide) (F.typeCall_enumerate_1 _) (F.newCall_enumerate_1 _) (fun obj => F.args_object_init_2 obj _) F.entry_enumerate_new (enum_new1 B) ⟨h1, ?_⟩
  have hz : (t.heap.push o).objs.size = t.heap.objs.size + 1 := Heap.size_push ..
  have he : IsEnum ((t.heap.push o).push { cls := .type "enumerate", data := .fields #[.none, .bool false, .ref t.heap.objs.size, rawInt 0, .none, .none] }) (t.heap.objs.size + 1) t.heap.objs.size 0 .none := by
    have g := Heap.get?_push_size (t.heap.push o) (o := { cls := .type "enumerate", data := .fields #[.none, .bool false, .ref t.heap.objs.size, rawInt 0, .none, .none] }) rfl
    rwa [hz] at g
  show _ ∧ _
  rw [hz]
  exact ⟨⟨_, he, rfl⟩, q _ he (Heap.get?_push_of_some _ (Heap.get?_push_size _ B.free)) fun b o x => Heap.get?_push_of_some _ (Heap.get?_push_of_some _ x)⟩
end
/-- the one at a as it stands, its items beside their places in new pairs -/
def ItnB (k : Bool) (K : PySem.W.Frag) (a : Addr) : It :=
  ⟨fun i H => ∃ (xs : List V) (x : V), SqB k K H a xs ∧ xs[i]? = some x,
    fun i H v H' => ∃ T x, v = .ref T ∧ H T = none ∧ H' = upd H T (.tup [.int (i : Nat), x]) ∧ ∀ xs, SqB k K H a xs → xs[i]? = some x,
    fun i H => ∃ xs : List V, SqB k K H a xs ∧ i = xs.length⟩
theorem turn_enumB {P : Program} {w : World} {K : PySem.W.Frag} {elts : List Expr} {kk : Nat} {tpos : Pos} {k : Bool} {a z it : Addr} (d1 : z ≠ it) (d2 : z ≠ a) (d3 : a ≠ it) :
    Turn P w K (.Tuple elts kk tpos) (ItnB k K a) [z, it] z (fun i h => (∃ old, IsEnum h z it ((i : Nat) : Int) old) ∧ ItB k h it a i) where
  mem := by simp
  obj := fun i h st c hc => by
    obtain ⟨⟨old, hz⟩, h1⟩ := st
    have e : c = z ∨ c = it := by simpa using hc
    rcases e with rfl | rfl
    · exact ⟨_, hz, fun v q => nomatch q⟩
    · exact itB_obj h1
  keep := fun i h h' st q => by
    obtain ⟨⟨old, hz⟩, h1⟩ := st
    exact ⟨⟨old, q z (by simp) _ hz⟩, itB_at h1 fun o e => q it (by simp) o e⟩
  item := by
    intro X hP hw hK hc i pins s σ H E I hf st hg
    subst hP hw hK
    obtain ⟨⟨old, hz⟩, h1⟩ := st
    obtain ⟨xs, x, hx, ex⟩ := hg
    obtain ⟨its, rv, p1⟩ := sqB_its I hx
    obtain ⟨vx, gx, rx⟩ := rv.get ex
    have hh := I.ok.hd hc
    have lx : i < its.toArray.size := by simpa using (List.getElem?_eq_some_iff.mp gx).1
    refine wpAny_pyNext_enum_itemC (drawsB (k := k) (A := X.A.in1) hh d3 its.toArray) hz ⟨h1, p1⟩ lx d1 (by simp [d1, d2]) fun x1 h' tk e1 z' s1 hT hsz hk => ?_
    have ev1 : vx = x1 := by
      have : its.toArray[i]? = some vx := by simpa using gx
      exact Option.some.inj (this.symm.trans e1)
    subst ev1
    refine ⟨_, rfl, wpAny_letOwnedTupleGo_enum (s := { s with heap := h', toks := tk + 1 }) z' fun h'' hz'' sb => ?_⟩
    have zl : z < s.heap.objs.size := Heap.lt_size hz
    have kept : ∀ c o, c ∉ [z, it] → s.heap.get? c = some o → h''.get? c = some o := fun c o hc e =>
      (sb.2 c (fun q => hc (by simp [q]))).trans (hk c o (fun q => hc (by simp [q])) (fun q => hc (by simp [q])) e)
    have hT2 : h''.get? s.heap.objs.size = some { cls := .type "tuple", data := .seq #[.int i tk, vx] } := (sb.2 _ (Nat.ne_of_gt zl)).trans hT
    have new : ObjOk X.prog X.w (upd H s.heap.objs.size (.tup [.int (i : Nat), x])) h'' s.heap.objs.size (.tup [.int (i : Nat), x]) := ⟨by show 2 ≤ sizeLine; decide, [.int i tk, vx], .cons ⟨_, rfl⟩ (.cons rx .nil), ⟨_, hT2, rfl, _, rfl⟩⟩
    have I1 : Inv X pins σ (upd H s.heap.objs.size (.tup [.int (i : Nat), x])) { s with heap := h'', toks := tk + 1 } := I.turnedNew (ch := [z, it]) kept hf (Nat.le_refl _) new
    refine ⟨.ref s.heap.objs.size, _, I1, rfl, ⟨_, x, rfl, I.hok.fresh (Nat.le_refl _), rfl, fun zs hq => by rw [sqB_inj I hq hx]; exact ex⟩, ⟨⟨vx, by rw [show ((i + 1 : Nat) : Int) = (i : Int) + 1 by omega]; exact hz''⟩, itB_at s1.1 fun o q => (sb.2 it (Ne.symm d1)).trans q⟩, fun c hc => ?_⟩
    have hcl : c < s.heap.objs.size := by
      have e : c = z ∨ c = it := by simpa using hc
      rcases e with rfl | rfl
      · exact zl
      · obtain ⟨o, q, _⟩ := itB_obj h1; exact Heap.lt_size q
    rw [upd_ne (Nat.ne_of_lt hcl)]
    exact (hf c hc).1
  done := by
    intro X hP hw hK hc i pins s σ H E I hf st hg
    subst hP hw hK
    obtain ⟨⟨old, hz⟩, h1⟩ := st
    obtain ⟨xs, hx, hend⟩ := hg
    obtain ⟨its, rv, p1⟩ := sqB_its I hx
    have hh := I.ok.hd hc
    have e1 : i = its.toArray.size := by rw [hend, rv.length]; simp
    subst e1
    refine wpAny_pyNext_enum_endD (drawsB (k := k) (A := X.A.in1) hh d3 its.toArray) hz ⟨h1, p1⟩ fun h' eb => ⟨rfl, ?_⟩
    exact I.turnedL (t' := s.toks) (ch := [z, it]) (fun c o hb q => eb c o (fun q' => hb (by simp [q'])) q) hf
  self := fun A i s Q E st h => let ⟨⟨_, he⟩, _⟩ := st; wpAny_pyIter_enum he h
def iEnumB (K : PySem.W.Frag) (ta : TA) : TI := fun σ H R => ta σ H fun vs H1 => ∃ k a xs, vs = [.ref a] ∧ SqB k K H1 a xs ∧ R (ItnB k K a) H1
theorem pi_enumB {X : Cx} {e : Expr} {ta : TA} {p pos tpos : Pos} {elts : List Expr} {kk : Nat} (hg : Gl X "enumerate") (hm : X.mg "enumerate" = none) (ha : PA X [e] ta) (hs : starEach [e] X.env = [(false, eval e X.env)] := by rfl) :
    PI X (.Tuple elts kk tpos) (.Call (.Name "enumerate" p) [e] [] pos) (iEnumB X.K ta) := by
  refine ⟨fun pins s σ H R I h => Call_ (ld_blt I hg hm boot_enumerate (PyProof.Rows.callWith_type1 (thn (ha.run pos pins s σ H _ I h) fun us s1 ⟨vs, H1, I1, r1, q1⟩ => ?_) hs rfl))⟩
  obtain ⟨k, a, xs, ex, hq, q⟩ := q1
  subst ex
  cases r1 with
  | cons r rr =>
    cases rr
    cases r
    obtain ⟨its, rv, p1⟩ := sqB_its I1 hq
    have la := seqB_lt p1
    refine enum_start (beginsB (k := k) its.toArray) p1 fun h' he g1 hk => wpAny_pyIter_enum he ?_
    have I2 : Inv X pins σ H1 { s1 with heap := h' } := I1.kept (t' := s1.toks) hk
    refine ⟨s1.heap.objs.size + 1, [s1.heap.objs.size + 1, s1.heap.objs.size], _, _, H1, rfl, I2, turn_enumB (k := k) (a := a) (Nat.succ_ne_self _) (Nat.ne_of_gt (Nat.lt_succ_of_lt la)) (Nat.ne_of_lt la), ⟨⟨.none, he⟩, itB_new g1⟩, fun b hb => ?_, q⟩
    have e' : b = s1.heap.objs.size + 1 ∨ b = s1.heap.objs.size := by simpa using hb
    have hle : s1.heap.objs.size ≤ b := e'.elim (fun w => w ▸ Nat.le_succ _) fun w => w ▸ Nat.le_refl _
    exact I1.fpOk hle (I1.hok.fresh hle)
section
variable {X : Cx} {C : Ct} {e : Expr} {f : Rho → T D} {p pos tpos : Pos} {us : List Nat} {gs : List D → Rho → Option Rho}
def enumT (d : D) : T (List (D × D)) := (seqOf d).bind fun ds => .ret (enumD ds)
theorem i_enumB : ∀ σ H R, tIt C us (fun ρ => (f ρ).bind enumT) (gTup C.K 2 (gsD C us gs)) (fun q => gs [q.1, q.2]) σ H R → iEnumB C.K (tCons (tD C f) tNil) σ H R := by
  rintro σ H R ⟨G, ρ, b, Rl, h⟩
  refine ⟨G, ρ, b, Rl, (Go.bind Rl h).mono fun d G1 H1 c P j z v rv => ?_⟩
  obtain ⟨R1, z⟩ := z
  rcases seq_cases d with ⟨ds, hd⟩ | hd
  · obtain ⟨ka, a, xs, rfl, sa, ra⟩ := seqG_of rv hd
    unfold enumT at z
    rw [hd] at z
    refine ⟨ka, a, xs, rfl, sa.B R1.sub, (z.ret R1).2 _ (fun G => SeqG C ka G a xs ∧ RDs C.J.O C.K G xs ds) ⟨sa, ra⟩ ⟨fun G G' g q => ⟨q.1.up g, q.2.mono g⟩, fun i G H hi g q => ?_, fun G H g q => ?_, fun i q G H ρ σ b x H' ρ' Q ha R2 qq y eg k => ?_⟩⟩
    · rw [enum_len] at hi
      have h1 : i < xs.length := by rw [ra.len]; exact hi
      exact ⟨xs, xs[i], q.1.B g, List.getElem?_eq_getElem h1⟩
    · exact ⟨xs, q.1.B g, by rw [enum_len, ra.len]⟩
    · obtain ⟨T, x1, rfl, nT, rfl, fx⟩ := y
      obtain ⟨d', rfl, hd⟩ := enum_at ha
      obtain ⟨vx, ex, rx⟩ := qq.2.get hd
      have e1 : vx = x1 := Option.some.inj (ex.symm.trans (fx xs (qq.1.B R2.sub)))
      subst e1
      have Pn : Post C.J.fp G H G (upd H T (.tup [.int (i : Nat), vx])) := .newH R2.sub nT
      have Rn : Rel C G (upd H T (.tup [.int (i : Nat), vx])) ρ σ b := R2.step Pn (C.J.loc b H _ R2.jar fun a ha => upd_ne fun z => R2.post.th a (R2.jth a ha) (by rw [z]; exact nT))
      exact ⟨T, [.int (i : Nat), vx], rfl, SqT.of upd_same, rfl, G, ρ, b, [.int (i : Nat), d'], ρ', Rn, .cons (.int _) (.cons rx .nil), eg, fun σ' R' s1 => k σ' G (Gr.refl _) R' s1 Pn⟩
  · unfold enumT at z
    rw [hd] at z
    exact z.bad.elim
theorem pdi_enumB {elts : List Expr} {kk : Nat} (he : PD X C e f) (hg : Gl X "enumerate") (hm : X.mg "enumerate" = none) (hs : starEach [e] X.env = [(false, eval e X.env)] := by rfl) (hK : X.K = C.K := by rfl) :
    PDi X C (.Tuple elts kk tpos) (.Call (.Name "enumerate" p) [e] [] pos) us (fun ρ => (f ρ).bind enumT) (zipW C us gs) (fun q => gs [q.1, q.2]) :=
  PIto (pi_enumB hg hm (pa_cons he pa_nil hs) hs) (by rw [hK]; exact i_enumB)
end
end Y
namespace Y
open PySem PySem.Spec PyProof.Rows L2

section
variable {X : Cx} {C : Ct} {σ : L2.St} {G H G' H' : Hp} {ρ : Rho} {b c : Nat} {e a a2 : Expr} {es : List Expr} {pos : Pos} {st : Stmt} {sts : List Stmt} {f g : Rho → T D} {fs : Rho → T (List D)}
/-! ### what is never come to -/
theorem pd_bad : PD X C e (fun _ => .bad) := ⟨fun pins s σ H Q I ⟨_, _, _, _, h⟩ => h.elim⟩
theorem pd1_bad : PD1 X C st (fun _ => .bad) := ⟨fun pins s σ H D I ⟨_, _, _, _, h⟩ => h.elim⟩

/-! ### methods of texts -/
def isStr : D → Bool
  | .str _ => true
  | _ => false
/-- what stands first is looked at ahead of the rest -/
def mOp (p : D → Bool) (op : D → D → T D) (f g : Rho → T D) (ρ : Rho) : T D := (f ρ).bind fun x => ask (p x = true) ((g ρ).bind fun y => op x y)
def mOpL (p : D → Bool) (op : D → D → T (List D)) (f g : Rho → T D) (ρ : Rho) : T (List D) := (f ρ).bind fun x => ask (p x = true) ((g ρ).bind fun y => op x y)
def mOp0 (p : D → Bool) (op : D → T D) (f : Rho → T D) (ρ : Rho) : T D := (f ρ).bind fun x => ask (p x = true) (op x)
def MtD (C : Ct) (r : V → List V → Hp → VK → Prop) (op : D → D → T D) : Prop :=
  ∀ σ G H ρ b x y d e (Q : VK), Rel C G H ρ σ b → RD C.J.O C.K G x d → RD C.J.O C.K G y e → Go C σ G H ρ b (op d e) (fun d G' H' _ => ∀ v, RD C.J.O C.K G' v d → Q v H') → r x [y] H Q
theorem d_m1 {r : V → List V → Hp → VK → Prop} {op : D → D → T D} (hc : MtD C r op) : ∀ σ H Q, tD C (mOp isStr op f g) σ H Q → tM1 r (tD C f) (tD C g) σ H Q := by
  rintro σ H Q ⟨G, ρ, b, R, h⟩
  refine ⟨G, ρ, b, R, (Go.bind R h).mono fun d G1 H1 c P j z v rv => ?_⟩
  obtain ⟨R1, z⟩ := z
  obtain ⟨hp, z⟩ := Go.ask z
  cases rv with
  | str x =>
    refine ⟨⟨x, rfl⟩, G1, ρ, c, R1, (Go.bind R1 z).mono fun e G2 H2 c2 P2 j2 z2 w rw => ?_⟩
    exact hc σ G2 H2 ρ c2 _ w _ e Q z2.1 (.str x) rw (z2.2.mono fun _ _ _ _ _ _ q => q.2.2)
  | _ => cases hp
theorem strs_rds {O K G} : ∀ ys : List Str, RDs O K G (ys.map V.str) (ys.map PyData.str)
  | [] => .nil
  | y :: r => .cons (.str y) (strs_rds r)
/-- sep.join(texts) -/
def joinD (d e : D) : T D := match d with
  | .str a => (seqOf e).bind fun ds => match strsOf ds with
    | some ys => ask ((ys.map (·.length)).sum + ys.length * a.length ≤ 16777216) (.ret (.str (Txt.join a ys)))
    | none => .bad
  | _ => .bad
theorem m_join : MtD C (fun x xs H Q => ∃ a p, ∃ ys : List Str, x = .str a ∧ xs = [.ref p] ∧ (SqL C.K H p (ys.map V.str) ∨ SqT C.K H p (ys.map V.str)) ∧ (ys.map (·.length)).sum + ys.length * a.length ≤ 16777216 ∧ Q (.str (Txt.join a ys)) H) joinD := by
  intro σ G H ρ b x y d e Q R rx ry h
  cases rx with
  | str a =>
    cases ry with
    | lst ea ra =>
      rename_i p xs ds
      have h : Go C σ G H ρ b (match strsOf ds with | some ys => ask ((ys.map (·.length)).sum + ys.length * a.length ≤ 16777216) (.ret (PyData.str (Txt.join a ys))) | none => .bad) _ := h
      cases q : strsOf ds with
      | none => rw [q] at h; exact h.bad.elim
      | some ys =>
        rw [q] at h
        obtain ⟨hz, h⟩ := Go.ask h
        refine ⟨a, p, ys, rfl, rfl, .inl ?_, hz, h.retv R (.str _)⟩
        rw [← strs_rd ra q]
        exact SqL.of (R.sub _ _ ea)
    | tup ea ra =>
      rename_i p xs ds
      have h : Go C σ G H ρ b (match strsOf ds with | some ys => ask ((ys.map (·.length)).sum + ys.length * a.length ≤ 16777216) (.ret (PyData.str (Txt.join a ys))) | none => .bad) _ := h
      cases q : strsOf ds with
      | none => rw [q] at h; exact h.bad.elim
      | some ys =>
        rw [q] at h
        obtain ⟨hz, h⟩ := Go.ask h
        refine ⟨a, p, ys, rfl, rfl, .inr ?_, hz, h.retv R (.str _)⟩
        rw [← strs_rd ra q]
        exact (ea.mono R.sub).T
    | _ => exact h.bad.elim
  | _ => exact h.bad.elim
theorem pd_join {apos : Pos} (ha : PD X C a f) (hb : PD X C e g) (hK : X.K = C.K := by rfl) (hs : starEach [e] X.env = [(false, eval e X.env)] := by rfl) (hbase : attributeBase a "join" X.env (eval a X.env) = eval a X.env := by rfl) (hline : (apos.endLine == pos.line) = true := by rfl) :
    PD X C (.Call (.Attribute a "join" apos) [e] [] pos) (mOp isStr joinD f g) := PEto (pe_join ha hb hs hbase hline) (by rw [hK]; exact d_m1 m_join)
/-- text.split(sep) -/
def splitL (d e : D) : T (List D) := match d, e with
  | .str a, .str b => ask ((b.length == 0) = false ∧ a.length + 2 ≤ sizeLine) (.ret ((Txt.split a b).map PyData.str))
  | _, _ => .bad
def splitD (d e : D) : T D := (splitL d e).bind fun ds => .ret (.list ds)
theorem m_split : MtD C (fun x xs H Q => ∃ a b, x = .str a ∧ xs = [.str b] ∧ (b.length == 0) = false ∧ a.length + 2 ≤ sizeLine ∧ rNewStrs (Txt.split a b) H Q) splitD := by
  intro σ G H ρ b x y d e Q R rx ry h
  cases rx with
  | str z =>
    cases ry with
    | str w =>
      have h : Go C σ G H ρ b ((ask ((w.length == 0) = false ∧ z.length + 2 ≤ sizeLine) (.ret ((Txt.split z w).map PyData.str))).bind fun ds => .ret (PyData.list ds)) _ := h
      by_cases hz : (w.length == 0) = false ∧ z.length + 2 ≤ sizeLine
      · rw [show Y.ask _ _ = _ from if_pos hz] at h
        exact ⟨z, w, rfl, rfl, hz.1, hz.2, fun p n => Go.newL h R n (strs_rds _)⟩
      · rw [show Y.ask _ _ = _ from if_neg hz] at h
        exact h.bad.elim
    | _ => exact h.bad.elim
  | _ => cases ry <;> exact h.bad.elim
theorem pd_split {apos : Pos} (ha : PD X C a f) (hb : PD X C e g) (hs : starEach [e] X.env = [(false, eval e X.env)] := by rfl) (hbase : attributeBase a "split" X.env (eval a X.env) = eval a X.env := by rfl) (hline : (apos.endLine == pos.line) = true := by rfl) :
    PD X C (.Call (.Attribute a "split" apos) [e] [] pos) (mOp isStr splitD f g) := PEto (pe_split ha hb hs hbase hline) (d_m1 m_split)
theorem t_split : ∀ σ H Q, tL C (mOpL isStr splitL f g) σ H Q → tM1 (fun x xs H Q => ∃ a b, x = .str a ∧ xs = [.str b] ∧ (b.length == 0) = false ∧ a.length + 2 ≤ sizeLine ∧ rNewStrs (Txt.split a b) H Q) (tD C f) (tD C g) σ H Q := by
  rintro σ H Q ⟨G, ρ, b, R, h⟩
  refine ⟨G, ρ, b, R, (Go.bind R h).mono fun d G1 H1 c P j z v rv => ?_⟩
  obtain ⟨R1, z⟩ := z
  obtain ⟨hp, z⟩ := Go.ask z
  cases rv with
  | str x =>
    refine ⟨⟨x, rfl⟩, G1, ρ, c, R1, (Go.bind R1 z).mono fun e G2 H2 c2 P2 j2 z2 w rw => ?_⟩
    obtain ⟨R2, z2⟩ := z2
    cases rw with
    | str y =>
      obtain ⟨hz, z2⟩ := Go.ask z2
      refine ⟨x, y, rfl, rfl, hz.1, hz.2, fun p n => ?_⟩
      have nH : H p = none := by
        cases q : H p with
        | none => rfl
        | some o => exact absurd n (P2.th p (P.th p (by rw [q]; simp)))
      exact Go.newO (z2.mono fun _ _ _ _ _ _ q => q.2.2) R2 n nH (strs_rds _)
    | _ => exact z2.bad.elim
  | _ => cases hp
theorem pdL_split {apos : Pos} (ha : PD X C a f) (hb : PD X C e g) (hs : starEach [e] X.env = [(false, eval e X.env)] := by rfl) (hbase : attributeBase a "split" X.env (eval a X.env) = eval a X.env := by rfl) (hline : (apos.endLine == pos.line) = true := by rfl) :
    PDL X C (.Call (.Attribute a "split" apos) [e] [] pos) (mOpL isStr splitL f g) := PEto (pe_split ha hb hs hbase hline) t_split

/-! ### f-strings -/
def fmt1 : D → T D
  | .str y => ask (y.length ≤ sizeLine) (.ret (.str y))
  | .int i => ask (i.natAbs.log2 < 1920) (.ret (.str (toString i)))
  | _ => .bad
theorem pd_fmt (ha : PD X C e f) : PD X C (.FormattedValue e (-1) none pos) (op1 fmt1 f) := PEto (pe_fmt ha) (by
  rintro σ H Q ⟨G, ρ, b, R, h⟩
  refine ⟨G, ρ, b, R, (Go.bind R h).mono fun d G1 H1 c P j z v rv => ?_⟩
  obtain ⟨R1, z⟩ := z
  cases rv with
  | str x =>
    obtain ⟨hz, z⟩ := Go.ask z
    exact .inl ⟨x, rfl, hz, (z.ret R1).2 _ (.str _)⟩
  | int i =>
    obtain ⟨hz, z⟩ := Go.ask z
    exact .inr ⟨i, rfl, hz, (z.ret R1).2 _ (.str _)⟩
  | _ => exact z.bad.elim)
/-- the parts one behind the other -/
def fjoin : List (Rho → T D) → Str → Rho → T D
  | [], acc, _ => .ret (.str acc)
  | f :: r, acc, ρ => (f ρ).bind fun d => match d with
    | .str y => ask ((acc ++ y).length ≤ sizeLine) (fjoin r (acc ++ y) ρ)
    | _ => .bad
inductive PDj (X : Cx) (C : Ct) : List Expr → List (Rho → T D) → Prop where
  | nil : PDj X C [] []
  | cons {e : Expr} {f : Rho → T D} {es : List Expr} {fs : List (Rho → T D)} (h : PD X C e f) (r : PDj X C es fs) : PDj X C (e :: es) (f :: fs)
theorem PDj.pj {es : List Expr} {fs : List (Rho → T D)} (h : PDj X C es fs) : PJ X es (fs.map (tD C)) := by
  induction h with
  | nil => exact .nil
  | cons h r ih => exact .cons h ih
theorem d_fjoin : ∀ (fs : List (Rho → T D)) (acc : Str) {G H : Hp} {ρ : Rho} {b : Nat} {Q : Str → Hp → Prop}, Rel C G H ρ σ b → Go C σ G H ρ b (fjoin fs acc ρ) (fun d G' H' _ => ∀ y, d = .str y → Q y H') → tJs (fs.map (tD C)) acc σ H Q
  | [], acc, G, H, ρ, b, Q, R, h => h.ret R acc rfl
  | f :: r, acc, G, H, ρ, b, Q, R, h => by
    refine ⟨G, ρ, b, R, (Go.bind R h).mono fun d G1 H1 c P j z v rv => ?_⟩
    obtain ⟨R1, z⟩ := z
    cases rv with
    | str y =>
      obtain ⟨hz, z⟩ := Go.ask z
      exact ⟨y, rfl, hz, d_fjoin r _ R1 (z.mono fun _ _ _ _ _ _ q => q.2)⟩
    | _ => exact z.bad.elim
theorem fjoin_str : ∀ (fs : List (Rho → T D)) (acc : Str) {G H : Hp} {ρ : Rho} {b : Nat} {Q : V → Hp → Prop}, Go C σ G H ρ b (fjoin fs acc ρ) (fun d G' H' _ => ∀ v, RD C.J.O C.K G' v d → Q v H') → Go C σ G H ρ b (fjoin fs acc ρ) (fun d G' H' _ => ∀ y, d = .str y → Q (.str y) H') :=
  fun fs acc => fun h => h.mono fun d G1 H1 c P j z y e => z _ (by rw [e]; exact .str y)
def fstrD (fs : List (Rho → T D)) : Rho → T D := fjoin fs Str.empty
theorem pd_fstr {v1 v2 : Expr} {rest : List Expr} {fs : List (Rho → T D)} (h : PDj X C (v1 :: v2 :: rest) fs) : PD X C (.JoinedStr (v1 :: v2 :: rest) pos) (fstrD fs) := PEto (pe_joined h.pj) (by
  rintro σ H Q ⟨G, ρ, b, R, h⟩
  exact d_fjoin fs _ R (fjoin_str fs _ h))
theorem pd_fstr1 (h : PD X C e f) : PD X C (.JoinedStr [e] pos) f := pe_joined1 h

/-! ### str(n) -/
def str1 : D → T D
  | .int i => ask (i.natAbs.log2 < 1920) (.ret (.str (toString i)))
  | _ => .bad
theorem c_str : CallD C (fun xs H Q => ∃ i, xs = [.int i] ∧ i.natAbs.log2 < 1920 ∧ Q (.str (toString i)) H) (only str1) := by
  refine one_arg str1 (fun _ => rfl) rfl (fun _ _ _ => rfl) fun σ G H ρ b v d Q R rv q => ?_
  cases rv with
  | int i =>
    obtain ⟨hz, q⟩ := Go.ask q
    exact ⟨i, rfl, hz, q.retv R (.str _)⟩
  | _ => exact q.bad.elim
theorem pd_strf {p : Pos} (hg : Gl X "str") (hm : X.mg "str" = none) (ha : PDa X C (e :: es) fs) (he : starEach (e :: es) X.env = (false, eval e X.env) :: starEach es X.env := by rfl) (hpl : (backTo pos (starEach es X.env)).any (·.1) = false := by rfl) :
    PD X C (.Call (.Name "str" p) (e :: es) [] pos) (fun ρ => (fs ρ).bind (only str1)) := pd_cty call_str_int c_str hg hm (by decide +kernel) ha (by decide) (by decide) he hpl

/-! ### xs.index(y) -/
/-- the first place of an equal one -/
def placeE (d : D) : List D → Option Nat
  | [] => none
  | z :: r => if PyData.eqv z d = true then some 0 else (placeE d r).map (· + 1)
theorem placeE_spec {d : D} : ∀ {ds : List D} {j : Nat}, placeE d ds = some j → ∃ z, ds[j]? = some z ∧ PyData.eqv z d = true ∧ ∀ (m : Nat) (z' : D), m < j → ds[m]? = some z' → PyData.eqv z' d = false
  | [], _, h => by cases h
  | y :: r, j, h => by
    unfold placeE at h
    split at h
    · rename_i e
      cases h
      exact ⟨y, rfl, e, fun m _ hm => absurd hm (Nat.not_lt_zero m)⟩
    · rename_i ne
      cases q : placeE d r with
      | none => rw [q] at h; cases h
      | some k =>
        rw [q] at h
        obtain rfl : k + 1 = j := Option.some.inj h
        obtain ⟨z, h1, h2, h3⟩ := placeE_spec q
        refine ⟨z, h1, h2, fun m z' hm => ?_⟩
        cases m with
        | zero =>
          intro e
          have e : y = z' := Option.some.inj e
          subst e
          cases he : PyData.eqv y d with
          | true => exact absurd he ne
          | false => rfl
        | succ m => exact h3 m z' (by omega)
def isLst : D → Bool
  | .list _ => true
  | _ => false
def lstIndex (d e : D) : T D := match d with
  | .list ds => ask (SeqAt.shaped (.list ds) = true ∧ SeqAt.shaped e = true) (orBad ((placeE e ds).map fun j => .int (j : Nat)))
  | _ => .bad
theorem d_lstIndex : ∀ σ H Q, tD C (mOp isLst lstIndex f g) σ H Q → tBM C.K "list" (rIndexD C.K) (tD C f) (tCons (tD C g) tNil) σ H Q := by
  rintro σ H Q ⟨G, ρ, b, R, h⟩
  refine ⟨G, ρ, b, R, (Go.bind R h).mono fun d G1 H1 c P j z v rv => ?_⟩
  obtain ⟨R1, z⟩ := z
  obtain ⟨hp, z⟩ := Go.ask z
  cases rv with
  | @lst a xs ds ea ra =>
    refine ⟨.inl ⟨rfl, xs, SqL.of (R1.sub _ _ ea)⟩, G1, ρ, c, R1, (Go.bind R1 z).mono fun e G2 H2 c2 P2 j2 z2 w rw => ?_⟩
    obtain ⟨R2, z2⟩ := z2
    obtain ⟨hs, z2⟩ := Go.ask z2
    cases q : placeE e ds with
    | none => rw [q] at z2; exact z2.bad.elim
    | some k =>
      rw [q] at z2
      obtain ⟨y, h1, h2, h3⟩ := placeE_spec q
      exact ⟨a, w, e, ds, k, y, rfl, rfl, dp_mono R2.sub (dp_of (.lst (P2.gg _ _ ea) (ra.mono P2.gg)) (shaped_lay hs.1)), dp_mono R2.sub (dp_of rw (shaped_lay hs.2)), hs.1, hs.2, h1, h2, h3, (z2.ret R2).2.2 _ (.int _)⟩
  | _ => cases hp
end
end Y
namespace Y
open PySem PySem.Spec PyProof.Rows L2

section
variable {X : Cx} {C : Ct} {σ : L2.St} {G H G' H' : Hp} {ρ : Rho} {b c : Nat} {e a a2 : Expr} {es : List Expr} {pos : Pos} {st : Stmt} {sts : List Stmt} {f g : Rho → T D} {fs gs : Rho → T (List D)}
/-! ### two names at once, lists of ours among them -/
theorem back_none {fp : Addr → Prop} (P : Post fp G H G' H') {p : Addr} (n : H' p = none) : H p = none := by
  cases q : H p with
  | none => rfl
  | some o => exact absurd n (P.th p (by rw [q]; simp))
theorem rel_none (R : Rel C G H ρ σ b) {p : Addr} (n : H p = none) : C.H0 p = none := by
  cases q : C.H0 p with
  | none => rfl
  | some o => exact absurd n (R.post.th p (by rw [q]; simp))
theorem no_slot (R : Rel C G H ρ σ b) {p : Addr} (n : H p = none) (k : Nat) (es : List D) (q : ρ[k]? = some (S.ow es)) : σ[k]? ≠ some (some (.ref p)) := fun z2 => by
  obtain ⟨α, ho, _⟩ := R.own
  obtain ⟨f1, _, _, ys, f4, _⟩ := ho k es q
  rw [f1] at z2
  cases z2
  rw [n] at f4
  cases f4
def parDL (i j : Nat) (f : Rho → T D) (gs : Rho → T (List D)) : Rho → T Out := atS (fun ρ => (f ρ).bind fun d => (gs ρ).bind fun ds => .ret (d, ds)) fun ρ p => .ret (.nx ((ρ.set i (.dt p.1)).set j (.ow p.2)))
theorem s_parDL {i j : Nat} : ∀ Dn σ H, tS C (parDL i j f gs) Dn σ H → tPar i j (tCons (tD C f) (tCons (tL C gs) tNil)) Dn σ H := by
  rintro Dn σ H ⟨G, ρ, b, R, h⟩
  refine ⟨G, ρ, b, R, (Go.bind R (S_go R h)).mono fun d G1 H1 c P k z v rv => ?_⟩
  obtain ⟨R1, z⟩ := z
  refine ⟨G1, ρ, c, R1, (Go.bind R1 z).mono fun ds G2 H2 c2 P2 k2 z2 p xs n g2 e2 rs => ?_⟩
  obtain ⟨R2, z2⟩ := z2
  obtain ⟨_, P3, R3, z3⟩ := z2.ret R2
  have n0 : C.H0 p = none := rel_none R1 n
  refine ⟨v, .ref p, rfl, z3 _ _ _ (Gr.refl _) ?_⟩
  refine (R2.set (rv.mono P2.gg)).setO g2 n0 e2 rs fun k es hk q => ?_
  have q' : ρ[k]? = some (S.ow es) := by
    by_cases hki : i = k
    · subst hki
      rw [List.getElem?_set] at q
      simp only [if_true] at q
      split at q <;> cases q
    · rwa [List.getElem?_set_ne hki] at q
  have hki : i ≠ k := fun hki => by
    subst hki
    rw [List.getElem?_set] at q
    simp only [if_true] at q
    split at q <;> cases q
  rw [List.getElem?_set_ne hki]
  exact no_slot R1 n k es q'
def parLL (i j : Nat) (fs gs : Rho → T (List D)) : Rho → T Out := atS (fun ρ => (fs ρ).bind fun d => (gs ρ).bind fun ds => .ret (d, ds)) fun ρ p => .ret (.nx ((ρ.set i (.ow p.1)).set j (.ow p.2)))
theorem s_parLL {i j : Nat} (hij : i ≠ j) : ∀ Dn σ H, tS C (parLL i j fs gs) Dn σ H → tPar i j (tCons (tL C fs) (tCons (tL C gs) tNil)) Dn σ H := by
  rintro Dn σ H ⟨G, ρ, b, R, h⟩
  refine ⟨G, ρ, b, R, (Go.bind R (S_go R h)).mono fun d G1 H1 c P k z p1 xs1 n1 g1 e1 rs1 => ?_⟩
  obtain ⟨R1, z⟩ := z
  refine ⟨G1, ρ, c, R1, (Go.bind R1 z).mono fun ds G2 H2 c2 P2 k2 z2 p xs n g2 e2 rs => ?_⟩
  obtain ⟨R2, z2⟩ := z2
  obtain ⟨_, P3, R3, z3⟩ := z2.ret R2
  have n0 : C.H0 p = none := rel_none R1 n
  have n01 : C.H0 p1 = none := rel_none R n1
  have g21 : G2 p1 = none := by
    cases q : G2 p1 with
    | none => rfl
    | some o =>
      rcases P2.fr p1 (by rw [q]; simp) with q2 | q2
      · exact absurd g1 q2
      · rw [e1] at q2; cases q2
  have e21 : H2 p1 = some (.lst xs1) := P2.hh p1 _ (fun ff => R1.jth p1 ff n01) e1
  have ne : p ≠ p1 := fun z => by rw [z] at n; rw [n] at e1; cases e1
  refine ⟨.ref p1, .ref p, rfl, z3 _ _ _ (Gr.refl _) ?_⟩
  refine (R2.setO (i := i) g21 n01 e21 (rs1.mono P2.gg) fun k es hk q => no_slot R n1 k es q).setO g2 n0 e2 rs fun k es hk q => ?_
  by_cases hki : i = k
  · subst hki
    have hl : i < σ.length := by
      have := (List.getElem?_eq_some_iff.mp q).1
      rw [List.length_set, R2.len] at this
      exact this
    rw [List.getElem?_set_self hl]
    intro z
    cases z
    exact ne rfl
  · rw [List.getElem?_set_ne hki] at q ⊢
    exact no_slot R1 n k es q
def parLD (i j : Nat) (fs : Rho → T (List D)) (g : Rho → T D) : Rho → T Out := atS (fun ρ => (fs ρ).bind fun d => (g ρ).bind fun ds => .ret (d, ds)) fun ρ p => .ret (.nx ((ρ.set i (.ow p.1)).set j (.dt p.2)))
theorem s_parLD {i j : Nat} : ∀ Dn σ H, tS C (parLD i j fs g) Dn σ H → tPar i j (tCons (tL C fs) (tCons (tD C g) tNil)) Dn σ H := by
  rintro Dn σ H ⟨G, ρ, b, R, h⟩
  refine ⟨G, ρ, b, R, (Go.bind R (S_go R h)).mono fun d G1 H1 c P k z p1 xs1 n1 g1 e1 rs1 => ?_⟩
  obtain ⟨R1, z⟩ := z
  refine ⟨G1, ρ, c, R1, (Go.bind R1 z).mono fun d2 G2 H2 c2 P2 k2 z2 v rv => ?_⟩
  obtain ⟨R2, z2⟩ := z2
  obtain ⟨_, P3, R3, z3⟩ := z2.ret R2
  have n01 : C.H0 p1 = none := rel_none R n1
  have g21 : G2 p1 = none := by
    cases q : G2 p1 with
    | none => rfl
    | some o =>
      rcases P2.fr p1 (by rw [q]; simp) with q2 | q2
      · exact absurd g1 q2
      · rw [e1] at q2; cases q2
  have e21 : H2 p1 = some (.lst xs1) := P2.hh p1 _ (fun ff => R1.jth p1 ff n01) e1
  refine ⟨.ref p1, v, rfl, z3 _ _ _ (Gr.refl _) ?_⟩
  exact (R2.setO (i := i) g21 n01 e21 (rs1.mono P2.gg) fun k es hk q => no_slot R n1 k es q).set rv
section
variable {kt : Nat}
theorem pd1_parDL (i j : Nat) {x y : Str} {a b : Expr} {px py pt : Pos} {kt k2 pt2} (hc : X.calm = true) (hN : X.N.Nodup) (ha : PD X C a f) (hb : PDL X C b gs) (hi : X.N[i]? = some x := by rfl) (hj : X.N[j]? = some y := by rfl) (hij : i ≠ j := by decide)
    (hx : X.env.scope.names.lookup x = some .local := by rfl) (hy : X.env.scope.names.lookup y = some .local := by rfl)
    (hw : swappedStores [.Tuple [.Name x px, .Name y py] kt pt] (.Tuple [a, b] k2 pt2) X.env = pure (some [x, y]) := by rfl)
    (hs : swapsWithSole [.Tuple [.Name x px, .Name y py] kt pt] (.Tuple [a, b] k2 pt2) pos.line X.env = pure false := by rfl)
    (hs1 : starEach [a, b] X.env = (false, eval a X.env) :: starEach [b] X.env := by rfl) (hs2 : starEach [b] X.env = (false, eval b X.env) :: starEach [] X.env := by rfl) :
    PD1 X C (.Assign [.Tuple [.Name x px, .Name y py] kt pt] (.Tuple [a, b] k2 pt2) pos) (parDL i j f gs) := PStoD (ps_par hc hN hi hj hij hx hy (pa_cons ha (pa_cons hb pa_nil hs2) hs1) hw hs) s_parDL
theorem pd1_parLL (i j : Nat) {x y : Str} {a b : Expr} {px py pt : Pos} {kt k2 pt2} (hc : X.calm = true) (hN : X.N.Nodup) (ha : PDL X C a fs) (hb : PDL X C b gs) (hi : X.N[i]? = some x := by rfl) (hj : X.N[j]? = some y := by rfl) (hij : i ≠ j := by decide)
    (hx : X.env.scope.names.lookup x = some .local := by rfl) (hy : X.env.scope.names.lookup y = some .local := by rfl)
    (hw : swappedStores [.Tuple [.Name x px, .Name y py] kt pt] (.Tuple [a, b] k2 pt2) X.env = pure (some [x, y]) := by rfl)
    (hs : swapsWithSole [.Tuple [.Name x px, .Name y py] kt pt] (.Tuple [a, b] k2 pt2) pos.line X.env = pure false := by rfl)
    (hs1 : starEach [a, b] X.env = (false, eval a X.env) :: starEach [b] X.env := by rfl) (hs2 : starEach [b] X.env = (false, eval b X.env) :: starEach [] X.env := by rfl) :
    PD1 X C (.Assign [.Tuple [.Name x px, .Name y py] kt pt] (.Tuple [a, b] k2 pt2) pos) (parLL i j fs gs) := PStoD (ps_par hc hN hi hj hij hx hy (pa_cons ha (pa_cons hb pa_nil hs2) hs1) hw hs) (s_parLL hij)
theorem pd1_parLD (i j : Nat) {x y : Str} {a b : Expr} {px py pt : Pos} {kt k2 pt2} (hc : X.calm = true) (hN : X.N.Nodup) (ha : PDL X C a fs) (hb : PD X C b g) (hi : X.N[i]? = some x := by rfl) (hj : X.N[j]? = some y := by rfl) (hij : i ≠ j := by decide)
    (hx : X.env.scope.names.lookup x = some .local := by rfl) (hy : X.env.scope.names.lookup y = some .local := by rfl)
    (hw : swappedStores [.Tuple [.Name x px, .Name y py] kt pt] (.Tuple [a, b] k2 pt2) X.env = pure (some [x, y]) := by rfl)
    (hs : swapsWithSole [.Tuple [.Name x px, .Name y py] kt pt] (.Tuple [a, b] k2 pt2) pos.line X.env = pure false := by rfl)
    (hs1 : starEach [a, b] X.env = (false, eval a X.env) :: starEach [b] X.env := by rfl) (hs2 : starEach [b] X.env = (false, eval b X.env) :: starEach [] X.env := by rfl) :
    PD1 X C (.Assign [.Tuple [.Name x px, .Name y py] kt pt] (.Tuple [a, b] k2 pt2) pos) (parLD i j fs g) := PStoD (ps_par hc hN hi hj hij hx hy (pa_cons ha (pa_cons hb pa_nil hs2) hs1) hw hs) s_parLD
end

/-! ### all, any -/
def boolsOf : List D → Option (List Bool)
  | [] => some []
  | .bool k :: r => (boolsOf r).map (k :: ·)
  | _ => none
theorem bools_rd {O K G} : ∀ {xs : List V} {ds : List D} {ks : List Bool}, RDs O K G xs ds → boolsOf ds = some ks → xs = ks.map V.bl
  | _, _, ys, .nil, h => by cases h; rfl
  | _, _, ys, .cons r rs, h => by
    cases r with
    | bl x =>
      unfold boolsOf at h
      rename_i vs ds
      cases q : boolsOf ds with
      | none => rw [q] at h; cases h
      | some zs =>
        rw [q] at h
        cases h
        rw [bools_rd rs q]
        rfl
    | _ => cases h
def allD : D → T D
  | .list ds => match boolsOf ds with
    | some ks => .ret (.bool (ks.all id))
    | none => .bad
  | _ => .bad
def anyD : D → T D
  | .list ds => match boolsOf ds with
    | some ks => .ret (.bool (ks.any id))
    | none => .bad
  | _ => .bad
theorem c_all : CallD C (rAll C.K) (only allD) := by
  refine one_arg allD (fun _ => rfl) rfl (fun _ _ _ => rfl) fun σ G H ρ b v d Q R rv q => ?_
  cases rv with
  | lst e r =>
    rename_i a xs ds
    have q : Go C σ G H ρ b (match boolsOf ds with | some ks => .ret (PyData.bool (ks.all id)) | none => .bad) _ := q
    cases hk : boolsOf ds with
    | none => rw [hk] at q; exact q.bad.elim
    | some ks =>
      rw [hk] at q
      refine ⟨a, ks, rfl, ?_, q.retv R (.bl _)⟩
      rw [← bools_rd r hk]
      exact SqL.of (R.sub _ _ e)
  | _ => exact q.bad.elim
theorem c_any : CallD C (rAny C.K) (only anyD) := by
  refine one_arg anyD (fun _ => rfl) rfl (fun _ _ _ => rfl) fun σ G H ρ b v d Q R rv q => ?_
  cases rv with
  | lst e r =>
    rename_i a xs ds
    have q : Go C σ G H ρ b (match boolsOf ds with | some ks => .ret (PyData.bool (ks.any id)) | none => .bad) _ := q
    cases hk : boolsOf ds with
    | none => rw [hk] at q; exact q.bad.elim
    | some ks =>
      rw [hk] at q
      refine ⟨a, ks, rfl, ?_, q.retv R (.bl _)⟩
      rw [← bools_rd r hk]
      exact SqL.of (R.sub _ _ e)
  | _ => exact q.bad.elim
theorem pd_all {p : Pos} (hc : X.calm = true) (hg : Gl X "all") (hm : X.mg "all" = none) (ha : PDa X C (e :: es) fs) (hK : X.K = C.K := by rfl) (he : starEach (e :: es) X.env = (false, eval e X.env) :: starEach es X.env := by rfl) (hpl : (backTo pos (starEach es X.env)).any (·.1) = false := by rfl) :
    PD X C (.Call (.Name "all" p) (e :: es) [] pos) (fun ρ => (fs ρ).bind (only allD)) := pd_cb (cr_all hc) (by rw [hK]; exact c_all) hg hm (by decide +kernel) ha (by decide) (by decide) he hpl
theorem pd_any {p : Pos} (hc : X.calm = true) (hg : Gl X "any") (hm : X.mg "any" = none) (ha : PDa X C (e :: es) fs) (hK : X.K = C.K := by rfl) (he : starEach (e :: es) X.env = (false, eval e X.env) :: starEach es X.env := by rfl) (hpl : (backTo pos (starEach es X.env)).any (·.1) = false := by rfl) :
    PD X C (.Call (.Name "any" p) (e :: es) [] pos) (fun ρ => (fs ρ).bind (only anyD)) := pd_cb (cr_any hc) (by rw [hK]; exact c_any) hg hm (by decide +kernel) ha (by decide) (by decide) he hpl

/-! ### xs.extend(ys) -/
def extS (i : Nat) (f : Rho → T D) : Rho → T Out := atS f fun ρ d => match ρ[i]?, d with
  | some (.ow ds), .list es => ask (ds.length + es.length ≤ sizeLine) (.ret (.nx (ρ.set i (.ow (ds ++ es)))))
  | _, _ => .bad
theorem s_ext {i : Nat} : ∀ Dn σ H, tS C (ownS i (extS i f)) Dn σ H → tDrop (tBM C.K "list" rExtend (tVar i) (tCons (tD C f) tNil)) Dn σ H := by
  rintro Dn σ H ⟨G, ρ, b, R, h⟩
  unfold ownS at h
  split at h
  · rename_i ds e
    obtain ⟨p, xs, h1, _, _, h4, h5⟩ := R.own_at e
    refine ⟨_, h1, .inl ⟨rfl, xs, SqL.of h4⟩, G, ρ, b, R, (S_go R h).mono fun d G1 H1 c P j z v r => ?_⟩
    obtain ⟨R1, z⟩ := z
    obtain ⟨p', xs', q1, _, _, q4, q5⟩ := R1.own_at e
    rw [h1] at q1
    cases q1
    rw [e] at z
    cases r with
    | lst eb rb =>
      rename_i b' ys es
      have z : Ok C Dn G1 (ask (ds.length + es.length ≤ sizeLine) (.ret (.nx (ρ.set i (.ow (ds ++ es)))))) c := z
      by_cases hz : ds.length + es.length ≤ sizeLine
      · rw [show Y.ask _ _ = _ from if_pos hz] at z
        exact ⟨p, b', xs', ys, rfl, rfl, q4, R1.sub _ _ eb, by rw [q5.len, rb.len]; exact hz, z _ _ _ (Gr.refl _) (R1.mut e h1 (q5.app rb))⟩
      · rw [show Y.ask _ _ = _ from if_neg hz] at z
        exact z.elim
    | _ => exact z.elim
  · exact h.elim
theorem pd1_ext (i : Nat) {y : Str} {p1 apos cpos : Pos} (he : PD X C e f) (hi : X.N[i]? = some y := by rfl) (hv : Vis X.env.scope y := by first | exact Or.inl rfl | exact Or.inr (Or.inl rfl) | exact Or.inr (Or.inr rfl)) (hd : (y == ("__debug__" : Str)) = false := by decide) (hcd : (y == ("__classdict__" : Str)) = false := by decide)
    (hbase : attributeBase (.Name y p1) "extend" X.env (eval (.Name y p1) X.env) = eval (.Name y p1) X.env := by rfl)
    (hfew : ((backTo cpos (starEach [e] X.env)).all (fun x => !x.1) && (backToKw cpos (keywordEach [] X.env)).all (fun x => x.1.isSome)
      && decide ([e].length + ([] : List Keyword).length + (if ([] : List Keyword).isEmpty then 0 else 1) < 30)) = true := by rfl)
    (hline : (apos.endLine == cpos.line) = true := by rfl) (hs : starEach [e] X.env = (false, eval e X.env) :: starEach [] X.env := by rfl) (hplain : (backTo cpos (starEach [] X.env)).any (·.1) = false := by rfl)
    (hsw : swapsWith (.Call (.Attribute (.Name y p1) "extend" apos) [e] [] cpos) none pos.line X.env = pure false := by rfl) (hK : X.K = C.K := by rfl) :
    PD1 X C (.Expr (.Call (.Attribute (.Name y p1) "extend" apos) [e] [] cpos) pos) (ownS i (extS i f)) := by
  have := ps_expr (pos := pos) (pe_bm PySem.F.plainAttrs_list PySem.F.slot_list_extend PySem.F.type_list_extend mt_extend (pv i hi hv hd hcd) (pa_cons he pa_nil hs) hbase hfew hline hs hplain) hsw
  rw [hK] at this
  exact PStoD this s_ext

/-! ### lists of items over two walks -/
variable {α β : Type}
def lcK (g : β → Rho → Option Rho) (t : Rho → T Bool) (e : Rho → T D) (ρ : Rho) (k : T (List D)) : List β → T (List D)
  | [] => k
  | a :: as => match g a ρ with
    | none => .bad
    | some ρ1 => (noexc (t ρ1)).bind fun q => if q then (noexc (e ρ1)).bind fun d => (lcK g t e ρ k as).bind fun ds => .ret (d :: ds) else lcK g t e ρ k as
def lc2L (g : α → Rho → Option Rho) (t : Rho → T Bool) (vs1 : List Nat) (it1 : Rho → T (List β)) (g1 : β → Rho → Option Rho) (t1 : Rho → T Bool) (e : Rho → T D) (ρ : Rho) : List α → T (List D)
  | [] => .ret []
  | a :: as => match g a ρ with
    | none => .bad
    | some ρ1 => (noexc (t ρ1)).bind fun q => if q then (noexc (it1 ρ1)).bind fun ys => ask (ys.length ≤ 1000) (lcK g1 t1 e (wipeR ρ1 vs1) (lc2L g t vs1 it1 g1 t1 e ρ as) ys) else lc2L g t vs1 it1 g1 t1 e ρ as
def lc2D (vs vs1 : List Nat) (it : Rho → T (List α)) (g : α → Rho → Option Rho) (t : Rho → T Bool) (it1 : Rho → T (List β)) (g1 : β → Rho → Option Rho) (t1 : Rho → T Bool) (e : Rho → T D) (ρ : Rho) : T (List D) :=
  (it ρ).bind fun xs => ask (xs.length ≤ 1000) (lc2L g t vs1 it1 g1 t1 e (wipeR ρ vs) xs)
theorem sat_ask {α : Type} {p : Prop} [Decidable p] {t : T α} {b : Nat} {Q : α → Nat → Prop} {E : Ev → Nat → Prop} (h : (Y.ask p t).sat b Q E) : p ∧ t.sat b Q E := by
  unfold Y.ask at h
  split at h
  · exact ⟨by assumption, h⟩
  · exact h.elim
/-- a target that stores data alone -/
def KOw {α : Type} (g : α → Rho → Option Rho) : Prop := ∀ a ρ ρ', g a ρ = some ρ' → ∀ (k : Nat) (es : List D), ρ'[k]? = some (S.ow es) → ρ[k]? = some (S.ow es)
theorem ko_slot {i : Nat} : KOw (toSlot i) := by
  intro a ρ ρ' h k es q
  cases h
  by_cases hk : i = k
  · subst hk
    rw [List.getElem?_set] at q
    simp only [if_true] at q
    split at q <;> cases q
  · rwa [List.getElem?_set_ne hk] at q
theorem ko_nil : KOw toNil := by
  intro a ρ ρ' h k es q
  unfold toNil at h
  split at h
  · cases h; exact q
  · cases h
theorem ko_cons {g : D → Rho → Option Rho} {gs : List D → Rho → Option Rho} (h1 : KOw g) (h2 : KOw gs) : KOw (toCons g gs) := by
  intro a ρ ρ' h k es q
  unfold toCons at h
  split at h
  · rename_i d r
    cases e : g d ρ with
    | none => rw [e] at h; cases h
    | some ρ1 => rw [e] at h; exact h1 _ _ _ e k es (h2 _ _ _ h k es q)
  · cases h
theorem ko_tup {n : Nat} {gs : List D → Rho → Option Rho} (h2 : KOw gs) : KOw (toTup n gs) := by
  intro a ρ ρ' h k es q
  unfold toTup at h
  split at h
  · split at h
    · exact h2 _ _ _ h k es q
    · cases h
  · cases h
theorem ko_zip {gs : List D → Rho → Option Rho} (h2 : KOw gs) : KOw (fun p : D × D => gs [p.1, p.2]) := by
  intro a ρ ρ' h k es q
  exact h2 _ _ _ h k es q
theorem wipeR_ow {ρ : Rho} {es : List D} {k : Nat} : ∀ {vs : List Nat}, (wipeR ρ vs)[k]? = some (S.ow es) → ρ[k]? = some (S.ow es) ∧ k ∉ vs
  | [], h => ⟨h, fun z => nomatch z⟩
  | v :: vs, h => by
    unfold wipeR at h
    by_cases hk : v = k
    · subst hk
      rw [List.getElem?_set] at h
      simp only [if_true] at h
      split at h <;> cases h
    · rw [List.getElem?_set_ne hk] at h
      obtain ⟨h1, h2⟩ := wipeR_ow h
      exact ⟨h1, fun z => by
        rcases List.mem_cons.mp z with z | z
        · exact hk z.symm
        · exact h2 z⟩
theorem d_lc2 {vs vs1 : List Nat} {it : Rho → T (List α)} {tg : TG} {g : α → Rho → Option Rho} {t : Rho → T Bool} {it1 : Rho → T (List β)} {tg1 : TG} {g1 : β → Rho → Option Rho} {t1 : Rho → T Bool} {el : Rho → T D} (hgo : KOw g) :
    ∀ σ H Q, tL C (lc2D vs vs1 it g t it1 g1 t1 el) σ H Q → tLc2 (tIt C vs it tg g) tg (tT C.nox t) (tIt C.nox vs1 it1 tg1 g1) tg1 (tT C.nox t1) (tD C.nox el) vs vs1 σ H Q := by
  rintro σ H Q ⟨G, ρ, b, R, h⟩
  refine ⟨G, ρ, b, R, (Go.bind R h).mono fun xs G1 H1 c P j z J Gd hG Wk D hD => ?_⟩
  obtain ⟨R1, z⟩ := z
  obtain ⟨hz, z⟩ := Go.ask z
  have h0 : C.H0 D = none := rel_none R1 hD
  have gD : G1 D = none := by
    cases q : G1 D with
    | none => rfl
    | some o => have := R1.sub D o q; rw [hD] at this; cases this
  have hHD : H D = none := back_none P hD
  have nwv : ∀ (ρ : Rho) (σ : L2.St) (vs : List Nat), (∃ G b, Rel C G H1 ρ σ b) → ∀ (k : Nat) (es : List PyData), (wipeR ρ vs)[k]? = some (S.ow es) → (L2.wipe σ vs)[k]? ≠ some (some (.ref D)) := fun ρ σ vs ⟨G, b, Rr⟩ k es q z2 => no_slot (Rr.wipe vs) hD k es q z2
  have nw := nwv ρ σ vs ⟨_, _, R1⟩
  -- what is left to be told
  let Tell : List PyData → T (List PyData) → Nat → Prop := fun ds t b => t.sat b (fun rest c => ∀ G' H', Post C.J.fp G1 H1 G' H' → C.J.ok c H' → ∀ p ys, H p = none → G' p = none → H' p = some (.lst ys) → RDs C.J.O C.K G' ys (ds ++ rest) → Q (.ref p) H') (fun ev c => True)
  have stepD : ∀ {G2 H2 G4 H4 : Hp} {acc : List V}, Post C.J.fp G2 H2 G4 H4 → H2 D = some (.lst acc) → H4 D = some (.lst acc) := fun P e => P.hh D _ (fun f => R1.jth D f h0) e
  have stepG : ∀ {G2 H2 G4 H4 : Hp} {acc : List V}, Post C.J.fp G2 H2 G4 H4 → H2 D = some (.lst acc) → G2 D = none → G4 D = none := fun {G2 H2 G4 H4 acc} P e n => by
    cases q : G4 D with
    | none => rfl
    | some o =>
      rcases P.fr D (by rw [q]; simp) with q2 | q2
      · exact absurd n q2
      · rw [e] at q2; cases q2
  refine ⟨fun i m Hc => m = xs.length - i ∧ i ≤ xs.length ∧ ∃ Gc b acc ds, Rel C Gc Hc (wipeR ρ vs) (wipe σ vs) b ∧ Gd Gc ∧ Gc D = none ∧ Hc D = some (.lst acc) ∧ acc.length ≤ i * 1000 ∧ RDs C.J.O C.K Gc acc ds ∧ Post C.J.fp G1 H1 Gc Hc ∧ Tell ds (lc2L g t vs1 it1 g1 t1 el (wipeR ρ vs) (xs.drop i)) b, ⟨xs.length, rfl, Nat.zero_le _, ?_⟩, ?_⟩
  · have P1 : Post C.J.fp G1 H1 G1 (upd H1 D (.lst [])) := .newH R1.sub hD
    have Rw : Rel C G1 (upd H1 D (.lst [])) (wipeR ρ vs) (wipe σ vs) c := (R1.wipe vs).step P1 (C.J.loc c H1 _ R1.jar fun a ha => upd_ne fun z => R1.jth a ha (by rw [z]; exact h0))
    refine ⟨G1, c, [], [], Rw, hG, gD, upd_same, Nat.zero_le _, .nil, P1, ?_⟩
    rw [List.drop_zero]
    exact T.sat_mono (fun rest c z G' H' P' j' => by simpa using (z G' H' P' j').2) (fun _ _ _ => trivial) z
  · rintro i m Hc ⟨rfl, hi, Gc, b2, acc, ds, Rc, gd, gDn, hDc, hacc, rds, Pc, z⟩
    by_cases hlt : i < xs.length
    · refine .inr ⟨Wk.go i Gc Hc hlt Rc.sub gd, fun H' => ∃ Gc b acc ds, Rel C Gc H' (wipeR ρ vs) (wipe σ vs) b ∧ Gd Gc ∧ Gc D = none ∧ H' D = some (.lst acc) ∧ acc.length ≤ (i + 1) * 1000 ∧ RDs C.J.O C.K Gc acc ds ∧ Post C.J.fp G1 H1 Gc H' ∧ Tell ds (lc2L g t vs1 it1 g1 t1 el (wipeR ρ vs) (xs.drop (i + 1))) b, fun H' q => ⟨xs.length - (i + 1), by omega, rfl, hlt, q⟩, fun x H' y => ?_⟩
      rw [List.drop_eq_getElem_cons hlt] at z
      cases eg : g xs[i] (wipeR ρ vs) with
      | none => simp only [Tell, lc2L, eg] at z; exact z.elim
      | some ρ3 =>
        simp only [Tell, lc2L, eg] at z
        refine Wk.turn i xs[i] Gc Hc _ _ b2 x H' ρ3 _ (List.getElem?_eq_getElem hlt) Rc gd y eg fun σ3 G3 gr R3 sl3 P3 => ?_
        refine ⟨by rw [Sl.wipe sl3, wipe_wipe], G3, ρ3, b2, R3.nox, go_nox ?_⟩
        have hD3 : H' D = some (.lst acc) := stepD P3 hDc
        have gD3 : G3 D = none := stepG P3 hDc gDn
        have z2 := sat_noexc (T.sat_bind z)
        refine T.sat_mono (fun k c z4 G4 H4 P4 j4 => ?_) (fun _ _ z => z) z2
        have P4 : Post C.J.fp G3 H' G4 H4 := P4
        have Rc4 : Rel C G4 H4 (wipeR ρ vs) (wipe σ vs) c := Rc.step (P3.trans P4) j4
        have R34 : Rel C G4 H4 ρ3 σ3 c := R3.step P4 j4
        cases k with
        | false =>
          exact ⟨G4, c, acc, ds, Rc4, Wk.up _ _ (gr.trans P4.gg) gd, stepG P4 hD3 gD3, stepD P4 hD3, by omega, rds.mono (Gr.trans gr P4.gg), Pc.trans (P3.trans P4), z4⟩
        | true =>
          refine ⟨G4, ρ3, c, R34.nox, go_nox ?_⟩
          refine T.sat_mono (fun ys c5 z5 G5 H5 P5 j5 J1 Gd1 hG1 Wk1 => ?_) (fun _ _ z => z) (sat_noexc (T.sat_bind z4))
          have P5 : Post C.J.fp G4 H4 G5 H5 := P5
          obtain ⟨hy, z5⟩ := sat_ask z5
          have hD5 : H5 D = some (.lst acc) := stepD P5 (stepD P4 hD3)
          have gD5 : G5 D = none := stepG P5 (stepD P4 hD3) (stepG P4 hD3 gD3)
          have nw1 : ∀ (k : Nat) (es : List PyData), (wipeR ρ3 vs1)[k]? = some (S.ow es) → (L2.wipe σ3 vs1)[k]? ≠ some (some (.ref D)) := fun k es q z2 => by
            obtain ⟨q1, q2⟩ := wipeR_ow q
            have q3 := hgo _ _ _ eg k es q1
            obtain ⟨_, q5⟩ := wipeR_ow q3
            rw [wipe_out q2, sl3.2 k q5] at z2
            exact nw k es q3 z2
          have Rc5 : Rel C G5 H5 (wipeR ρ vs) (wipe σ vs) c5 := Rc4.step P5 j5
          have Rd5 : Rel C G5 H5 (wipeR ρ3 vs1) (L2.wipe σ3 vs1) c5 := (R34.wipe vs1).step P5 j5
          refine ⟨fun j k Hc => k = ys.length - j ∧ j ≤ ys.length ∧ ∃ Gc b acc ds, Rel C Gc Hc (wipeR ρ vs) (wipe σ vs) b ∧ Rel C Gc Hc (wipeR ρ3 vs1) (L2.wipe σ3 vs1) b ∧ Gd Gc ∧ Gd1 Gc ∧ Gc D = none ∧ Hc D = some (.lst acc) ∧ acc.length ≤ i * 1000 + j ∧ RDs C.J.O C.K Gc acc ds ∧ Post C.J.fp G1 H1 Gc Hc ∧ Tell ds (lcK g1 t1 el (wipeR ρ3 vs1) (lc2L g t vs1 it1 g1 t1 el (wipeR ρ vs) (xs.drop (i + 1))) (ys.drop j)) b,
            ⟨ys.length, rfl, Nat.zero_le _, G5, c5, acc, ds, Rc5, Rd5, Wk.up _ _ (gr.trans (Gr.trans P4.gg P5.gg)) gd, hG1, gD5, hD5, by omega, rds.mono (Gr.trans gr (Gr.trans P4.gg P5.gg)), Pc.trans (P3.trans (P4.trans P5)), by rw [List.drop_zero]; exact z5⟩, ?_⟩
          rintro j k Hq ⟨rfl, hj, Gq, bq, accq, dsq, Rq, Rp, gdq, gd1q, gDq, hDq, haq, rdq, Pq, zq⟩
          by_cases hjl : j < ys.length
          · refine .inr ⟨Wk1.go j Gq Hq hjl Rq.sub gd1q, fun H' => ∃ Gc b acc ds, Rel C Gc H' (wipeR ρ vs) (wipe σ vs) b ∧ Rel C Gc H' (wipeR ρ3 vs1) (L2.wipe σ3 vs1) b ∧ Gd Gc ∧ Gd1 Gc ∧ Gc D = none ∧ H' D = some (.lst acc) ∧ acc.length ≤ i * 1000 + (j + 1) ∧ RDs C.J.O C.K Gc acc ds ∧ Post C.J.fp G1 H1 Gc H' ∧ Tell ds (lcK g1 t1 el (wipeR ρ3 vs1) (lc2L g t vs1 it1 g1 t1 el (wipeR ρ vs) (xs.drop (i + 1))) (ys.drop (j + 1))) b, fun H' q => ⟨ys.length - (j + 1), by omega, rfl, hjl, q⟩, fun x2 H6 y2 => ?_⟩
            rw [List.drop_eq_getElem_cons hjl] at zq
            cases eg1 : g1 ys[j] (wipeR ρ3 vs1) with
            | none => simp only [Tell, lcK, eg1] at zq; exact zq.elim
            | some ρ6 =>
              simp only [Tell, lcK, eg1] at zq
              refine Wk1.turn j ys[j] Gq Hq _ _ bq x2 H6 ρ6 _ (List.getElem?_eq_getElem hjl) Rp.nox gd1q y2 eg1 fun σ6 G6 gr6 R6 sl6 P6 => ?_
              have R6 : Rel C G6 H6 ρ6 σ6 bq := R6.unnox
              have P6 : Post C.J.fp Gq Hq G6 H6 := P6
              refine ⟨by rw [Sl.wipe sl6, wipe_wipe], G6, ρ6, bq, R6.nox, go_nox ?_⟩
              have hD6 : H6 D = some (.lst accq) := stepD P6 hDq
              have gD6 : G6 D = none := stepG P6 hDq gDq
              refine T.sat_mono (fun k7 c7 z7 G7 H7 P7 j7 => ?_) (fun _ _ z => z) (sat_noexc (T.sat_bind zq))
              have P7 : Post C.J.fp G6 H6 G7 H7 := P7
              cases k7 with
              | false =>
                exact ⟨G7, c7, accq, dsq, Rq.step (P6.trans P7) j7, Rp.step (P6.trans P7) j7, Wk.up _ _ (gr6.trans P7.gg) gdq, Wk1.up _ _ (gr6.trans P7.gg) gd1q, stepG P7 hD6 gD6, stepD P7 hD6, by omega, rdq.mono (Gr.trans gr6 P7.gg), Pq.trans (P6.trans P7), z7⟩
              | true =>
                refine ⟨G7, ρ6, c7, (R6.step P7 j7).nox, go_nox ?_⟩
                refine T.sat_mono (fun d c8 z8 G8 H8 P8 j8 v rv => ?_) (fun _ _ z => z) (sat_noexc (T.sat_bind z7))
                have P8 : Post C.J.fp G7 H7 G8 H8 := P8
                have hD8 : H8 D = some (.lst accq) := stepD P8 (stepD P7 hD6)
                have gD8 : G8 D = none := stepG P8 (stepD P7 hD6) (stepG P7 hD6 gD6)
                have PA := P6.trans (P7.trans P8)
                refine ⟨accq, hD8, ?_, G8, c8, accq ++ [v], dsq ++ [d], (Rq.step PA j8).other gD8 h0 hD8 nw, (Rp.step PA j8).other gD8 h0 hD8 nw1, Wk.up _ _ (gr6.trans (Gr.trans P7.gg P8.gg)) gdq, Wk1.up _ _ (gr6.trans (Gr.trans P7.gg P8.gg)) gd1q, gD8, upd_same, by rw [List.length_append]; simp; omega, (rdq.mono (Gr.trans gr6 (Gr.trans P7.gg P8.gg))).app (.one rv), ?_, ?_⟩
                · have : i * 1000 < 1000 * 1000 := Nat.mul_lt_mul_of_pos_right (by omega) (by decide)
                  have := sizeLine_eq
                  omega
                · have Pn := Pq.trans PA
                  refine ⟨Pn.gg, fun a o q => by rw [upd_ne (fun z => by rw [z, gD8] at q; cases q)]; exact Pn.sub a o q, fun a o nf q => by rw [upd_ne (ne_of_none q hD)]; exact Pn.hh a o nf q, fun a q => ?_, Pn.fr⟩
                  by_cases h : a = D
                  · rw [h, upd_same]; simp
                  · rw [upd_ne h]; exact Pn.th a q
                · refine T.sat_mono (fun rest c z6 G' H' P' j' p ys n1 n2 e1 r1 => z6 G' H' P' j' p ys n1 n2 e1 (by simpa using r1)) (fun _ _ z => z) (T.sat_bind z8)
          · have ej : j = ys.length := by omega
            subst ej
            rw [List.drop_length] at zq
            exact .inl ⟨Wk1.stop Gq Hq Rq.sub gd1q, Gq, bq, accq, dsq, Rq, gdq, gDq, hDq, by rw [Nat.succ_mul]; omega, rdq, Pq, zq⟩
    · have ei : i = xs.length := by omega
      subst ei
      rw [List.drop_length] at z
      exact .inl ⟨Wk.stop Gc Hc Rc.sub gd, z Gc Hc Pc Rc.jar D acc hHD gDn hDc (by simpa using rds)⟩
end
end Y
namespace Y
open PySem PySem.Spec PyProof.Rows L2
section
variable {X : Cx} {C : Ct} {σ : L2.St} {G H G' H' : Hp} {ρ : Rho} {b c : Nat} {e a a2 : Expr} {es : List Expr} {pos spos py : Pos} {f g : Rho → T D} {fs gs : Rho → T (List D)} {t t1 : Rho → T Bool}
variable {α β : Type} {it : Rho → T (List α)} {w : TG} {gg : α → Rho → Option Rho} {it1 : Rho → T (List β)} {w1 : TG} {gg1 : β → Rho → Option Rho} {elt tg iter tg1 iter1 : Expr} {ifs ifs1 : List Expr} {scope : Scope} {own : List (Str × Nat)} {vs1 : List Nat}
theorem pdL_lc2 (hc : X.calm = true) (hN : X.N.Nodup) (hi : PDi X C tg iter (own.map (·.2)) it w gg) (ok : BlkOk X.N X.env.scope scope own) (hgo : KOw gg) (hv : ∀ i ∈ vs1, i ∈ own.map (·.2))
    (hg : ∀ (s : Shared) (H : Hp) (D : Addr) (cl : List (Str × Addr)) (fp : List Addr), PG (X.blk s H scope (compEnvC scope cl D X.env) fp) tg w) (ht : ∀ (s : Shared) (H : Hp) (D : Addr) (cl : List (Str × Addr)) (fp : List Addr), PTs (X.blk s H scope (compEnvC scope cl D X.env) fp) ifs (tT C.nox t))
    (hi1 : ∀ (s : Shared) (H : Hp) (D : Addr) (cl : List (Str × Addr)) (fp : List Addr), PDi (X.blk s H scope (compEnvC scope cl D X.env) fp) C.nox tg1 iter1 vs1 it1 w1 gg1)
    (hg1 : ∀ (s : Shared) (H : Hp) (D : Addr) (cl : List (Str × Addr)) (fp : List Addr), PG (X.blk s H scope (compEnvC scope cl D X.env) fp) tg1 w1) (ht1 : ∀ (s : Shared) (H : Hp) (D : Addr) (cl : List (Str × Addr)) (fp : List Addr), PTs (X.blk s H scope (compEnvC scope cl D X.env) fp) ifs1 (tT C.nox t1))
    (he : ∀ (s : Shared) (H : Hp) (D : Addr) (cl : List (Str × Addr)) (fp : List Addr), PD (X.blk s H scope (compEnvC scope cl D X.env) fp) C.nox elt f) (hs : ∀ x, foldedSetIterable iter X.env x = pure x := by intro _; rfl) (hs1 : ∀ env x, foldedSetIterable iter1 env x = pure x := by intro _ _; rfl) :
    PDL X C (.ListComp elt [⟨tg, iter, ifs, 0⟩, ⟨tg1, iter1, ifs1, 0⟩] scope pos) (lc2D (own.map (·.2)) vs1 it gg t it1 gg1 t1 f) := PEto (pe_lc2 hc hN hi ok hv hg ht hi1 hg1 ht1 he hs hs1) (d_lc2 hgo)
theorem pd1_setLc2 (i : Nat) {y : Str} (hc : X.calm = true) (hN : X.N.Nodup) (hi : PDi X C tg iter (own.map (·.2)) it w gg) (ok : BlkOk X.N X.env.scope scope own) (hgo : KOw gg) (hv : ∀ i ∈ vs1, i ∈ own.map (·.2))
    (hg : ∀ (s : Shared) (H : Hp) (D : Addr) (cl : List (Str × Addr)) (fp : List Addr), PG (X.blk s H scope (compEnvC scope cl D X.env) fp) tg w) (ht : ∀ (s : Shared) (H : Hp) (D : Addr) (cl : List (Str × Addr)) (fp : List Addr), PTs (X.blk s H scope (compEnvC scope cl D X.env) fp) ifs (tT C.nox t))
    (hi1 : ∀ (s : Shared) (H : Hp) (D : Addr) (cl : List (Str × Addr)) (fp : List Addr), PDi (X.blk s H scope (compEnvC scope cl D X.env) fp) C.nox tg1 iter1 vs1 it1 w1 gg1)
    (hg1 : ∀ (s : Shared) (H : Hp) (D : Addr) (cl : List (Str × Addr)) (fp : List Addr), PG (X.blk s H scope (compEnvC scope cl D X.env) fp) tg1 w1) (ht1 : ∀ (s : Shared) (H : Hp) (D : Addr) (cl : List (Str × Addr)) (fp : List Addr), PTs (X.blk s H scope (compEnvC scope cl D X.env) fp) ifs1 (tT C.nox t1))
    (he : ∀ (s : Shared) (H : Hp) (D : Addr) (cl : List (Str × Addr)) (fp : List Addr), PD (X.blk s H scope (compEnvC scope cl D X.env) fp) C.nox elt f) (hy : X.N[i]? = some y := by rfl) (hyl : X.env.scope.names.lookup y = some .local := by rfl)
    (hsw : swapsWith (.ListComp elt [⟨tg, iter, ifs, 0⟩, ⟨tg1, iter1, ifs1, 0⟩] scope pos) (some (.Name y py)) spos.line X.env = pure true := by rfl) (hs : ∀ x, foldedSetIterable iter X.env x = pure x := by intro _; rfl) (hs1 : ∀ env x, foldedSetIterable iter1 env x = pure x := by intro _ _; rfl) :
    PD1 X C (.Assign [.Name y py] (.ListComp elt [⟨tg, iter, ifs, 0⟩, ⟨tg1, iter1, ifs1, 0⟩] scope pos) spos) (asgS i fun ρ => (lc2D (own.map (·.2)) vs1 it gg t it1 gg1 t1 f ρ).bind fun ds => .ret (.list ds)) :=
  PStoD (ps_setLc2 hc hN hy hyl hsw hi ok hv hg ht hi1 hg1 ht1 he hs hs1) fun Dn σ H q => (d_LD fun _ _ _ q => d_lc2 hgo _ _ _ q) _ _ _ (s_asg Dn σ H q)
theorem pd_lstIndex {apos : Pos} (hu : X.A.units + 65 < cLine) (ha : PD X C a f) (hb : PD X C e g) (hbase : attributeBase a "index" X.env (eval a X.env) = eval a X.env := by rfl)
    (hfew : ((backTo pos (starEach [e] X.env)).all (fun x => !x.1) && (backToKw pos (keywordEach [] X.env)).all (fun x => x.1.isSome)
      && decide ([e].length + ([] : List Keyword).length + (if ([] : List Keyword).isEmpty then 0 else 1) < 30)) = true := by rfl)
    (hline : (apos.endLine == pos.line) = true := by rfl) (hs : starEach [e] X.env = (false, eval e X.env) :: starEach [] X.env := by rfl) (hplain : (backTo pos (starEach [] X.env)).any (·.1) = false := by rfl) (hK : X.K = C.K := by rfl) :
    PD X C (.Call (.Attribute a "index" apos) [e] [] pos) (mOp isLst lstIndex f g) :=
  PEto (pe_bm PySem.F.plainAttrs_list PySem.F.slot_list_index PySem.F.type_list_index (mt_indexD hu) ha (pa_cons hb pa_nil hs) hbase hfew hline hs hplain) (by rw [hK]; exact d_lstIndex)
end
end Y
namespace Y
open PySem PySem.Spec PyProof.Rows L2
/-! ### t[::-1], a tuple -/
section
variable {prog : Program} {w : World} {A : Around} {E : Value → Shared → Prop} {s : Shared}
theorem places_rev (n : Nat) : Builtin.Slice.slicePlaces ((n : Int) - 1) (-1) (-1) = n := by
  unfold Builtin.Slice.slicePlaces
  rw [if_neg (by decide)]
  by_cases h : n = 0
  · subst h; decide
  · rw [if_pos (by omega)]
    have : ((n : Int) - 1 - -1 - 1) / (- -1) + 1 = n := by
      have e : (- -1 : Int) = 1 := by decide
      rw [e, Int.ediv_one]
      omega
    rw [this]
    exact Int.toNat_natCast n
theorem sliceApplied_rev {sl : Addr} {vl vu vs : Value} {n : Nat} {Q : Int × Int × Nat → Shared → Prop} (hs : s.heap.IsSliceOf sl vl vu vs) (pl : IsPart vl none) (pu : IsPart vu none) (ps : IsPart vs (some (-1)))
    (h : Q ((n : Int) - 1, -1, n) s) : wpAny (model prog w) A (Builtin.Slice.sliceApplied (.ref sl) (pure (n : Int))) Q E s := by
  obtain ⟨os, hos, hcs, hds⟩ := id hs
  unfold Builtin.Slice.sliceApplied Builtin.Slice.sliceFields
  refine wpAny_bind (wpAny_bind (wpAny_field hos hds (x := vl) rfl (wpAny_bind (wpAny_field hos hds (x := vu) rfl (wpAny_bind (wpAny_field hos hds (x := vs) rfl (wpAny_pure ?_)))))))
  refine wpAny_bind (HT.slicePart_ ps ?_)
  show wpAny _ _ (if ((-1 : Int) == 0) = true then _ else _) _ _ s
  rw [if_neg (by decide)]
  refine wpAny_bind (HT.slicePart_ pl (wpAny_bind (HT.slicePart_ pu (wpAny_bind (wpAny_pure ?_)))))
  show wpAny _ _ (pure (((n : Int) - 1), (-1 : Int), Builtin.Slice.slicePlaces ((n : Int) - 1) (-1) (-1))) _ _ s
  rw [places_rev]
  exact wpAny_pure h
theorem pick_rev (xs : Array Value) : ((List.range xs.size).filterMap fun (m : Nat) => xs[((xs.size : Int) - 1 + (m : Int) * (-1)).toNat]?).toArray = xs.toList.reverse.toArray := by
  congr 1
  have key : ∀ m ∈ List.range xs.size, xs[((xs.size : Int) - 1 + (m : Int) * (-1)).toNat]? = some (xs.toList.reverse.getD m .none) := fun m hm => by
    have hm := List.mem_range.mp hm
    have e : ((xs.size : Int) - 1 + (m : Int) * (-1)).toNat = xs.size - 1 - m := by omega
    rw [e, List.getD_eq_getElem?_getD, List.getElem?_reverse (by rw [Array.length_toList]; exact hm), Array.length_toList, Array.getElem?_toList, Array.getElem?_eq_getElem (by omega)]
    rfl
  have g : ∀ (l : List Nat), (∀ m ∈ l, xs[((xs.size : Int) - 1 + (m : Int) * (-1)).toNat]? = some (xs.toList.reverse.getD m .none)) → l.filterMap (fun (m : Nat) => xs[((xs.size : Int) - 1 + (m : Int) * (-1)).toNat]?) = l.map fun m => xs.toList.reverse.getD m .none := by
    intro l
    induction l with
    | nil => intro _; rfl
    | cons m l ih =>
      intro h
      rw [List.filterMap_cons, h m List.mem_cons_self, List.map_cons, ih fun k hk => h k (List.mem_cons_of_mem _ hk)]
  rw [g _ key]
  apply List.ext_getElem?
  intro i
  rw [List.getElem?_map]
  by_cases hi : i < xs.size
  · rw [List.getElem?_range hi, Option.map_some, List.getD_eq_getElem?_getD, List.getElem?_eq_getElem (by rw [List.length_reverse, Array.length_toList]; exact hi)]
    rfl
  · rw [List.getElem?_eq_none (by rw [List.length_range]; omega), List.getElem?_eq_none (by rw [List.length_reverse, Array.length_toList]; omega)]
    rfl
theorem getItem_tuple_rev {t sl : Addr} {items : Array Value} {vl vu vs : Value} {Q : Value → Shared → Prop} (ht : IsTup s.heap t items) (hs : s.heap.IsSliceOf sl vl vu vs) (pl : IsPart vl none) (pu : IsPart vu none) (ps : IsPart vs (some (-1)))
    (h : Q (.ref s.heap.objs.size) { s with heap := s.heap.push { cls := .type "tuple", data := .seq items.toList.reverse.toArray } })
    (hsz : items.size ≤ sizeLine) : wpAny (model prog w) A (getItem (.ref t) (.ref sl)) Q E s := by
  have htake : sizeOk (.seq items.toList.reverse.toArray) := by
    show items.toList.reverse.toArray.size ≤ sizeLine
    rw [List.size_toArray, List.length_reverse, Array.length_toList]
    exact hsz
  obtain ⟨os, hos, hcs, hds⟩ := id hs
  have hTs : s.TypeIs (.ref sl) "slice" := ⟨os, hos, hcs⟩
  unfold getItem
  try with_reducible refine wpAny_holding ?_
  first | refine wpAny_bind (wpAny_pure ?_) | skip
  refine wpAny_bind (wpAny_sequenceKey ht.typeIs (by decide) ?_)
  refine wpAny_bind (wpAny_callSpecial?_slot (name := Str.ofString "__getitem__") ht.typeIs PyProof.Rows.slot_tuple_getitem
    (wpAny_call_entry PyProof.Rows.slot_tuple_getitem ht.typeIs entry_tuple_getitem ?_ (args_tuple_getitem _ _)))
  show wpAny _ _ (Builtin.Tuple.tupleItemsOf (.ref t) >>= _) _ _ s
  refine wpAny_bind (PyProof.Rows.tupleItemsOf_ ht ?_)
  refine wpAny_bind (wpAny_typeOf hTs ?_)
  rw [if_pos (by decide)]
  refine wpAny_bind (sliceApplied_rev hs pl pu ps ?_)
  have hno : ¬ ((((items.size : Int) - 1) == 0 && (-1 : Int) == 1 && items.size == items.size) = true) := by
    intro q
    rw [Bool.and_eq_true, Bool.and_eq_true] at q
    exact absurd q.1.2 (by decide)
  show wpAny _ _ (if (((items.size : Int) - 1) == 0 && (-1 : Int) == 1 && items.size == items.size) = true then _ else _) _ _ s
  rw [if_neg hno, pick_rev]
  first
    | exact wpAny_bind (m := Builtin.Tuple.tupleExact _) (wpAny_newObj_type (wpAny_pure ⟨_, rfl, wpAny_pure h⟩) htake)
    | exact wpAny_bind (m := Builtin.Tuple.tupleExact _) (wpAny_newObj_type (wpAny_bind (wpAny_pure (wpAny_pure ⟨_, rfl, wpAny_pure h⟩))) htake)
    | exact wpAny_bind (wpAny_bind (m := Builtin.Tuple.tupleExact _) (wpAny_newObj_type (wpAny_pure (wpAny_pure ⟨_, rfl, wpAny_pure h⟩)) htake))
    | exact wpAny_bind (wpAny_bind (m := Builtin.Tuple.tupleExact _) (wpAny_newObj_type (wpAny_pure ⟨_, rfl, wpAny_pure h⟩) htake))
end
section
variable {X : Cx} {C : Ct} {σ : L2.St} {G H G' H' : Hp} {ρ : Rho} {b c : Nat} {e a a2 : Expr} {es : List Expr} {pos spos py : Pos} {f g : Rho → T D} {fs gs : Rho → T (List D)} {t t1 : Rho → T Bool}
def tRevTP (K : PySem.W.Frag) (te : TE) : TE := fun σ H Q => te σ H fun x H1 => ∃ a xs, x = .ref a ∧ SqT K H1 a xs ∧ NewT H1 xs.reverse Q
theorem pe_revTP {e : Expr} {te : TE} {k : Nat} {p1 p2 p3 pos : Pos} (he : PE X e te) : PE X (.Subscript e (.Slice none none (some (.UnaryOp .USub (.Constant (.int 1) k p1) p2)) p3) pos) (tRevTP X.K te) := by
  refine ⟨fun pins s σ H Q I h => ?_⟩
  refine Subscript_ (thn (he.run pins s σ H _ I h) fun v s1 ⟨x, H1, I1, r1, q1⟩ => ?_)
  obtain ⟨a, xs, ex, hx, q⟩ := q1
  subst ex
  cases r1
  have hst : PO X (some (.UnaryOp .USub (.Constant (.int 1) k p1) p2)) (tPart (tUn (rU fun i => .int (-i)) (tC (.int 1)))) := po_some (pe_un un_neg pe_int)
  refine wpAny_Slice (thn (po_none.run pins s1 σ H1 (fun o H2 => o = none ∧ H2 = H1) I1 ⟨rfl, rfl⟩) fun vl s2 ⟨l, H2, I2, pl, el, e2⟩ => ?_)
  subst el e2
  refine thn (po_none.run pins s2 σ H2 (fun o H3 => o = none ∧ H3 = H2) I2 ⟨rfl, rfl⟩) fun vu s3 ⟨u, H3, I3, pu, eu, e3⟩ => ?_
  subst eu e3
  refine thn (hst.run pins s3 σ H3 (fun o H4 => o = some (-1) ∧ H4 = H3) I3 ⟨1, rfl, -1, rfl, rfl, rfl⟩) fun vs s4 ⟨o, H4, I4, ps, eo, e4⟩ => ?_
  subst eo e4
  have I5 : Inv X pins σ H4 { s4 with heap := s4.heap.push { cls := .type "slice", data := .fields #[vl, vu, vs] } } := I4.kept (t' := s4.toks) fun b ob q => Heap.get?_push_of_some _ q
  obtain ⟨its, r, ht, hz⟩ := I5.tuple hx
  have hlen := r.length
  show wpAny (model X.prog X.w) X.A (subscriptTail e (.Slice none none (some (.UnaryOp .USub (.Constant (.int 1) k p1) p2)) p3) (.ref a) (.ref s4.heap.objs.size)) (EP X pins σ Q) X.xe { s4 with heap := s4.heap.push { cls := .type "slice", data := .fields #[vl, vu, vs] } }
  refine tail_any (ops := [.ref a, .ref s4.heap.objs.size]) ht.typeIs (PyProof.Rows.slot_tuple_getitem.lookup) ?_ (by with_unfolding_all rfl)
  refine getItem_tuple_rev ht (Heap.IsSliceOf.new _ vl vu vs) pl pu ps ?_ (by rw [List.size_toArray]; omega)
  have := laidT I5 (t := s4.toks) r.reverse (by rw [List.length_reverse]; exact hz) q
  simpa using this
def isTupB : D → Bool
  | .tuple _ => true
  | _ => false
def pyRevT : D → T D
  | .tuple ds => .ret (.tuple ds.reverse)
  | _ => .bad
theorem d_revT : ∀ σ H Q, tD C (fun ρ => (f ρ).bind pyRevT) σ H Q → tRevTP C.K (tD C f) σ H Q := by
  rintro σ H Q ⟨G, ρ, b, R, h⟩
  refine ⟨G, ρ, b, R, (Go.bind R h).mono fun d G1 H1 c P j z v rv => ?_⟩
  obtain ⟨R1, z⟩ := z
  cases rv with
  | tup e r => exact ⟨_, _, rfl, (e.mono R1.sub).T, fun p o n hc hd => (z.mono fun _ _ _ _ _ _ q => q.2).newT R1 n hc hd r.rev⟩
  | _ => exact z.bad.elim
theorem pd_revT {k : Nat} {p1 p2 p3 : Pos} (ha : PD X C a f) (hK : X.K = C.K := by rfl) : PD X C (.Subscript a (.Slice none none (some (.UnaryOp .USub (.Constant (.int 1) k p1) p2)) p3) pos) (op1 pyRevT f) := PEto (pe_revTP ha) (by rw [hK]; exact d_revT)

/-! ### three names at once -/
def parS3 (i j l : Nat) (fs : Rho → T (List D)) : Rho → T Out := atS fs fun ρ ds => match ds with
  | [d, e, f] => .ret (.nx (((ρ.set i (.dt d)).set j (.dt e)).set l (.dt f)))
  | _ => .bad
theorem s_par3 {i j l : Nat} : ∀ Dn σ H, tS C (parS3 i j l fs) Dn σ H → tPar3 i j l (tA C fs) Dn σ H := by
  rintro Dn σ H ⟨G, ρ, b, R, h⟩
  refine ⟨G, ρ, b, R, (S_go R h).mono fun ds G1 H1 c P k z vs rs => ?_⟩
  obtain ⟨R1, z⟩ := z
  match ds, vs, rs, z with
  | [d, e, f], _, .cons r1 (.cons r2 (.cons r3 .nil)), z => exact ⟨_, _, _, rfl, z _ _ _ (Gr.refl _) (((R1.set r1).set r2).set r3)⟩
  | [], _, _, z => exact z.elim
  | [_], _, _, z => exact z.elim
  | [_, _], _, _, z => exact z.elim
  | _ :: _ :: _ :: _ :: _, _, _, z => exact z.elim
theorem pd1_par3 (i j l : Nat) {x y z : Str} {a b c : Expr} {px py pz pt : Pos} {kt k2 pt2} (hc : X.calm = true) (hN : X.N.Nodup) (ha : PDa X C [a, b, c] fs) (hi : X.N[i]? = some x := by rfl) (hj : X.N[j]? = some y := by rfl) (hl : X.N[l]? = some z := by rfl) (hij : i ≠ j := by decide) (hil : i ≠ l := by decide) (hjl : j ≠ l := by decide)
    (hx : X.env.scope.names.lookup x = some .local := by rfl) (hy : X.env.scope.names.lookup y = some .local := by rfl) (hz : X.env.scope.names.lookup z = some .local := by rfl)
    (hw : swappedStores [.Tuple [.Name x px, .Name y py, .Name z pz] kt pt] (.Tuple [a, b, c] k2 pt2) X.env = pure (some [x, y, z]) := by rfl)
    (hs : swapsWithSole [.Tuple [.Name x px, .Name y py, .Name z pz] kt pt] (.Tuple [a, b, c] k2 pt2) pos.line X.env = pure false := by rfl) :
    PD1 X C (.Assign [.Tuple [.Name x px, .Name y py, .Name z pz] kt pt] (.Tuple [a, b, c] k2 pt2) pos) (parS3 i j l fs) := PStoD (ps_par3 hc hN hi hj hl hij hil hjl hx hy hz ha hw hs) s_par3

/-! ### dicts of data -/
def keyOf : D → Option Key
  | .int i => some (.inl i)
  | .str x => some (.inr x)
  | _ => none
theorem keyOf_keyD (k : Key) : keyOf (keyD k) = some k := by cases k <;> rfl
def dget : List (D × D) → Key → Option D
  | [], _ => none
  | p :: r, k => if keyOf p.1 = some k then some p.2 else dget r k
theorem RDk.get {O K G} {k : Key} : ∀ {kvs : List (Key × V)} {ds : List (D × D)}, RDk O K G kvs ds → (valV kvs k = none ∧ dget ds k = none) ∨ ∃ v d, valV kvs k = some v ∧ dget ds k = some d ∧ RD O K G v d
  | _, _, .nil => .inl ⟨rfl, rfl⟩
  | _, _, .cons (k := j) r t => by
    by_cases e : j = k
    · exact .inr ⟨_, _, valV_pos e, by unfold dget; rw [keyOf_keyD, if_pos (by rw [e])], r⟩
    · have e2 : ¬ keyOf (keyD j) = some k := by rw [keyOf_keyD]; exact fun z => e (Option.some.inj z)
      rcases RDk.get (k := k) t with ⟨h1, h2⟩ | ⟨v, d, h1, h2, h3⟩
      · exact .inl ⟨by rw [valV_neg e]; exact h1, by unfold dget; rw [if_neg e2]; exact h2⟩
      · exact .inr ⟨v, d, by rw [valV_neg e]; exact h1, by unfold dget; rw [if_neg e2]; exact h2, h3⟩
def isDct : D → Bool
  | .dict ((.dict _, _) :: _) => false
  | .dict _ => true
  | _ => false
def dctOf : D → Option (List (D × D))
  | .dict ((.dict _, _) :: _) => none
  | .dict ds => some ds
  | _ => none
theorem dct_rd {v : V} {d : D} {ds : List (D × D)} (r : RD C.J.O C.K G v d) (h : dctOf d = some ds) : ∃ a kvs, v = .ref a ∧ G a = some (.dK kvs) ∧ RDk C.J.O C.K G kvs ds := by
  cases r with
  | dct e r =>
    rename_i a kvs ds'
    cases r with
    | nil => cases h; exact ⟨a, _, rfl, e, .nil⟩
    | cons r1 r2 =>
      rename_i k v kvs d ds2
      refine ⟨a, _, rfl, e, ?_⟩
      cases k with
      | inl i => cases h; exact .cons r1 r2
      | inr i => cases h; exact .cons r1 r2
  | opq o => cases h
  | _ => cases h
theorem key_rd {v : V} {d : D} {k : Key} (r : RD C.J.O C.K G v d) (h : keyOf d = some k) : v = kV k := by
  cases r with
  | int i => cases h; rfl
  | str i => cases h; rfl
  | opq o => cases h
  | _ => cases h
/-- k in d, d a dict -/
def inK (neg : Bool) (x y : D) : T D := match keyOf x, dctOf y with
  | some k, some ds => .ret (.bool ((dget ds k).isSome != neg))
  | _, _ => .bad
theorem d_inK : ∀ σ H Q, tD C (op2 (inK false) f g) σ H Q → tDIn (tD C f) (tD C g) σ H Q := by
  rintro σ H Q ⟨G, ρ, b, R, h⟩
  refine ⟨G, ρ, b, R, (Go.bind R h).mono fun d G1 H1 c P j z v rv => ?_⟩
  obtain ⟨R1, z⟩ := z
  refine ⟨G1, ρ, c, R1, (Go.bind R1 z).mono fun e G2 H2 c2 P2 j2 z2 w rw => ?_⟩
  obtain ⟨R2, z2⟩ := z2
  have z2 : Go C σ G2 H2 ρ c2 (match keyOf d, dctOf e with | some k, some ds => .ret (PyData.bool ((dget ds k).isSome != false)) | _, _ => .bad) _ := z2
  cases hk : keyOf d with
  | none => rw [hk] at z2; exact z2.bad.elim
  | some k =>
    cases hd : dctOf e with
    | none => rw [hk, hd] at z2; exact z2.bad.elim
    | some ds =>
      rw [hk, hd] at z2
      obtain ⟨a, kvs, rfl, ea, ra⟩ := dct_rd rw hd
      have ev := key_rd rv hk
      subst ev
      refine ⟨a, valV kvs k, rfl, DGet.k (R2.sub _ _ ea), ?_⟩
      have z2 : Go C σ G2 H2 ρ c2 (.ret (PyData.bool ((dget ds k).isSome != false))) _ := z2
      rcases ra.get (k := k) with ⟨h1, h2⟩ | ⟨v', d', h1, h2, h3⟩
      · rw [h1]; rw [h2] at z2; exact (z2.ret R2).2.2 _ (.bl _)
      · rw [h1]; rw [h2] at z2; exact (z2.ret R2).2.2 _ (.bl _)
theorem pd_inK (hu : X.A.units + 1 < cLine) (ha : PD X C a f) (hb : PD X C a2 g) (hM : behindInMarks .In a2 = false := by with_unfolding_all rfl) : PD X C (.Compare a [.In] [a2] pos) (op2 (inK false) f g) := PEto (pe_cmp (pc_din hu ha hb) hM) d_inK
theorem pt_inK (hu : X.A.units + 1 < cLine) (ha : PD X C a f) (hb : PD X C a2 g) (hM : behindInMarks .In a2 = false := by with_unfolding_all rfl) : PDt X C (.Compare a [.In] [a2] pos) (opT (inK false) f g) := PTto (pt_cmp (pc_din hu ha hb) hM) (d_testB d_inK)
/-- d[k], d a dict -/
def ixK (x y : D) : T D := match dctOf x, keyOf y with
  | some ds, some k => orBad (dget ds k)
  | _, _ => .bad
theorem d_ixK : ∀ σ H Q, tD C (op2 ixK f g) σ H Q → tDGet (tD C f) (tD C g) σ H Q := by
  rintro σ H Q ⟨G, ρ, b, R, h⟩
  refine ⟨G, ρ, b, R, (Go.bind R h).mono fun d G1 H1 c P j z v rv => ?_⟩
  obtain ⟨R1, z⟩ := z
  refine ⟨G1, ρ, c, R1, (Go.bind R1 z).mono fun e G2 H2 c2 P2 j2 z2 w rw => ?_⟩
  obtain ⟨R2, z2⟩ := z2
  have z2 : Go C σ G2 H2 ρ c2 (match dctOf d, keyOf e with | some ds, some k => orBad (dget ds k) | _, _ => .bad) _ := z2
  cases hd : dctOf d with
  | none => rw [hd] at z2; exact z2.bad.elim
  | some ds =>
    cases hk : keyOf e with
    | none => rw [hk, hd] at z2; exact z2.bad.elim
    | some k =>
      rw [hk, hd] at z2
      obtain ⟨a, kvs, rfl, ea, ra⟩ := dct_rd (rv.mono P2.gg) hd
      have ev := key_rd rw hk
      subst ev
      rcases ra.get (k := k) with ⟨h1, h2⟩ | ⟨v', d', h1, h2, h3⟩
      · have z2 : Go C σ G2 H2 ρ c2 (orBad (dget ds k)) _ := z2
        rw [h2] at z2; exact z2.bad.elim
      · have z2 : Go C σ G2 H2 ρ c2 (orBad (dget ds k)) _ := z2
        rw [h2] at z2
        refine ⟨a, v', rfl, ?_, (z2.ret R2).2.2 _ h3⟩
        have := DGet.k (k := k) (R2.sub _ _ ea)
        rwa [h1] at this
theorem pd_ixK (hu : X.A.units + 1 < cLine) (ha : PD X C a f) (hb : PD X C a2 g) (hs : NoSl a2 := by exact fun _ _ => rfl) : PD X C (.Subscript a a2 pos) (op2 ixK f g) := PEto (pe_dget hu ha hb hs) d_ixK
/-- d.get(k, x) -/
def getK (x y z : D) : T D := match dctOf x, keyOf y with
  | some ds, some k => .ret ((dget ds k).getD z)
  | _, _ => .bad
def getS (f g h : Rho → T D) (ρ : Rho) : T D := (f ρ).bind fun x => ask (isDct x = true) ((g ρ).bind fun y => (h ρ).bind fun z => getK x y z)
theorem isDct_of {d : D} (h : isDct d = true) : ∃ ds, dctOf d = some ds := by
  cases d with
  | dict ds =>
    cases ds with
    | nil => exact ⟨_, rfl⟩
    | cons p r =>
      obtain ⟨k, v⟩ := p
      cases k <;> first | exact ⟨_, rfl⟩ | cases h
  | _ => cases h
theorem d_getS {h : Rho → T D} : ∀ σ H Q, tD C (getS f g h) σ H Q → tDGet2 (tD C f) (tD C g) (tD C h) σ H Q := by
  rintro σ H Q ⟨G, ρ, b, R, hh⟩
  refine ⟨G, ρ, b, R, (Go.bind R hh).mono fun d G1 H1 c P j z v rv => ?_⟩
  obtain ⟨R1, z⟩ := z
  obtain ⟨hi, z⟩ := Go.ask z
  obtain ⟨ds, hd⟩ := isDct_of hi
  obtain ⟨a, kvs, rfl, ea, ra⟩ := dct_rd rv hd
  refine ⟨a, rfl, .inl ⟨kvs, .inl (R1.sub _ _ ea)⟩, G1, ρ, c, R1, (Go.bind R1 z).mono fun e G2 H2 c2 P2 j2 z2 w rw => ?_⟩
  obtain ⟨R2, z2⟩ := z2
  refine ⟨G2, ρ, c2, R2, (Go.bind R2 z2).mono fun e3 G3 H3 c3 P3 j3 z3 w3 rw3 => ?_⟩
  obtain ⟨R3, z3⟩ := z3
  have z3 : Go C σ G3 H3 ρ c3 (match dctOf d, keyOf e with | some ds, some k => .ret ((dget ds k).getD e3) | _, _ => .bad) _ := z3
  cases hk : keyOf e with
  | none => rw [hk, hd] at z3; exact z3.bad.elim
  | some k =>
    rw [hk, hd] at z3
    have ev := key_rd rw hk
    subst ev
    have z3 : Go C σ G3 H3 ρ c3 (.ret ((dget ds k).getD e3)) _ := z3
    have ra3 := (RDk.mono (Gr.trans P2.gg P3.gg) ra).get (k := k)
    refine ⟨valV kvs k, DGet.k (R3.sub _ _ (P3.gg _ _ (P2.gg _ _ ea))), ?_⟩
    rcases ra3 with ⟨h1, h2⟩ | ⟨v', d', h1, h2, h3⟩
    · rw [h1]; rw [h2] at z3; exact (z3.ret R3).2.2.2 _ rw3
    · rw [h1]; rw [h2] at z3; exact (z3.ret R3).2.2.2 _ h3
end
end Y
namespace Y
open PySem PySem.Spec PyProof.Rows L2
theorem room1 {k : Nat} {A : Around} (r : Room k A) : A.units + 1 < cLine := by have := r.un; omega
/-! ### dicts made by a walk -/
def dput (ds : List (D × D)) (k : Key) (d : D) : List (D × D) := if (ds.any fun p => decide (keyOf p.1 = some k)) = true then ds.map (fun p => if keyOf p.1 = some k then (p.1, d) else p) else ds ++ [(keyD k, d)]
theorem RDk.any {O K G} {k : Key} : ∀ {kvs : List (Key × V)} {ds : List (D × D)}, RDk O K G kvs ds → (kvs.any fun kv => decide (kv.1 = k)) = ds.any fun p => decide (keyOf p.1 = some k)
  | _, _, .nil => rfl
  | _, _, .cons (k := j) r t => by
    rw [List.any_cons, List.any_cons, RDk.any t, keyOf_keyD]
    congr 1
    exact decide_eq_decide.mpr ⟨fun h => by have h : j = k := h; rw [h], fun h => Option.some.inj h⟩
theorem RDk.app {O K G} {k : Key} {v : V} {d : D} (r : RD O K G v d) : ∀ {kvs : List (Key × V)} {ds : List (D × D)}, RDk O K G kvs ds → RDk O K G (kvs ++ [(k, v)]) (ds ++ [(keyD k, d)])
  | _, _, .nil => .cons r .nil
  | _, _, .cons q t => .cons q (RDk.app r t)
theorem RDk.mapK {O K G} {k : Key} {v : V} {d : D} (r : RD O K G v d) : ∀ {kvs : List (Key × V)} {ds : List (D × D)}, RDk O K G kvs ds → RDk O K G (kvs.map fun kv => if kv.1 = k then (kv.1, v) else kv) (ds.map fun p => if keyOf p.1 = some k then (p.1, d) else p)
  | _, _, .nil => .nil
  | _, _, .cons (k := j) q t => by
    rw [List.map_cons, List.map_cons, keyOf_keyD]
    by_cases e : j = k
    · rw [if_pos e, if_pos (by rw [e])]
      exact .cons r (RDk.mapK r t)
    · rw [if_neg e, if_neg fun z => e (Option.some.inj z)]
      exact .cons q (RDk.mapK r t)
theorem RDk.put {O K G} {k : Key} {v : V} {d : D} {kvs : List (Key × V)} {ds : List (D × D)} (h : RDk O K G kvs ds) (r : RD O K G v d) : RDk O K G (putK kvs k v) (dput ds k d) := by
  unfold putK dput
  rw [h.any]
  split
  · exact h.mapK r
  · exact h.app r
theorem RDk.len {O K G} : ∀ {kvs : List (Key × V)} {ds : List (D × D)}, RDk O K G kvs ds → kvs.length = ds.length
  | _, _, .nil => rfl
  | _, _, .cons _ t => by rw [List.length_cons, List.length_cons, RDk.len t]
section
variable {X : Cx} {C : Ct} {σ : L2.St} {G H G' H' : Hp} {ρ : Rho} {b c : Nat} {e : Expr} {pos : Pos} {α : Type}
def dcL (g : α → Rho → Option Rho) (t : Rho → T Bool) (ek ev : Rho → T D) (ρ : Rho) : List (D × D) → List α → T D
  | acc, [] => .ret (.dict acc)
  | acc, a :: as => match g a ρ with
    | none => .bad
    | some ρ1 => (noexc (t ρ1)).bind fun q => if q then (noexc (ek ρ1)).bind fun k => (noexc (ev ρ1)).bind fun d => match keyOf k with
      | some kk => ask (acc.length < 10000) (dcL g t ek ev ρ (dput acc kk d) as)
      | none => .bad
      else dcL g t ek ev ρ acc as
def dcD (vs : List Nat) (it : Rho → T (List α)) (g : α → Rho → Option Rho) (t : Rho → T Bool) (ek ev : Rho → T D) (ρ : Rho) : T D := (it ρ).bind fun xs => dcL g t ek ev (wipeR ρ vs) [] xs
theorem d_dc {vs : List Nat} {it : Rho → T (List α)} {tg : TG} {g : α → Rho → Option Rho} {t : Rho → T Bool} {ek ev : Rho → T D} :
    ∀ σ H Q, tD C (dcD vs it g t ek ev) σ H Q → tDc (tIt C vs it tg g) tg (tT C.nox t) (tD C.nox ek) (tD C.nox ev) vs σ H Q := by
  rintro σ H Q ⟨G, ρ, b, R, h⟩
  refine ⟨G, ρ, b, R, (Go.bind R h).mono fun xs G1 H1 c P j z J Gd hG Wk D hD => ?_⟩
  obtain ⟨R1, z⟩ := z
  have h0 : C.H0 D = none := rel_none R1 hD
  have gD : G1 D = none := by
    cases q : G1 D with
    | none => rfl
    | some o => have := R1.sub D o q; rw [hD] at this; cases this
  have hHD : H D = none := back_none P hD
  have nw : ∀ (k : Nat) (es : List PyData), (wipeR ρ vs)[k]? = some (S.ow es) → (L2.wipe σ vs)[k]? ≠ some (some (.ref D)) := fun k es q z2 => no_slot (R1.wipe vs) hD k es q z2
  let Tell : T PyData → Nat → Prop := fun t b => t.sat b (fun d c => ∀ G' H', Post C.J.fp G1 H1 G' H' → C.J.ok c H' → ∀ v, RD C.J.O C.K G' v d → Q v H') (fun ev c => True)
  have stepD : ∀ {G2 H2 G4 H4 : Hp} {acc : HO}, Post C.J.fp G2 H2 G4 H4 → H2 D = some acc → H4 D = some acc := fun P e => P.hh D _ (fun f => R1.jth D f h0) e
  have stepG : ∀ {G2 H2 G4 H4 : Hp} {acc : HO}, Post C.J.fp G2 H2 G4 H4 → H2 D = some acc → G2 D = none → G4 D = none := fun {G2 H2 G4 H4 acc} P e n => by
    cases q : G4 D with
    | none => rfl
    | some o =>
      rcases P.fr D (by rw [q]; simp) with q2 | q2
      · exact absurd n q2
      · rw [e] at q2; cases q2
  refine ⟨fun i m Hc => m = xs.length - i ∧ i ≤ xs.length ∧ ∃ Gc b acc ds, Rel C Gc Hc (wipeR ρ vs) (wipe σ vs) b ∧ Gd Gc ∧ Gc D = none ∧ Hc D = some (.dK acc) ∧ RDk C.J.O C.K Gc acc ds ∧ Post C.J.fp G1 H1 Gc Hc ∧ Tell (dcL g t ek ev (wipeR ρ vs) ds (xs.drop i)) b, ⟨xs.length, rfl, Nat.zero_le _, ?_⟩, ?_⟩
  · have P1 : Post C.J.fp G1 H1 G1 (upd H1 D (.dK [])) := .newH R1.sub hD
    have Rw : Rel C G1 (upd H1 D (.dK [])) (wipeR ρ vs) (wipe σ vs) c := (R1.wipe vs).step P1 (C.J.loc c H1 _ R1.jar fun a ha => upd_ne fun z => R1.jth a ha (by rw [z]; exact h0))
    refine ⟨G1, c, [], [], Rw, hG, gD, upd_same, .nil, P1, ?_⟩
    rw [List.drop_zero]
    exact T.sat_mono (fun d c z G' H' P' j' => (z G' H' P' j').2) (fun _ _ _ => trivial) z
  · rintro i m Hc ⟨rfl, hi, Gc, b2, acc, ds, Rc, gd, gDn, hDc, rds, Pc, z⟩
    by_cases hlt : i < xs.length
    · refine .inr ⟨Wk.go i Gc Hc hlt Rc.sub gd, fun H' => ∃ Gc b acc ds, Rel C Gc H' (wipeR ρ vs) (wipe σ vs) b ∧ Gd Gc ∧ Gc D = none ∧ H' D = some (.dK acc) ∧ RDk C.J.O C.K Gc acc ds ∧ Post C.J.fp G1 H1 Gc H' ∧ Tell (dcL g t ek ev (wipeR ρ vs) ds (xs.drop (i + 1))) b, fun H' q => ⟨xs.length - (i + 1), by omega, rfl, hlt, q⟩, fun x H' y => ?_⟩
      rw [List.drop_eq_getElem_cons hlt] at z
      cases eg : g xs[i] (wipeR ρ vs) with
      | none => simp only [Tell, dcL, eg] at z; exact z.elim
      | some ρ3 =>
        simp only [Tell, dcL, eg] at z
        refine Wk.turn i xs[i] Gc Hc _ _ b2 x H' ρ3 _ (List.getElem?_eq_getElem hlt) Rc gd y eg fun σ3 G3 gr R3 sl3 P3 => ?_
        refine ⟨by rw [Sl.wipe sl3, wipe_wipe], G3, ρ3, b2, R3.nox, go_nox ?_⟩
        have hD3 : H' D = some (.dK acc) := stepD P3 hDc
        have gD3 : G3 D = none := stepG P3 hDc gDn
        refine T.sat_mono (fun k c z4 G4 H4 P4 j4 => ?_) (fun _ _ z => z) (sat_noexc (T.sat_bind z))
        have P4 : Post C.J.fp G3 H' G4 H4 := P4
        have R34 : Rel C G4 H4 ρ3 σ3 c := R3.step P4 j4
        cases k with
        | false =>
          exact ⟨G4, c, acc, ds, Rc.step (P3.trans P4) j4, Wk.up _ _ (gr.trans P4.gg) gd, stepG P4 hD3 gD3, stepD P4 hD3, rds.mono (Gr.trans gr P4.gg), Pc.trans (P3.trans P4), z4⟩
        | true =>
          refine ⟨G4, ρ3, c, R34.nox, go_nox ?_⟩
          refine T.sat_mono (fun kd c5 z5 G5 H5 P5 j5 kv rk => ?_) (fun _ _ z => z) (sat_noexc (T.sat_bind z4))
          have P5 : Post C.J.fp G4 H4 G5 H5 := P5
          refine ⟨G5, ρ3, c5, (R34.step P5 j5).nox, go_nox ?_⟩
          refine T.sat_mono (fun d c6 z6 G6 H6 P6 j6 v rv => ?_) (fun _ _ z => z) (sat_noexc (T.sat_bind z5))
          have P6 : Post C.J.fp G5 H5 G6 H6 := P6
          have rk : RD C.J.O C.K G5 kv kd := rk
          cases hk : keyOf kd with
          | none => rw [hk] at z6; exact z6.elim
          | some kk =>
            rw [hk] at z6
            obtain ⟨hz, z6⟩ := sat_ask z6
            have ek : kv = kV kk := by
              cases rk with
              | int i => cases hk; rfl
              | str i => cases hk; rfl
              | opq o => cases hk
              | _ => cases hk
            have PA := P3.trans (P4.trans (P5.trans P6))
            have hD6 : H6 D = some (.dK acc) := stepD PA hDc
            have gD6 : G6 D = none := stepG PA hDc gDn
            have rds6 : RDk C.J.O C.K G6 acc ds := rds.mono (Gr.trans gr (Gr.trans P4.gg (Gr.trans P5.gg P6.gg)))
            refine ⟨acc, kk, ek, hD6, by rw [rds6.len]; exact Nat.lt_trans hz (by rw [sizeLine_eq]; decide), G6, c6, putK acc kk v, dput ds kk d, (Rc.step PA j6).other gD6 h0 hD6 nw, Wk.up _ _ (gr.trans (Gr.trans P4.gg (Gr.trans P5.gg P6.gg))) gd, gD6, upd_same, rds6.put rv, ?_, z6⟩
            have Pn := Pc.trans PA
            refine ⟨Pn.gg, fun a o q => by rw [upd_ne (fun z => by rw [z, gD6] at q; cases q)]; exact Pn.sub a o q, fun a o nf q => by rw [upd_ne (ne_of_none q hD)]; exact Pn.hh a o nf q, fun a q => ?_, Pn.fr⟩
            by_cases h : a = D
            · rw [h, upd_same]; simp
            · rw [upd_ne h]; exact Pn.th a q
    · have ei : i = xs.length := by omega
      subst ei
      rw [List.drop_length] at z
      refine .inl ⟨Wk.stop Gc Hc Rc.sub gd, ?_⟩
      have gg : Gr Gc (upd Gc D (.dK acc)) := fun a o q => by rw [upd_ne (ne_of_none q gDn)]; exact q
      exact z (upd Gc D (.dK acc)) Hc (.give Pc.sub Pc hDc hD) Rc.jar (.ref D) (.dct upd_same (rds.mono gg))
theorem pd_dc {it : Rho → T (List α)} {w : TG} {gg : α → Rho → Option Rho} {t : Rho → T Bool} {fk fv : Rho → T D} {kx vx tg iter : Expr} {ifs : List Expr} {scope : Scope} {own : List (Str × Nat)} (hc : X.calm = true) (hN : X.N.Nodup) (hi : PDi X C tg iter (own.map (·.2)) it w gg) (ok : BlkOk X.N X.env.scope scope own)
    (hg : ∀ (s : Shared) (H : Hp) (D : Addr) (cl : List (Str × Addr)) (fp : List Addr), PG (X.blk s H scope (compEnvC scope cl D X.env) fp) tg w) (ht : ∀ (s : Shared) (H : Hp) (D : Addr) (cl : List (Str × Addr)) (fp : List Addr), PTs (X.blk s H scope (compEnvC scope cl D X.env) fp) ifs (tT C.nox t))
    (hk : ∀ (s : Shared) (H : Hp) (D : Addr) (cl : List (Str × Addr)) (fp : List Addr), PD (X.blk s H scope (compEnvC scope cl D X.env) fp) C.nox kx fk)
    (he : ∀ (s : Shared) (H : Hp) (D : Addr) (cl : List (Str × Addr)) (fp : List Addr), PD (X.blk s H scope (compEnvC scope cl D X.env) fp) C.nox vx fv) (hs : ∀ x, foldedSetIterable iter X.env x = pure x := by intro _; rfl) :
    PD X C (.DictComp kx vx [⟨tg, iter, ifs, 0⟩] scope pos) (dcD (own.map (·.2)) it gg t fk fv) := PEto (pe_dc hc hN hi ok hg ht hk he hs) d_dc
variable {a a2 a3 : Expr} {f g h : Rho → T D}
theorem pt_chainLeLe (ha : PD X C a f) (hb : PD X C a2 g) (hc : PD X C a3 h) (hm : lastMarks [.LtE, .LtE] [a2, a3] = false := by with_unfolding_all rfl) : PDt X C (.Compare a [.LtE, .LtE] [a2, a3] pos) (fun ρ => (chainD pyLe pyLe f g h ρ).bind boolOf) := PTto (pt_chain op_le op_le ha hb hc hm) (d_testB (d_chain o_le o_le))
theorem pt_chainLeLt (ha : PD X C a f) (hb : PD X C a2 g) (hc : PD X C a3 h) (hm : lastMarks [.LtE, .Lt] [a2, a3] = false := by with_unfolding_all rfl) : PDt X C (.Compare a [.LtE, .Lt] [a2, a3] pos) (fun ρ => (chainD pyLe pyLt f g h ρ).bind boolOf) := PTto (pt_chain op_le op_lt ha hb hc hm) (d_testB (d_chain o_le o_lt))
theorem pd_chainLeLt (ha : PD X C a f) (hb : PD X C a2 g) (hc : PD X C a3 h) (hm : lastMarks [.LtE, .Lt] [a2, a3] = false := by with_unfolding_all rfl) : PD X C (.Compare a [.LtE, .Lt] [a2, a3] pos) (chainD pyLe pyLt f g h) := PEto (pe_chain op_le op_lt ha hb hc hm) (d_chain o_le o_lt)
end
end Y
namespace Y
open PySem PySem.Spec PyProof.Rows L2
/-! ### reckoning: rows one behind another -/
section
variable {α β γ : Type} {f g : Rho → T D} {fs gs : Rho → T (List D)} {t u : Rho → T Bool} {F K A B : Rho → T Out} {ρ : Rho} {i j n m m0 k M : Nat} {P : α → Prop} {R : β → Prop} {S' : Out → Prop}
@[simp] theorem bind_assoc {f : α → T β} {g : β → T γ} : ∀ {t : T α}, (t.bind f).bind g = t.bind fun a => (f a).bind g
  | .ret _ => rfl
  | .exc _ => rfl
  | .bad => rfl
  | .draw n k => by
    show T.draw n _ = T.draw n _
    congr 1
    funext r
    exact bind_assoc
@[simp] theorem draw_bind {n : Int} {c : Int → T α} {f : α → T β} : (T.draw n c).bind f = T.draw n fun r => (c r).bind f := rfl
def nxt (K : Rho → T Out) : Out → T Out
  | .nx ρ' => K ρ'
  | o => .ret o
@[simp] theorem nxt_nx {ρ : Rho} : nxt K (.nx ρ) = K ρ := rfl
@[simp] theorem nxt_rt {d : D} : nxt K (.rt d) = .ret (.rt d) := rfl
@[simp] theorem nxt_bk {ρ : Rho} : nxt K (.bk ρ) = .ret (.bk ρ) := rfl
@[simp] theorem nxt_ct {ρ : Rho} : nxt K (.ct ρ) = .ret (.ct ρ) := rfl
@[simp] theorem nxt_xc {ρ : Rho} {ev : Ev} : nxt K (.xc ev ρ) = .ret (.xc ev ρ) := rfl
theorem seqS_nxt : seqS F K ρ = (F ρ).bind (nxt K) := by
  unfold seqS
  congr 1
theorem atT_def (t : T α) (k : α → T Out) (ρ : Rho) : atT t k ρ = t.attempt.bind fun | .ok a => k a | .error ev => .ret (.xc ev ρ) := by
  cases t <;> rfl
theorem atT_nxt {t : T α} {k : α → T Out} : (atT t k ρ).bind (nxt K) = atT t (fun a => (k a).bind (nxt K)) ρ := by
  rw [atT_def, atT_def, bind_assoc]
  congr 1
  funext x
  cases x <;> rfl
@[simp] theorem atT_draw {n : Int} {c : Int → T α} {k : α → T Out} : atT (.draw n c) k ρ = .draw n fun r => atT (c r) k ρ := by
  rw [atT_def]
  show T.draw n _ = T.draw n _
  congr 1
  funext r
  exact (atT_def _ _ _).symm
@[simp] theorem lcD_eq {vs : List Nat} {it : Rho → T (List α)} {gg : α → Rho → Option Rho} {e : Rho → T D} : lcD vs it gg t e ρ = (it ρ).bind fun xs => ask (xs.length ≤ sizeLine) (lcL gg t e xs (wipeR ρ vs)) := rfl
@[simp] theorem lc2D_eq {vs vs1 : List Nat} {it : Rho → T (List α)} {gg : α → Rho → Option Rho} {it1 : Rho → T (List β)} {g1 : β → Rho → Option Rho} {t1 : Rho → T Bool} {e : Rho → T D} : lc2D vs vs1 it gg t it1 g1 t1 e ρ = (it ρ).bind fun xs => ask (xs.length ≤ 1000) (lc2L gg t vs1 it1 g1 t1 e (wipeR ρ vs) xs) := rfl
@[simp] theorem wipeR_nil : wipeR ρ [] = ρ := rfl
@[simp] theorem wipeR_cons {v : Nat} {vs : List Nat} : wipeR ρ (v :: vs) = (wipeR ρ vs).set v .un := rfl
@[simp] theorem andD_eq : andD f g ρ = (f ρ).bind fun x => (boolOf x).bind fun k => if k then g ρ else .ret (.bool false) := rfl
@[simp] theorem orD_eq : orD f g ρ = (f ρ).bind fun x => (boolOf x).bind fun k => if k then .ret (.bool true) else g ρ := rfl
@[simp] theorem notD_eq : notD f ρ = (f ρ).bind fun x => (boolOf x).bind fun k => .ret (.bool !k) := rfl
@[simp] theorem callK0_eq {nk : Nat} {is : List Nat} {F : List D → T D} : callK0 nk n is F gs ρ = (gs ρ).bind fun es => ask ((gK 0 nk is [] es).length = n) (F (gK 0 nk is [] es)) := rfl
@[simp] theorem callK_eq {nk : Nat} {is : List Nat} {F : List D → T D} : callK m nk n is F fs gs ρ = (fs ρ).bind fun ds => (gs ρ).bind fun es => ask ((gK m nk is ds es).length = n) (F (gK m nk is ds es)) := rfl
@[simp] theorem ask_rfl {p : Prop} [Decidable p] {t : T α} : ask (p ∨ ¬ p) t = t := ask_t (Decidable.em p)
@[simp] theorem frz_d {d : D} {r : Rho} : frz 0 (.dt d :: r) = .dt d :: r := rfl
@[simp] theorem frz_u {r : Rho} : frz 0 (.un :: r) = .un :: r := rfl
/-! the rows' equations -/
@[simp] theorem q_asgS : seqS (asgS i f) K ρ = atT (f ρ) (fun d => K (ρ.set i (.dt d))) ρ := by rw [seqS_nxt, asgS_eq, atT_nxt]; rfl
@[simp] theorem q_asgO : seqS (asgO i fs) K ρ = atT (fs ρ) (fun d => K (ρ.set i (.ow d))) ρ := by rw [seqS_nxt, asgO_eq, atT_nxt]; rfl
@[simp] theorem q_ifS : seqS (ifS t A B) K ρ = atT (t ρ) (fun k => if k then seqS A K ρ else seqS B K ρ) ρ := by
  rw [seqS_nxt, ifS_eq, atT_nxt]
  congr 1
  funext k
  cases k
  · exact (seqS_nxt).symm
  · exact (seqS_nxt).symm
@[simp] theorem q_retS : seqS (retS f) K ρ = atT (f ρ) (fun d => .ret (.rt d)) ρ := by rw [seqS_nxt, retS_eq, atT_nxt]; rfl
@[simp] theorem q_skip : seqS skipS K ρ = K ρ := rfl
@[simp] theorem q_seq : seqS (seqS A B) K ρ = seqS A (seqS B K) ρ := by
  rw [seqS_nxt, seqS_nxt, seqS_nxt, bind_assoc]
  congr 1
  funext o
  cases o with
  | nx ρ' => exact seqS_nxt.symm
  | _ => rfl
@[simp] theorem q_frz : seqS (frzS i F) K ρ = seqS F K (frz i ρ) := rfl
@[simp] theorem q_for {it : Rho → T (List α)} {gg : α → Rho → Option Rho} : seqS (forD it gg F) K ρ = atT (it ρ) (fun xs => (forL gg F xs ρ).bind (nxt K)) ρ := by rw [seqS_nxt, forD_eq, atT_nxt]
def parR (i j : Nat) (K : Rho → T Out) (ρ : Rho) : List D → T Out
  | [d, e] => K ((ρ.set i (.dt d)).set j (.dt e))
  | _ => .bad
@[simp] theorem parR_2 {d e : D} : parR i j K ρ [d, e] = K ((ρ.set i (.dt d)).set j (.dt e)) := rfl
@[simp] theorem q_par : seqS (parS i j fs) K ρ = atT (fs ρ) (parR i j K ρ) ρ := by
  rw [seqS_nxt, parS_eq, atT_nxt]
  congr 1
  funext ds
  match ds with
  | [d, e] => rfl
  | [] => rfl
  | [_] => rfl
  | _ :: _ :: _ :: _ => rfl
@[simp] theorem q_parDL : seqS (parDL i j f gs) K ρ = atT ((f ρ).bind fun d => (gs ρ).bind fun ds => .ret (d, ds)) (fun p => K ((ρ.set i (.dt p.1)).set j (.ow p.2))) ρ := by
  unfold parDL; rw [seqS_nxt, atS_eq, atT_nxt]; rfl
@[simp] theorem q_parLL : seqS (parLL i j fs gs) K ρ = atT ((fs ρ).bind fun d => (gs ρ).bind fun ds => .ret (d, ds)) (fun p => K ((ρ.set i (.ow p.1)).set j (.ow p.2))) ρ := by
  unfold parLL; rw [seqS_nxt, atS_eq, atT_nxt]; rfl
@[simp] theorem q_parLD : seqS (parLD i j fs g) K ρ = atT ((fs ρ).bind fun d => (g ρ).bind fun ds => .ret (d, ds)) (fun p => K ((ρ.set i (.ow p.1)).set j (.dt p.2))) ρ := by
  unfold parLD; rw [seqS_nxt, atS_eq, atT_nxt]; rfl
@[simp] theorem q_asgG {gg : D → Rho → Option Rho} : seqS (asgG gg f) K ρ = atT (f ρ) (fun d => match gg d ρ with | some ρ' => K ρ' | none => .bad) ρ := by
  unfold asgG
  rw [seqS_nxt, atS_eq, atT_nxt]
  congr 1
  funext d
  cases gg d ρ <;> rfl
@[simp] theorem toSlot_eq {d : D} : toSlot i d ρ = some (ρ.set i (.dt d)) := rfl
@[simp] theorem toNil_eq : toNil [] ρ = some ρ := rfl
@[simp] theorem toCons_eq {g : D → Rho → Option Rho} {gs : List D → Rho → Option Rho} {d : D} {ds : List D} : toCons g gs (d :: ds) ρ = (g d ρ).bind (gs ds) := rfl
@[simp] theorem toTup_eq {gs : List D → Rho → Option Rho} {ds : List D} : toTup n gs (.tuple ds) ρ = if ds.length = n then gs ds ρ else none := rfl
def appR (i : Nat) (ρ : Rho) (d : D) : T Out := match ρ[i]? with
  | some (.ow ds) => ask (ds.length < sizeLine) (.ret (.nx (ρ.set i (.ow (ds ++ [d])))))
  | _ => .bad
theorem e_app {ds : List D} (h : ρ[i]? = some (.ow ds)) : ownS i (appS i f) ρ = atT (f ρ) (fun d => ask (ds.length < sizeLine) (.ret (.nx (ρ.set i (.ow (ds ++ [d])))))) ρ := by
  unfold ownS
  rw [h]
  show appS i f ρ = _
  unfold appS
  rw [atS_eq]
  simp only [h]
theorem q_app {ds : List D} (h : ρ[i]? = some (.ow ds)) (hz : ds.length < 10000) : seqS (ownS i (appS i f)) K ρ = atT (f ρ) (fun d => K (ρ.set i (.ow (ds ++ [d])))) ρ := by
  rw [seqS_nxt, e_app h, atT_nxt]
  congr 1
  funext d
  rw [ask_t (Nat.lt_trans hz (by rw [sizeLine_eq]; decide))]
  rfl
theorem e_app' {ds : List D} (h : ρ[i]? = some (.ow ds)) (hz : ds.length < 10000) : ownS i (appS i f) ρ = atT (f ρ) (fun d => .ret (.nx (ρ.set i (.ow (ds ++ [d]))))) ρ := by
  rw [e_app h]
  congr 1
  funext d
  rw [ask_t (Nat.lt_trans hz (by rw [sizeLine_eq]; decide))]
theorem e_ext {ds : List D} (h : ρ[i]? = some (.ow ds)) : ownS i (extS i f) ρ = atT (f ρ) (fun d => match d with | .list es => ask (ds.length + es.length ≤ sizeLine) (.ret (.nx (ρ.set i (.ow (ds ++ es))))) | _ => .bad) ρ := by
  unfold ownS
  rw [h]
  show extS i f ρ = _
  unfold extS
  rw [atS_eq]
  congr 1
  funext d
  rw [h]
  cases d <;> rfl
/-! what is told -/
theorem Tl.at0 {t : T α} {k : α → T Out} (h : Tl t m0 P) (hM : m0 ≤ M) (hk : ∀ a, P a → Tl (k a) (M - m0) S') : Tl (atT t k ρ) M S' := by
  rw [atT_def]
  refine (h.att.bind (k := M - m0) (R := S') ?_).mono (by omega) fun _ z => z
  rintro _ ⟨a, rfl, pa⟩
  exact hk a pa
theorem Tl.atB {γ : Type} {t : T γ} {P : γ → Prop} {f : γ → T α} {k : α → T Out} (h : Tl t m0 P) (hM : m0 ≤ M) (hk : ∀ a, P a → Tl (atT (f a) k ρ) (M - m0) S') : Tl (atT (t.bind f) k ρ) M S' := by
  rw [atT_def]
  have e : (t.bind f).attempt.bind (fun | .ok a => k a | .error ev => .ret (.xc ev ρ)) = t.attempt.bind fun | .ok c => (f c).attempt.bind (fun | .ok a => k a | .error ev => .ret (.xc ev ρ)) | .error ev => .ret (.xc ev ρ) := by
    clear h hk
    induction t with
    | ret a => rfl
    | exc e => rfl
    | bad => rfl
    | draw n c ih =>
      show T.draw n _ = T.draw n _
      congr 1
      funext r
      exact ih r
  rw [e]
  refine (h.att.bind (k := M - m0) (R := S') ?_).mono (by omega) fun _ z => z
  rintro _ ⟨a, rfl, pa⟩
  have := hk a pa
  rw [atT_def] at this
  exact this
theorem Tl.bd {t : T α} {f : α → T β} (h : Tl t m0 P) (hM : m0 ≤ M) (hk : ∀ a, P a → Tl (f a) (M - m0) R) : Tl (t.bind f) M R := (h.bind hk).mono (by omega) fun _ z => z
theorem Tl.dr {n : Int} {c : Int → T β} (h0 : 0 < n) (h1 : n < 2 ^ 30) (hM : 1 ≤ M) (h : ∀ r, 0 ≤ r → r < n → Tl (c r) (M - 1) R) : Tl (T.draw n c) M R := ⟨fun b Q E hb q =>
  ⟨b - 1, by omega, h0, h1, fun r r0 r1 => (h r r0 r1).run' (b - 1) Q E (by omega) fun a c' pa h3 h4 => q a c' pa (by omega) (by omega)⟩⟩
theorem Tl.loop {γ : Type} {gg : γ → Rho → Option Rho} {xs : List γ} (I : Nat → Rho → Prop) (N : Nat) (hN : xs.length ≤ N) (hM : N * m0 ≤ M) (h0 : I 0 ρ)
    (hs : ∀ (x : Nat) (c : γ) (ρ : Rho), xs[x]? = some c → I x ρ → ∃ ρ1, gg c ρ = some ρ1 ∧ Tl (F ρ1) m0 fun o => ∃ ρ', o = .nx ρ' ∧ I (x + 1) ρ') (hk : ∀ ρ', I xs.length ρ' → Tl (K ρ') (M - N * m0) S') : Tl ((Y.forL gg F xs ρ).bind (nxt K)) M S' := by
  have h := Tl.forL (F := F) (m := m0) (I := I) (xs := xs) hs xs 0 ρ rfl (by omega) h0
  refine Tl.bd (m0 := N * m0) (h.mono ?_ fun _ z => z) hM ?_
  · rw [Nat.mul_comm]; exact Nat.mul_le_mul_right _ hN
  · rintro _ ⟨ρ', rfl, hi⟩
    exact hk ρ' hi
theorem Tl.noexc {t : T α} (h : Tl t m P) : Tl (Y.noexc t) m P := by
  have := h.att.bind (k := 0) (R := P) (f := fun | .ok a => .ret a | .error _ => .bad) ?_
  · exact this
  · rintro _ ⟨a, rfl, pa⟩
    exact .ret pa
@[simp] theorem draw_eq {n : Int} : drawF [hdl 0, .int n] = .draw n fun r => .ret (.int r) := rfl
theorem Tl.app {ds : List D} (h : ρ[i]? = some (.ow ds)) (hz : ds.length < 10000) (hk : Tl (atT (f ρ) (fun d => .ret (.nx (ρ.set i (.ow (ds ++ [d]))))) ρ) M S') : Tl (ownS i (appS i f) ρ) M S' := by rw [e_app' h hz]; exact hk
theorem Tl.appK {ds : List D} (h : ρ[i]? = some (.ow ds)) (hz : ds.length < 10000) (hk : Tl (atT (f ρ) (fun d => K (ρ.set i (.ow (ds ++ [d])))) ρ) M S') : Tl (seqS (ownS i (appS i f)) K ρ) M S' := by rw [q_app h hz]; exact hk
theorem Tl.rn {P : D → Prop} {ds : List D} (h : Tl (F (ini n ds)) M fun o => ∃ d, o = .rt d ∧ P d) : Tl (Y.run n F ds) M P := Tl.run h
theorem Tl.rt {P : D → Prop} {d : D} (h : P d) : Tl (.ret (.rt d) : T Out) M fun o => ∃ d, o = .rt d ∧ P d := .ret ⟨d, rfl, h⟩
/-- a walk over the numbers below n -/
theorem upto_at {n : Nat} {x : Nat} {c : D} (h : (upto 0 n)[x]? = some c) : x < n ∧ c = .int x := by
  have hx : x < n := by
    have := (List.getElem?_eq_some_iff.mp h).1
    simpa [upto] using this
  refine ⟨hx, ?_⟩
  unfold upto at h
  rw [List.getElem?_map, List.getElem?_range hx] at h
  cases h
  simp
@[simp] theorem upto_len {lo : Int} {n : Nat} : (upto lo n).length = n := by simp [upto]
theorem range1_ok {j : Int} (h0 : 0 ≤ j) (h1 : j < 1000000) : range1 (.int j) = .ret (upto 0 j.toNat) := ask_t (by omega)
theorem fin_at : ∀ {t : T D}, fin (atT t (fun d => .ret (.rt d)) ρ) = t
  | .ret _ => rfl
  | .exc _ => rfl
  | .bad => rfl
  | .draw n c => by
    rw [atT_draw]
    show T.draw n _ = T.draw n _
    congr 1
    funext r
    exact fin_at
theorem run_retS {ds : List D} : Y.run n (retS f) ds = f (ini n ds) := by
  unfold Y.run
  rw [retS_eq]
  exact fin_at
theorem run_def {ds : List D} : Y.run n F ds = fin (F (ini n ds)) := rfl
@[simp] theorem fin_rt {d : D} : fin (.ret (.rt d)) = .ret d := rfl
@[simp] theorem fin_draw {n : Int} {c : Int → T Out} : fin (.draw n c) = .draw n fun r => fin (c r) := rfl
/-! texts and numbers compared -/
theorem shaped_s {x : Str} (h : PyData.strOk x = true) : SeqAt.shaped (.str x) = true := shaped_str (n := x.length) ⟨Nat.le_refl _, h⟩
theorem eq_s {x y : Str} (h : PyData.strOk x = true) (g : PyData.strOk y = true) : pyEq (.str x) (.str y) = .ret (.bool (x == y)) := by
  unfold pyEq
  rw [ask_t ⟨shaped_s h, shaped_s g⟩]
  simp [PyData.eqv]
theorem ne_s {x y : Str} (h : PyData.strOk x = true) (g : PyData.strOk y = true) : pyNe (.str x) (.str y) = .ret (.bool (!(x == y))) := by
  unfold pyNe
  rw [ask_t ⟨shaped_s h, shaped_s g⟩]
  simp [PyData.eqv]
@[simp] theorem eq_i {i j : Int} : pyEq (.int i) (.int j) = .ret (.bool (i == j)) := by
  unfold pyEq
  rw [ask_t ⟨rfl, rfl⟩]
  simp [PyData.eqv]
@[simp] theorem ne_i' {i j : Int} : pyNe (.int i) (.int j) = .ret (.bool (!(i == j))) := by
  unfold pyNe
  rw [ask_t ⟨rfl, rfl⟩]
  simp [PyData.eqv]
@[simp] theorem truth_b (k : Bool) : truth (.bool k) = .ret k := rfl
@[simp] theorem tup1_l {ds : List D} : tup1 (.list ds) = .ret (.tuple ds) := rfl
@[simp] theorem tup1_t {ds : List D} : tup1 (.tuple ds) = .ret (.tuple ds) := rfl
@[simp] theorem list1_t {ds : List D} : list1 (.tuple ds) = .ret (.list ds) := rfl
@[simp] theorem list1_l {ds : List D} : list1 (.list ds) = .ret (.list ds) := rfl
theorem ix_t {ds : List D} {i : Nat} {d : D} (h : ds[i]? = some d) : pyIx (.tuple ds) (.int (i : Int)) = .ret d := by
  show orBad (L2.atI ds (i : Int)) = _
  rw [atI_nat h]
  rfl
theorem ix_l {ds : List D} {i : Nat} {d : D} (h : ds[i]? = some d) : pyIx (.list ds) (.int (i : Int)) = .ret d := by
  show orBad (L2.atI ds (i : Int)) = _
  rw [atI_nat h]
  rfl
theorem ix_in {ds : List D} {r : Int} (h0 : 0 ≤ r) (h1 : r < ds.length) : ∃ d ∈ ds, pyIx (.list ds) (.int r) = .ret d := by
  obtain ⟨j, rfl⟩ : ∃ j : Nat, r = j := ⟨r.toNat, by omega⟩
  have hj : j < ds.length := by omega
  exact ⟨ds[j], List.getElem_mem _, ix_l (List.getElem?_eq_getElem hj)⟩
theorem ix_inT {ds : List D} {r : Int} (h0 : 0 ≤ r) (h1 : r < ds.length) : ∃ d ∈ ds, pyIx (.tuple ds) (.int r) = .ret d := by
  obtain ⟨j, rfl⟩ : ∃ j : Nat, r = j := ⟨r.toNat, by omega⟩
  have hj : j < ds.length := by omega
  exact ⟨ds[j], List.getElem_mem _, ix_t (List.getElem?_eq_getElem hj)⟩
/-! lists of items whose parts only tell -/
theorem lcL_map {gg : α → Rho → Option Rho} {e : Rho → T D} (v : α → D) {as : List α} (h : ∀ a ∈ as, ∃ ρ1, gg a ρ = some ρ1 ∧ e ρ1 = .ret (v a)) : lcL gg yesT e as ρ = .ret (as.map v) := by
  refine (lcL_pure (fun _ => true) v fun a ha => ?_).trans ?_
  · obtain ⟨ρ1, h1, h2⟩ := h a ha
    exact ⟨ρ1, h1, rfl, fun _ => h2⟩
  · rw [List.filter_eq_self.mpr fun _ _ => rfl]
theorem lcK_map {gg : β → Rho → Option Rho} {e : Rho → T D} {k : T (List D)} (v : β → D) : ∀ {as : List β}, (∀ a ∈ as, ∃ ρ1, gg a ρ = some ρ1 ∧ e ρ1 = .ret (v a)) → lcK gg yesT e ρ k as = k.bind fun ds => .ret (as.map v ++ ds)
  | [], _ => by
    show k = _
    induction k with
    | ret a => rfl
    | exc _ => rfl
    | bad => rfl
    | draw n c ih =>
      show T.draw n c = T.draw n _
      congr 1
      funext r
      exact ih r
  | a :: as, h => by
    obtain ⟨ρ1, h1, h2⟩ := h a List.mem_cons_self
    have ih := lcK_map (k := k) v (as := as) fun b hb => h b (List.mem_cons_of_mem _ hb)
    simp only [lcK, h1, h2, ih]
    show ((k.bind _).bind _ : T (List D)) = _
    rw [bind_assoc]
    rfl
/-- two walks, the items of the inner ones as they are -/
theorem lc2_map {gg : α → Rho → Option Rho} {it1 : Rho → T (List β)} {g1 : β → Rho → Option Rho} {vs1 : List Nat} {e : Rho → T D} (w : α → List β) (v : α → β → D) : ∀ {as : List α},
    (∀ a ∈ as, ∃ ρ1, gg a ρ = some ρ1 ∧ it1 ρ1 = .ret (w a) ∧ (w a).length ≤ 1000 ∧ ∀ c ∈ w a, ∃ ρ2, g1 c (wipeR ρ1 vs1) = some ρ2 ∧ e ρ2 = .ret (v a c)) → lc2L gg yesT vs1 it1 g1 yesT e ρ as = .ret (as.flatMap fun a => (w a).map (v a))
  | [], _ => rfl
  | a :: as, h => by
    obtain ⟨ρ1, h1, h2, h3, h4⟩ := h a List.mem_cons_self
    have ih := lc2_map (vs1 := vs1) (e := e) w v (as := as) fun b hb => h b (List.mem_cons_of_mem _ hb)
    simp only [lc2L, h1, h2]
    show (Y.ask _ (lcK g1 yesT e (wipeR ρ1 vs1) (lc2L gg yesT vs1 it1 g1 yesT e ρ as) (w a)) : T (List D)) = _
    rw [ask_t h3, lcK_map (v a) h4, ih]
    rfl
/-! .. of items that stand for others -/
theorem lcL_mapL {γ : Type} (φ : γ → α) (v : γ → D) {gg : α → Rho → Option Rho} {e : Rho → T D} {l : List γ} (h : ∀ c ∈ l, ∃ ρ1, gg (φ c) ρ = some ρ1 ∧ e ρ1 = .ret (v c)) : lcL gg yesT e (l.map φ) ρ = .ret (l.map v) := by
  induction l with
  | nil => rfl
  | cons c l ih =>
    obtain ⟨ρ1, h1, h2⟩ := h c List.mem_cons_self
    simp only [List.map_cons, lcL, h1, h2, ih fun b hb => h b (List.mem_cons_of_mem _ hb)]
    rfl
theorem lcL_filL {γ : Type} (φ : γ → α) (p : γ → Bool) (v : γ → D) {gg : α → Rho → Option Rho} {t : Rho → T Bool} {e : Rho → T D} {l : List γ} (h : ∀ c ∈ l, ∃ ρ1, gg (φ c) ρ = some ρ1 ∧ t ρ1 = .ret (p c) ∧ (p c = true → e ρ1 = .ret (v c))) : lcL gg t e (l.map φ) ρ = .ret ((l.filter p).map v) := by
  induction l with
  | nil => rfl
  | cons c l ih =>
    obtain ⟨ρ1, h1, h2, h3⟩ := h c List.mem_cons_self
    have ih := ih fun b hb => h b (List.mem_cons_of_mem _ hb)
    simp only [List.map_cons, lcL, h1, h2, ih]
    cases hp : p c with
    | true =>
      rw [List.filter_cons_of_pos hp, h3 hp]
      rfl
    | false =>
      rw [List.filter_cons_of_neg (by simp [hp])]
      rfl
theorem lc2_mapL {γ δ : Type} (φ : γ → α) (w : γ → List δ) (ψ : γ → δ → β) (v : γ → δ → D) {gg : α → Rho → Option Rho} {it1 : Rho → T (List β)} {g1 : β → Rho → Option Rho} {vs1 : List Nat} {e : Rho → T D} {l : List γ}
    (h : ∀ c ∈ l, ∃ ρ1, gg (φ c) ρ = some ρ1 ∧ it1 ρ1 = .ret ((w c).map (ψ c)) ∧ (w c).length ≤ 1000 ∧ ∀ d ∈ w c, ∃ ρ2, g1 (ψ c d) (wipeR ρ1 vs1) = some ρ2 ∧ e ρ2 = .ret (v c d)) : lc2L gg yesT vs1 it1 g1 yesT e ρ (l.map φ) = .ret (l.flatMap fun c => (w c).map (v c)) := by
  induction l with
  | nil => rfl
  | cons c l ih =>
    obtain ⟨ρ1, h1, h2, h3, h4⟩ := h c List.mem_cons_self
    have ih := ih fun b hb => h b (List.mem_cons_of_mem _ hb)
    simp only [List.map_cons, lc2L, h1, h2, ih]
    show (Y.ask _ (lcK g1 yesT e (wipeR ρ1 vs1) _ ((w c).map (ψ c))) : T (List D)) = _
    rw [ask_t (by rw [List.length_map]; exact h3)]
    have kk : ∀ (ds : List δ), (∀ d ∈ ds, ∃ ρ2, g1 (ψ c d) (wipeR ρ1 vs1) = some ρ2 ∧ e ρ2 = .ret (v c d)) → lcK g1 yesT e (wipeR ρ1 vs1) (.ret (l.flatMap fun c => (w c).map (v c))) (ds.map (ψ c)) = .ret (ds.map (v c) ++ l.flatMap fun c => (w c).map (v c)) := by
      intro ds
      induction ds with
      | nil => intro _; rfl
      | cons d ds ih2 =>
        intro hd
        obtain ⟨ρ2, g2, g3⟩ := hd d List.mem_cons_self
        simp only [List.map_cons, lcK, g2, g3, ih2 fun b hb => hd b (List.mem_cons_of_mem _ hb)]
        rfl
    rw [kk _ h4]
    rfl
theorem bools_map {α : Type} (f : α → Bool) : ∀ l : List α, boolsOf (l.map fun a => PyData.bool (f a)) = some (l.map f)
  | [] => rfl
  | a :: r => by simp [boolsOf, bools_map f r]
theorem all_map {α : Type} (f : α → Bool) (l : List α) : allD (.list (l.map fun a => PyData.bool (f a))) = .ret (.bool (l.all f)) := by
  show (match boolsOf (l.map fun a => PyData.bool (f a)) with | some ks => T.ret (PyData.bool (ks.all id)) | none => T.bad) = _
  rw [bools_map]
  simp
theorem any_map {α : Type} (f : α → Bool) (l : List α) : anyD (.list (l.map fun a => PyData.bool (f a))) = .ret (.bool (l.any f)) := by
  show (match boolsOf (l.map fun a => PyData.bool (f a)) with | some ks => T.ret (PyData.bool (ks.any id)) | none => T.bad) = _
  rw [bools_map]
  simp
@[simp] theorem ix_l0 {a : D} {ds : List D} : pyIx (.list (a :: ds)) (.int 0) = .ret a := ix_l (i := 0) rfl
@[simp] theorem ix_l1 {a b : D} {ds : List D} : pyIx (.list (a :: b :: ds)) (.int 1) = .ret b := ix_l (i := 1) rfl
@[simp] theorem ix_l2 {a b c : D} {ds : List D} : pyIx (.list (a :: b :: c :: ds)) (.int 2) = .ret c := ix_l (i := 2) rfl
@[simp] theorem ix_t0 {a : D} {ds : List D} : pyIx (.tuple (a :: ds)) (.int 0) = .ret a := ix_t (i := 0) rfl
@[simp] theorem ix_t1 {a b : D} {ds : List D} : pyIx (.tuple (a :: b :: ds)) (.int 1) = .ret b := ix_t (i := 1) rfl
@[simp] theorem ix_t2 {a b c : D} {ds : List D} : pyIx (.tuple (a :: b :: c :: ds)) (.int 2) = .ret c := ix_t (i := 2) rfl
/-! cuts -/
theorem cut_hd {α : Type} (xs : List α) (i : Nat) : Y.cutD xs none (some (i : Int)) = xs.take i := by
  unfold Y.cutD
  rw [HT.sIx_none, HT.sIx_nat, List.drop_zero, Nat.sub_zero]
  by_cases h : i ≤ xs.length
  · rw [Nat.min_eq_left h]
  · rw [Nat.min_eq_right (by omega), List.take_length, List.take_of_length_le (by omega)]
theorem cut_tl {α : Type} (xs : List α) (i : Nat) : Y.cutD xs (some (i : Int)) none = xs.drop i := by
  unfold Y.cutD
  rw [HT.sIx_nat, HT.sIx_none]
  by_cases h : i ≤ xs.length
  · rw [Nat.min_eq_left h, List.take_of_length_le (by rw [List.length_drop]; omega)]
  · rw [Nat.min_eq_right (by omega), List.drop_length, List.drop_of_length_le (by omega), List.take_nil]
theorem sl_hd {ds : List D} {i : Nat} : pySl (.tuple ds) none (some (i : Int)) = .ret (.tuple (ds.take i)) := by
  show T.ret (PyData.tuple (Y.cutD ds _ _)) = _
  rw [cut_hd]
theorem sl_tl {ds : List D} {i : Nat} : pySl (.tuple ds) (some (i : Int)) none = .ret (.tuple (ds.drop i)) := by
  show T.ret (PyData.tuple (Y.cutD ds _ _)) = _
  rw [cut_tl]
theorem add_t {xs ys : List D} (h : xs.length + ys.length ≤ 1000) : pyAdd (.tuple xs) (.tuple ys) = .ret (.tuple (xs ++ ys)) := ask_t (size15 h)
end
end Y
namespace Y
open PySem PySem.Spec PyProof.Rows L2
/-! ### what is shown can be told apart -/
abbrev cl (x : Str) : List Nat := x.cps.toList
theorem cl_app (x y : Str) : cl (x ++ y) = cl x ++ cl y := by
  show (x.cps ++ y.cps).toList = _
  simp
theorem cl_inj {x y : Str} (h : cl x = cl y) : x = y := by
  obtain ⟨x⟩ := x
  obtain ⟨y⟩ := y
  have : x = y := by
    have h : x.toList = y.toList := h
    exact Array.toList_inj.mp h
  rw [this]
/-- no text of one is a beginning of the text of another one, whatever stands behind -/
def PF {α : Type} (P : α → Prop) (sh : α → List Nat) : Prop := ∀ a b s t, P a → P b → sh a ++ s = sh b ++ t → a = b ∧ s = t
/-- what stands behind the items that came (whether there was one alone) -/
def tailT {α : Type} (sh : α → List Nat) : Bool → List α → List Nat
  | true, [] => [44, 41]
  | false, [] => [41]
  | _, a :: r => 44 :: 32 :: (sh a ++ tailT sh false r)
def tupT {α : Type} (sh : α → List Nat) : List α → List Nat
  | [] => [40, 41]
  | a :: r => 40 :: (sh a ++ tailT sh true r)
theorem pf_tail {α : Type} {P : α → Prop} {sh : α → List Nat} (h : PF P sh) : ∀ (k : Bool) (l l' : List α) (s t : List Nat), (∀ a ∈ l, P a) → (∀ a ∈ l', P a) → tailT sh k l ++ s = tailT sh k l' ++ t → l = l' ∧ s = t
  | true, [], [], s, t, _, _, e => ⟨rfl, by simpa [tailT] using e⟩
  | false, [], [], s, t, _, _, e => ⟨rfl, by simpa [tailT] using e⟩
  | true, [], a :: r, s, t, _, _, e => by simp [tailT] at e
  | false, [], a :: r, s, t, _, _, e => by simp [tailT] at e
  | true, a :: r, [], s, t, _, _, e => by simp [tailT] at e
  | false, a :: r, [], s, t, _, _, e => by simp [tailT] at e
  | true, a :: r, b :: r', s, t, hl, hl', e => by
    simp only [tailT, List.cons_append, List.append_assoc, List.cons.injEq, true_and] at e
    obtain ⟨h1, h2⟩ := h a b _ _ (hl a List.mem_cons_self) (hl' b List.mem_cons_self) e
    obtain ⟨h3, h4⟩ := pf_tail h false r r' s t (fun c hc => hl c (List.mem_cons_of_mem _ hc)) (fun c hc => hl' c (List.mem_cons_of_mem _ hc)) h2
    exact ⟨by rw [h1, h3], h4⟩
  | false, a :: r, b :: r', s, t, hl, hl', e => by
    simp only [tailT, List.cons_append, List.append_assoc, List.cons.injEq, true_and] at e
    obtain ⟨h1, h2⟩ := h a b _ _ (hl a List.mem_cons_self) (hl' b List.mem_cons_self) e
    obtain ⟨h3, h4⟩ := pf_tail h false r r' s t (fun c hc => hl c (List.mem_cons_of_mem _ hc)) (fun c hc => hl' c (List.mem_cons_of_mem _ hc)) h2
    exact ⟨by rw [h1, h3], h4⟩
theorem pf_tup {α : Type} {P : α → Prop} {sh : α → List Nat} (h : PF P sh) (h0 : ∀ a, P a → ∃ c r, sh a = c :: r ∧ c ≠ 41) : PF (fun l : List α => ∀ a ∈ l, P a) (tupT sh) := by
  intro l l' s t hl hl' e
  cases l with
  | nil =>
    cases l' with
    | nil => exact ⟨rfl, by simpa [tupT] using e⟩
    | cons b r' =>
      obtain ⟨c, q, hc, hn⟩ := h0 b (hl' b List.mem_cons_self)
      simp [tupT, hc] at e
      exact absurd e.1.symm hn
  | cons a r =>
    cases l' with
    | nil =>
      obtain ⟨c, q, hc, hn⟩ := h0 a (hl a List.mem_cons_self)
      simp [tupT, hc] at e
      exact absurd e.1 hn
    | cons b r' =>
      simp only [tupT, List.cons_append, List.append_assoc, List.cons.injEq, true_and] at e
      obtain ⟨h1, h2⟩ := h a b _ _ (hl a List.mem_cons_self) (hl' b List.mem_cons_self) e
      obtain ⟨h3, h4⟩ := pf_tail h true r r' s t (fun c hc => hl c (List.mem_cons_of_mem _ hc)) (fun c hc => hl' c (List.mem_cons_of_mem _ hc)) h2
      exact ⟨by rw [h1, h3], h4⟩
theorem tupT_head {α : Type} {sh : α → List Nat} (l : List α) : ∃ c r, tupT sh l = c :: r ∧ c ≠ 41 := by
  cases l with
  | nil => exact ⟨40, [41], rfl, by decide⟩
  | cons a r => exact ⟨40, _, rfl, by decide⟩
/-- the text of a tuple of items, as the model shows it -/
theorem join_tail : ∀ (x : Str) (r : List Str) , cl (Str.join ", " (x :: r)) ++ [41] = cl x ++ tailT cl false r
  | x, [] => rfl
  | x, y :: r => by
    have ih := join_tail y r
    have e : Str.join ", " (x :: y :: r) = x ++ ", " ++ Str.join ", " (y :: r) := rfl
    have c2 : cl (", " : Str) = [44, 32] := by decide +kernel
    rw [e, cl_app, cl_app, c2, List.append_assoc, List.append_assoc, ih]
    rfl
theorem tailT_map {α : Type} (sh : α → Str) (k : Bool) : ∀ l : List α, tailT cl k (l.map sh) = tailT (fun a => cl (sh a)) k l
  | [] => by cases k <;> rfl
  | a :: r => by
    have ih := tailT_map sh false r
    cases k <;> simp [tailT, ih]
theorem tupT_map {α : Type} (sh : α → Str) (l : List α) : tupT cl (l.map sh) = tupT (fun a => cl (sh a)) l := by
  cases l with
  | nil => rfl
  | cons a r => simp [tupT, tailT_map]
theorem tuple_cl (ts : List Str) : cl (tupleText ts) = tupT cl ts := by
  unfold tupleText
  rw [cl_app, cl_app]
  have c1 : cl ("(" : Str) = [40] := by decide +kernel
  match ts with
  | [] => decide +kernel
  | [x] =>
    have c2 : cl (",)" : Str) = [44, 41] := by decide +kernel
    show cl ("(" : Str) ++ cl x ++ cl (",)" : Str) = _
    rw [c1, c2]
    simp [tupT, tailT]
  | x :: y :: r =>
    have c2 : cl (")" : Str) = [41] := by decide +kernel
    show cl ("(" : Str) ++ cl (Str.join ", " (x :: y :: r)) ++ cl (")" : Str) = _
    rw [c1, c2, List.append_assoc, join_tail]
    simp [tupT, tailT]
theorem shown_tup (ds : List D) : cl (PyData.tuple ds).shown = tupT cl (ds.map PyData.shown) := by
  show cl (tupleText (PyData.shownAll ds)) = _
  rw [shownAll_map, tuple_cl]
/-- few texts, looked through -/
theorem pf_few {α : Type} {P : α → Prop} {sh : α → List Nat} (h : ∀ a b, P a → P b → (sh a).isPrefixOf (sh b) = true → a = b) : PF P sh := by
  intro a b s t ha hb e
  have h1 : sh a <+: sh a ++ s := List.prefix_append _ _
  have h2 : sh b <+: sh a ++ s := by rw [e]; exact List.prefix_append _ _
  have : a = b := by
    rcases List.prefix_or_prefix_of_prefix h1 h2 with q | q
    · exact h a b ha hb (List.isPrefixOf_iff_prefix.mpr q)
    · exact (h b a hb ha (List.isPrefixOf_iff_prefix.mpr q)).symm
  subst this
  exact ⟨rfl, List.append_cancel_left e⟩
/-! words among words -/
theorem eqv_s (x y : Str) : PyData.eqv (.str x) (.str y) = (x == y) := by simp [PyData.eqv]
theorem lay_strs0 {xs : List Str} (hs : ∀ u ∈ xs, PyData.strOk u = true) : PyData.canLayAll0 (xs.map PyData.str) = true := by
  induction xs with
  | nil => rfl
  | cons u W ih =>
    show (PyData.canLay0 (.str _) && PyData.canLayAll0 _) = true
    rw [ih fun v hv => hs v (List.mem_cons_of_mem _ hv)]
    simp [PyData.canLay0, hs u List.mem_cons_self]
theorem any_strs (w : Str) (W : List Str) : ((W.map PyData.str).any fun z => PyData.eqv z (.str w)) = decide (w ∈ W) := by
  induction W with
  | nil => rfl
  | cons u W ih =>
    rw [List.map_cons, List.any_cons, ih, eqv_s]
    by_cases e : u = w
    · subst e; simp
    · have : (u == w) = false := by simpa using e
      rw [this]
      have e' : ¬ w = u := fun z => e z.symm
      simp [e']
theorem in_t {neg : Bool} {w : Str} {W : List Str} (hw : PyData.strOk w = true) (hs : ∀ u ∈ W, PyData.strOk u = true) : inD neg (.str w) (.tuple (W.map PyData.str)) = .ret (.bool (decide (w ∈ W) != neg)) := by
  show Y.ask (SeqAt.shaped (.str w) = true ∧ PyData.canLayAll0 (W.map PyData.str) = true) _ = _
  rw [ask_t ⟨shaped_s hw, lay_strs0 hs⟩, any_strs]
theorem in_l {neg : Bool} {w : Str} {W : List Str} (hw : PyData.strOk w = true) (hs : ∀ u ∈ W, PyData.strOk u = true) : inD neg (.str w) (.list (W.map PyData.str)) = .ret (.bool (decide (w ∈ W) != neg)) := by
  show Y.ask (SeqAt.shaped (.str w) = true ∧ PyData.canLayAll0 (W.map PyData.str) = true) _ = _
  rw [ask_t ⟨shaped_s hw, lay_strs0 hs⟩, any_strs]
/-! texts joined and parted -/
theorem strs_map : ∀ ys : List Str, strsOf (ys.map PyData.str) = some ys
  | [] => rfl
  | y :: r => by simp [strsOf, strs_map r]
theorem sum_le {ps : List Str} {m : Nat} (h : ∀ p ∈ ps, p.length ≤ m) : (ps.map fun y : Str => y.length).sum ≤ ps.length * m := by
  induction ps with
  | nil => simp
  | cons p ps ih =>
    have := ih fun q hq => h q (List.mem_cons_of_mem _ hq)
    have := h p List.mem_cons_self
    simp only [List.map_cons, List.sum_cons, List.length_cons, Nat.succ_mul]
    omega
theorem join_d {s : Str} {ps : List Str} (h : (ps.map fun y : Str => y.length).sum + ps.length * s.length ≤ 100000) : joinD (.str s) (.list (ps.map PyData.str)) = .ret (.str (Txt.join s ps)) := by
  show (match strsOf (ps.map PyData.str) with | some ys => Y.ask ((ys.map (fun y : Str => y.length)).sum + ys.length * s.length ≤ 16777216) (T.ret (PyData.str (Txt.join s ys))) | none => .bad) = _
  rw [strs_map]
  exact ask_t (by omega)
theorem add_s {x y : Str} (h : x.length + y.length ≤ 10000) : pyAdd (.str x) (.str y) = .ret (.str (x ++ y)) := ask_t (by rw [sizeLine_eq]; omega)
theorem app_cancel {x y z : Str} (h : x ++ y = x ++ z) : y = z := cl_inj (List.append_cancel_left (by rw [← cl_app, ← cl_app, h]))
theorem app_cancel_r {x y z : Str} (h : y ++ x = z ++ x) : y = z := cl_inj (List.append_cancel_right (by rw [← cl_app, ← cl_app, h]))
theorem empty_app (x : Str) : Str.empty ++ x = x := by
  show (⟨#[] ++ x.cps⟩ : Str) = x
  simp
/-! a walk whose turns may go on at once -/
theorem Tl.forC {γ : Type} {F : Rho → T Out} {m : Nat} {gg : γ → Rho → Option Rho} {I : Nat → Rho → Prop} {xs : List γ} (hs : ∀ (x : Nat) (c : γ) (ρ : Rho), xs[x]? = some c → I x ρ → ∃ ρ1, gg c ρ = some ρ1 ∧ Tl (F ρ1) m fun o => ∃ ρ', (o = .nx ρ' ∨ o = .ct ρ') ∧ I (x + 1) ρ') :
    ∀ (rest : List γ) (x : Nat) (ρ : Rho), xs.drop x = rest → x + rest.length = xs.length → I x ρ → Tl (Y.forL gg F rest ρ) (m * rest.length) fun o => ∃ ρ', o = .nx ρ' ∧ I xs.length ρ'
  | [], x, ρ, e, hl, h => .ret ⟨ρ, rfl, by rw [← hl]; exact h⟩
  | c :: rest, x, ρ, e, hl, h => by
    have hx : xs[x]? = some c := by
      have : (xs.drop x)[0]? = some c := by rw [e]; rfl
      rwa [List.getElem?_drop, Nat.add_zero] at this
    obtain ⟨ρ1, h1, h2⟩ := hs x c ρ hx h
    have ih := Tl.forC hs rest (x + 1)
    unfold Y.forL
    simp only [h1]
    refine (h2.bind (k := m * rest.length) ?_).mono (by rw [List.length_cons, Nat.mul_succ]; omega) fun _ z => z
    rintro _ ⟨ρ', rfl | rfl, hi⟩
    · exact ih ρ' (by rw [← List.drop_drop, e] <;> rfl) (by rw [← hl, List.length_cons]; omega) hi
    · exact ih ρ' (by rw [← List.drop_drop, e] <;> rfl) (by rw [← hl, List.length_cons]; omega) hi
/-! texts of texts -/
theorem char_lt (c : Char) : c.toNat < 0x110000 := by
  have := c.valid
  unfold UInt32.isValidChar Nat.isValidChar at this
  show c.val.toNat < _
  omega
open Builtin.Str in
theorem reprChar_lt {q c : Nat} (hc : c < 0x110000) : ∀ d ∈ reprChar q c, d < 0x110000 := by
  have hx : ∀ w, ∀ d ∈ List.replicate (w - ((Nat.toDigits 16 c).map Char.toNat).length) 48 ++ (Nat.toDigits 16 c).map Char.toNat, d < 0x110000 := fun w d hd => by
    rcases List.mem_append.mp hd with z | z
    · rw [(List.mem_replicate.mp z).2]; decide
    · obtain ⟨k, _, rfl⟩ := List.mem_map.mp z
      exact char_lt k
  intro d hd
  unfold reprChar at hd
  dsimp only at hd
  repeat' split at hd
  all_goals first
    | (simp only [List.mem_cons, List.not_mem_nil, or_false] at hd; omega)
    | (rcases List.mem_append.mp hd with z | z
       · simp only [List.mem_cons, List.not_mem_nil, or_false] at z; omega
       · exact hx _ d z)
open Builtin.Str in
theorem foldl_repr_lt {q : Nat} : ∀ (l : List Nat) (acc : Array Nat), (∀ c ∈ l, c < 0x110000) → (∀ c ∈ acc.toList, c < 0x110000) → ∀ c ∈ (l.foldl (fun out c => out ++ (reprChar q c).toArray) acc).toList, c < 0x110000
  | [], _, _, h => h
  | c :: r, acc, hl, h => foldl_repr_lt r _ (fun d hd => hl d (List.mem_cons_of_mem _ hd)) fun d hd => by
    simp only [Array.toList_append, List.mem_append] at hd
    rcases hd with z | z
    · exact h d z
    · exact reprChar_lt (hl c List.mem_cons_self) d z
theorem strOk_iff {x : Str} : PyData.strOk x = true ↔ ∀ c ∈ x.cps.toList, c < 0x110000 := by
  unfold PyData.strOk
  rw [Array.all_eq_true']
  simp
theorem gd_str {n : Nat} {x : Str} (h : Gd n x) : Gd (10 * n + 2) (PyData.str x).shown := by
  have hx := strOk_iff.mp h.2
  refine ⟨?_, strOk_iff.mpr ?_⟩
  · have : (reprText x).length ≤ 10 * x.length + 2 := StrLaws.reprText_len x fun c hc => Nat.lt_of_lt_of_le (hx c hc) (by decide)
    have := h.1
    show (reprText x).length ≤ _
    omega
  · have hq : reprQuote x < 0x110000 := by
      unfold reprQuote
      split <;> decide
    show ∀ c ∈ ((x.cps.foldl (fun out c => out ++ (Builtin.Str.reprChar (reprQuote x) c).toArray) #[reprQuote x]).push (reprQuote x)).toList, c < 0x110000
    rw [Array.toList_push, ← Array.foldl_toList]
    intro c hc
    rcases List.mem_append.mp hc with z | z
    · exact foldl_repr_lt _ _ hx (fun d hd => by simp at hd; rw [hd]; exact hq) c z
    · rw [List.mem_singleton.mp z]; exact hq
theorem repr_okL {d : D} {n : Nat} (s : d.showable = true) (nd : d.hasDict = false) (dp : d.depth ≤ 100) (g : Gd n d.shown) (hn : n ≤ 1000000) : repr1 d = .ret (.str d.shown) := if_pos ⟨s, nd, dp, Nat.le_trans g.1 (Nat.le_trans hn (by rw [sizeLine_eq]; decide))⟩
theorem log_small {n : Int} (h : n.natAbs < 1000000) : n.natAbs.log2 < 1920 := by
  by_cases hn : n.natAbs = 0
  · rw [hn]; decide
  · exact (Nat.log2_lt hn).mpr (Nat.lt_of_lt_of_le (Nat.lt_trans h (by decide : 1000000 < 2 ^ 20)) (Nat.pow_le_pow_right (n := 2) (by decide) (by decide : 20 ≤ 1920)))
/-! what a value is for repr, all at once: its text is shown, of n signs at most, k deep at most -/
structure Rp (n k : Nat) (d : D) : Prop where
  sh : d.showable = true
  nd : d.hasDict = false
  dp : d.depth ≤ k
  gd : Gd n d.shown
theorem Rp.mono {m n j k : Nat} {d : D} (h : Rp m j d) (l : m ≤ n) (lk : j ≤ k) : Rp n k d := ⟨h.sh, h.nd, Nat.le_trans h.dp lk, h.gd.mono l⟩
theorem Rp.repr {n k : Nat} {d : D} (h : Rp n k d) (hn : n ≤ 1000000) (hk : k ≤ 100) : repr1 d = .ret (.str d.shown) := repr_okL h.sh h.nd (Nat.le_trans h.dp hk) h.gd hn
theorem rp_str {n : Nat} {x : Str} (h : Gd n x) : Rp (10 * n + 2) 0 (.str x) := ⟨rfl, rfl, Nat.le_refl _, gd_str h⟩
theorem rp_int {i : Int} (h : i.natAbs < 1000000) : Rp 1921 0 (.int i) := ⟨by simp only [PyData.showable]; exact decide_eq_true (log_small h), rfl, Nat.le_refl _, gd_int (log_small h)⟩
theorem rp_bool (b : Bool) : Rp 5 0 (.bool b) := by cases b <;> exact ⟨rfl, rfl, Nat.le_refl _, ⟨by decide +kernel, by decide +kernel⟩⟩
theorem rp_none : Rp 4 0 .none := ⟨rfl, rfl, Nat.le_refl _, ⟨by decide +kernel, by decide +kernel⟩⟩
theorem rp_all {n k : Nat} : ∀ {ds : List D}, (∀ d ∈ ds, Rp n k d) → PyData.showableAll ds = true ∧ PyData.hasDictAll ds = false ∧ PyData.depthAll ds ≤ k
  | [], _ => ⟨rfl, rfl, Nat.zero_le _⟩
  | d :: ds, h => by
    obtain ⟨h1, h2, h3⟩ := rp_all (ds := ds) fun e he => h e (List.mem_cons_of_mem _ he)
    have hd := h d List.mem_cons_self
    have := hd.dp
    exact ⟨by simp only [PyData.showableAll, h1, hd.sh]; rfl, by simp only [PyData.hasDictAll, h2, hd.nd]; rfl, by simp only [PyData.depthAll]; omega⟩
theorem rp_list {n k : Nat} {ds : List D} (h : ∀ d ∈ ds, Rp n k d) : Rp (3 + ds.length * (n + 2)) (k + 1) (.list ds) := by
  obtain ⟨h1, h2, h3⟩ := rp_all h
  exact ⟨by simp only [PyData.showable]; exact h1, by simp only [PyData.hasDict]; exact h2, by simp only [PyData.depth]; omega, (gd_shown_list fun d hd => (h d hd).gd).mono (by omega)⟩
theorem rp_tup {n k : Nat} {ds : List D} (h : ∀ d ∈ ds, Rp n k d) : Rp (3 + ds.length * (n + 2)) (k + 1) (.tuple ds) := by
  obtain ⟨h1, h2, h3⟩ := rp_all h
  exact ⟨by simp only [PyData.showable]; exact h1, by simp only [PyData.hasDict]; exact h2, by simp only [PyData.depth]; omega, gd_shown_tuple fun d hd => (h d hd).gd⟩
end Y
namespace Y
open PySem PySem.Spec PyProof.Rows L2
/-! N3: further rows -/
def parR3 (i j l : Nat) (K : Rho → T Out) (ρ : Rho) : List D → T Out
  | [d, e, f] => K (((ρ.set i (.dt d)).set j (.dt e)).set l (.dt f))
  | _ => .bad
@[simp] theorem parR3_3 {K : Rho → T Out} {d e f : D} : parR3 i j l K ρ [d, e, f] = K (((ρ.set i (.dt d)).set j (.dt e)).set l (.dt f)) := rfl
theorem parS3_eq {fs : Rho → T (List D)} : parS3 i j l fs ρ = atT (fs ρ) (parR3 i j l (fun ρ => .ret (.nx ρ)) ρ) ρ := by
  unfold parS3
  rw [atS_eq]
  congr 1
@[simp] theorem q_par3 {K : Rho → T Out} {fs : Rho → T (List D)} : seqS (parS3 i j l fs) K ρ = atT (fs ρ) (parR3 i j l K ρ) ρ := by
  rw [seqS_nxt, parS3_eq, atT_nxt]
  congr 1
  funext ds
  match ds with
  | [d, e, f] => rfl
  | [] => rfl
  | [_] => rfl
  | [_, _] => rfl
  | _ :: _ :: _ :: _ :: _ => rfl
end Y
namespace Y
open PySem PySem.Spec PyProof.Rows L2
/-! ### N4: the bag of the laws of good books -/
def bagK (a1 : Addr) (st count : Int) : List (Key × V) := [(.inr "far", .ref a1), (.inr "stirred", .int st), (.inr "count", .int count)]
structure BagP where
  p : Addr
  a1 : Addr
  st : Int
structure BagP.Ok (j : BagP) : Prop where
  p1 : j.p ≠ j.a1
  s0 : 0 ≤ j.st
  s1 : j.st < 2 ^ 33
def BagP.holds (j : BagP) (b : Nat) (H : Hp) : Prop := ∃ (far : List Int) (count : Int), H j.p = some (.dK (bagK j.a1 j.st count)) ∧ H j.a1 = some (.lst (far.map .int)) ∧ 0 ≤ count ∧ count + b ≤ 2 ^ 40 ∧ far.length ≤ 100
def BagP.J (j : BagP) : Jr where
  fp b := b = j.p ∨ b = j.a1
  ok b H := j.holds b H
  loc b H H' := by
    rintro ⟨far, count, h1, h2, h4⟩ k
    exact ⟨far, count, by rw [k _ (.inl rfl)]; exact h1, by rw [k _ (.inr rfl)]; exact h2, h4⟩
  O v n := n = 0 ∧ v = .ref j.p
theorem bag_put {a1 : Addr} {s c d : Int} : putK (bagK a1 s c) (.inr "count") (.int d) = bagK a1 s d := rfl
theorem drawB_in {K : PySem.W.Frag} {mg : Str → Option Value} {j : BagP} {vs : List V} {H : Hp} {Q : VK} {E : XK} (h : spD j.J K mg drawF 2 vs H Q E) :
    ∃ (n : Int) (c : Nat), vs = [.ref j.p, .int n] ∧ 0 < n ∧ n < 2 ^ 30 ∧ j.holds (c + 1) H ∧ ∀ r H', 0 ≤ r → r < n → Kp j.J.fp H H' → j.holds c H' → Q (.int r) H' := by
  obtain ⟨hn, G, b, ds, sub, jk, fr, rs, z⟩ := h
  unfold drawF at z
  split at z
  · rename_i d n
    cases rs with
    | cons r1 rs =>
      cases rs with
      | cons r2 rs =>
        cases rs
        cases r2
        split at z
        · rename_i hs
          have := isScr_eq hs
          subst this
          obtain ⟨_, rfl⟩ := opq_is r1
          obtain ⟨c, rfl, n0, n1, z⟩ := z
          exact ⟨n, c, rfl, n0, n1, jk, fun r H' r0 r1 k jc => z r r0 r1 (.int r) G H' (k.post sub fun a ha => (fr a ha).1) jc (.int r)⟩
        · exact z.elim
  · exact z.elim
def bagD (far : List Int) (st : Int) : D := .dict [(.str "far", .list (far.map .int)), (.str "stirred", .int st), (.str "count", .int 0)]
theorem bag_of {O : V → Int → Prop} {K : PySem.W.Frag} {G H : Hp} {v : V} {far : List Int} {st : Int} (sub : ∀ a o, G a = some o → H a = some o) {d : D} (r : RD O K G v d) (e : d = bagD far st) (hf : far.length ≤ 100) (s0 : 0 ≤ st) (s1 : st < 2 ^ 33) :
    ∃ j : BagP, j.Ok ∧ v = .ref j.p ∧ j.holds (2 ^ 40) H := by
  cases r with
  | dct g rk =>
    rename_i p kvs ds
    unfold bagD at e
    simp only [PyData.dict.injEq] at e
    obtain ⟨v1, r1, rfl, h1, k1⟩ := rdk_str rk e
    obtain ⟨v3, r3, rfl, h3, k3⟩ := rdk_str k1 rfl
    obtain ⟨v4, r4, rfl, h4, k4⟩ := rdk_str k3 rfl
    cases k4
    obtain ⟨a1, rfl, g1⟩ := rd_ints h1 rfl
    obtain rfl := rd_int h3 rfl
    obtain rfl := rd_int h4 rfl
    refine ⟨⟨p, a1, st⟩, ⟨fun z => ?_, s0, s1⟩, rfl, far, 0, sub _ _ g, sub _ _ g1, by decide, by decide, hf⟩
    have z : p = a1 := z
    rw [z, g1] at g; cases g
  | opq o => unfold bagD at e; simp [hdl] at e
  | _ => cases e
section
variable {X : Cx} {K : PySem.W.Frag} {mg : Str → Option Value} {E : XK} {Dl : Rho → T Out} {sts : List Stmt}
def tRestB (K : PySem.W.Frag) (mg : Str → Option Value) (E : XK) (Dl : Rho → T Out) : TS := fun Dn σ H => ∃ j : BagP, j.Ok ∧ ∃ G HC, tS (ctOf j.J K mg G HC E) Dl Dn σ H
theorem psB_rest (h : ∀ (j : BagP) (G HC : Hp), j.Ok → PSs X sts (tS (ctOf j.J K mg G HC E) Dl)) : PSs X sts (tRestB K mg E Dl) := ⟨fun pins s σ H D I ⟨j, jo, G, HC, q⟩ => (h j G HC jo).run pins s σ H D I q⟩
theorem restB_ok {N : List Str} {a : Addr} {v : V} {H : Hp} {Q : VK} {nx : L2.St → Hp → Prop} {j : BagP} (jo : j.Ok) (hv : v = .ref j.p) (jh : j.holds (2 ^ 40) H) (hs : ((L2.start N []).set 0 (some (.ref a))).set 1 (some v) = (L2.start N [.ref a]).set 1 (some v))
    (q : ∀ H', Q (.bl true) H') (h : (Dl (rho0 N.length)).sat (2 ^ 40) (fun o _ => o = .rt (.bool true)) fun _ _ => False) :
    tRestB K mg E Dl { nx := nx, rt := Q } ((L2.start N [.ref a]).set 1 (some v)) H := by
  refine ⟨j, jo, fun _ => none, H, fun _ => none, rho0 N.length, 2 ^ 40, ?_, ?_⟩
  · rw [← hs]
    have R0 := rel_ini (C := ctOf j.J K mg (fun _ => none) H E) (b := 2 ^ 40) (N := N) (vs := []) (ds := []) (fun a o e => nomatch e) jh (fun a ha => ⟨rfl, ?_⟩) .nil
    · subst hv
      exact (R0.setU (some (.ref a))).set (.opq ⟨rfl, rfl⟩)
    · obtain ⟨far, count, h1, h2, _⟩ := jh
      show H a ≠ none
      rcases ha with z | z
      · rw [z, h1]; simp
      · rw [z, h2]; simp
  · refine T.sat_mono (fun o c z => ?_) (fun _ _ z => z) h
    subst z
    intro v G' H' P jk r
    cases r
    exact q H'
end
def BagMath (F : List D → T D) : Prop := ∃ far st, F [hdl 0] = .ret (bagD far st) ∧ far.length ≤ 100 ∧ 0 ≤ st ∧ st < 2 ^ 33
/-! ### abs -/
def abs1 : D → T D
  | .int i => .ret (.int (if i < 0 then -i else i))
  | _ => .bad
section
variable {X : Cx} {C : Ct} {σ : L2.St} {G H : Hp} {a b c e : Expr} {es : List Expr} {f g h : Rho → T D} {fs gs : Rho → T (List D)} {pos : Pos} {p : Pos}
theorem c_abs : CallD C (fun xs H Q => ∃ i, xs = [.int i] ∧ Q (.int (if i < 0 then -i else i)) H) (only abs1) := by
  refine one_arg abs1 (fun _ => rfl) rfl (fun _ _ _ => rfl) fun σ G H ρ b v d Q R rv q => ?_
  cases rv with
  | int i => exact ⟨i, rfl, q.retv R (.int _)⟩
  | _ => exact q.bad.elim
theorem pd_abs (hg : Gl X "abs") (hm : X.mg "abs" = none) (ha : PDa X C (e :: es) fs) (hK : X.K = C.K := by rfl) (he : starEach (e :: es) X.env = (false, eval e X.env) :: starEach es X.env := by rfl) (hpl : (backTo pos (starEach es X.env)).any (·.1) = false := by rfl) :
    PD X C (.Call (.Name "abs" p) (e :: es) [] pos) (fun ρ => (fs ρ).bind (only abs1)) := pd_cb call_abs c_abs hg hm (by decide +kernel) ha (by decide) (by decide) he hpl
@[simp] theorem abs_i {i : Int} : abs1 (.int i) = .ret (.int (if i < 0 then -i else i)) := rfl
/-! ### a list, some times -/
def pyRep : D → D → T D
  | .list xs, .int k => ask (0 ≤ k ∧ k < 1000 ∧ xs.length ≤ 1000) (.ret (.list (List.replicate k.toNat xs).flatten))
  | _, _ => .bad
theorem rds_rep {O : V → Int → Prop} {K : PySem.W.Frag} {G : Hp} {xs : List V} {ds : List D} (r : RDs O K G xs ds) : ∀ n : Nat, RDs O K G (List.replicate n xs).flatten (List.replicate n ds).flatten
  | 0 => .nil
  | n + 1 => by
    rw [List.replicate_succ, List.replicate_succ, List.flatten_cons, List.flatten_cons]
    exact r.app (rds_rep r n)
theorem o_rep : Op2 C rRep pyRep := by
  intro σ G H ρ b x y d e Q R rx ry h
  cases rx with
  | lst ea ra =>
    cases ry with
    | int k =>
      obtain ⟨⟨h0, h1, h2⟩, h⟩ := Go.ask h
      refine ⟨_, k, _, rfl, rfl, R.sub _ _ ea, by omega, by omega, ?_, fun p n => ?_⟩
      · rw [ra.len]
        refine Nat.le_trans (Nat.mul_le_mul h2 (by omega : k.toNat ≤ 1000)) (by rw [sizeLine_eq]; decide)
      · exact h.newL R n (rds_rep ra _)
    | _ => exact h.bad.elim
  | _ => cases ry <;> exact h.bad.elim
theorem pd_rep (ha : PD X C a f) (hb : PD X C b g) : PD X C (.BinOp a .Mult b pos) (op2 pyRep f g) := PEto (pe_op op_rep ha hb) (d_op o_rep)
/-! ### a list and another one, as a list of ours -/
def catL : D → D → T (List D)
  | .list xs, .list ys => ask (xs.length + ys.length ≤ sizeLine) (.ret (xs ++ ys))
  | _, _ => .bad
def addL (f g : Rho → T D) (ρ : Rho) : T (List D) := (f ρ).bind fun x => (g ρ).bind fun y => catL x y
theorem t_addL : ∀ σ H Q, tL C (addL f g) σ H Q → tOp (rPlus C.K) (tD C f) (tD C g) σ H Q := by
  rintro σ H Q ⟨G, ρ, b, R, h⟩
  refine ⟨G, ρ, b, R, (Go.bind R h).mono fun d G1 H1 c P j z v rv => ?_⟩
  obtain ⟨R1, z⟩ := z
  refine ⟨G1, ρ, c, R1, (Go.bind R1 z).mono fun e G2 H2 c2 P2 j2 z2 w rw => ?_⟩
  have z := z2.2.mono fun _ _ _ _ _ _ q => q.2.2
  have R2 := z2.1
  have rv := rv.mono P2.gg
  have back : ∀ l, H2 l = none → H l = none := fun l n => by
    cases q : H l with
    | none => rfl
    | some o => exact absurd n (P2.th l (P.th l (by rw [q]; simp)))
  cases rv with
  | lst ea ra =>
    cases rw with
    | lst eb rb =>
      obtain ⟨hz, z⟩ := Go.ask z
      exact .inr (.inr (.inl ⟨_, _, _, _, rfl, rfl, R2.sub _ _ ea, R2.sub _ _ eb, by rw [ra.len, rb.len]; exact hz, fun p n => Go.newO z R2 n (back p n) (ra.app rb)⟩))
    | _ => exact z.bad.elim
  | _ => cases rw <;> exact z.bad.elim
theorem pdL_add (ha : PD X C a f) (hb : PD X C b g) (hK : X.K = C.K := by rfl) : PDL X C (.BinOp a .Add b pos) (addL f g) := PEto (pe_op op_plus ha hb) (by rw [hK]; exact t_addL)
end
end Y
namespace Y
open PySem PySem.Spec PyProof.Rows L2
/-! ### N5: a pair of names, one of which is a cell -/
section
variable {X : Cx} {C : Ct} {σ : L2.St} {G H : Hp} {a b c e : Expr} {es : List Expr} {f g h : Rho → T D} {fs gs : Rho → T (List D)} {pos : Pos} {p : Pos}
theorem s_parDLC {i j : Nat} : ∀ Dn σ H, tS C (parDL i j f gs) Dn σ H → tAsg (tTupP (tCons (tD C f) (tCons (tL C gs) tNil))) (gTup C.K 2 (gCons (gName i) (gCons (gName j) gNil))) Dn σ H := by
  rintro Dn σ H ⟨G, ρ, b, R, h⟩
  refine ⟨G, ρ, b, R, (Go.bind R (S_go R h)).mono fun d G1 H1 c P k z v rv => ?_⟩
  obtain ⟨R1, z⟩ := z
  refine ⟨G1, ρ, c, R1, (Go.bind R1 z).mono fun ds G2 H2 c2 P2 k2 z2 p xs n g2 e2 rs => ?_⟩
  obtain ⟨R2, z2⟩ := z2
  refine ⟨(by show 2 ≤ sizeLine; decide), fun t o nt hc hd => ?_⟩
  have pt : p ≠ t := fun z => by rw [z] at e2; rw [nt] at e2; cases e2
  obtain ⟨_, P3, R3, z3⟩ := z2 G2 (upd H2 t (.frz o (.tup [v, .ref p]))) (.newH R2.sub nt) (C.J.loc c2 H2 _ R2.jar fun a ha => upd_ne fun z => R2.post.th a (R2.jth a ha) (by rw [z]; exact nt))
  have n0 : C.H0 p = none := rel_none R1 n
  refine ⟨t, [v, .ref p], rfl, (SqP.of upd_same hc hd).T, rfl, v, [.ref p], rfl, .ref p, [], rfl, rfl, z3 _ _ _ (Gr.refl _) ?_⟩
  have R2 := R2.step (.newH R2.sub nt) (C.J.loc c2 H2 (upd H2 t (.frz o (.tup [v, .ref p]))) R2.jar fun a ha => upd_ne fun z => R2.post.th a (R2.jth a ha) (by rw [z]; exact nt))
  refine (R2.set (rv.mono P2.gg)).setO g2 n0 (by rw [upd_ne pt]; exact e2) rs fun k es hk q => ?_
  have q' : ρ[k]? = some (S.ow es) := by
    by_cases hki : i = k
    · subst hki
      rw [List.getElem?_set] at q
      simp only [if_true] at q
      split at q <;> cases q
    · rwa [List.getElem?_set_ne hki] at q
  have hki : i ≠ k := fun hki => by
    subst hki
    rw [List.getElem?_set] at q
    simp only [if_true] at q
    split at q <;> cases q
  rw [List.getElem?_set_ne hki]
  exact no_slot R1 n k es q'
theorem pd1_parDLC (i j : Nat) {x y : Str} {a b : Expr} {px py pt : Pos} {kt k2 pt2} (hc : X.calm = true) (hN : X.N.Nodup) (ha : PD X C a f) (hb : PDL X C b gs) (hi : X.N[i]? = some x := by rfl) (hj : X.N[j]? = some y := by rfl)
    (hx : Loc X.env.scope x := by first | exact Or.inl rfl | exact Or.inr rfl) (hy : Loc X.env.scope y := by first | exact Or.inl rfl | exact Or.inr rfl)
    (hfx : X.fn x = true ∨ X.env.scope.names.lookup x = some .local := by first | exact .inl rfl | exact .inr rfl | assumption) (hfy : X.fn y = true ∨ X.env.scope.names.lookup y = some .local := by first | exact .inl rfl | exact .inr rfl | assumption)
    (hn : (assignEach [.Name x px, .Name y py] X.env).length = 2 := by rfl) (hst : (assignEach [.Name x px, .Name y py] X.env).findIdx? (·.1) = none := by rfl)
    (hq1 : (assignEach [.Name x px, .Name y py] X.env).map (·.2) = assign (.Name x px) X.env :: (assignEach [.Name y py] X.env).map (·.2) := by rfl)
    (hq2 : (assignEach [.Name y py] X.env).map (·.2) = assign (.Name y py) X.env :: (assignEach [] X.env).map (·.2) := by rfl)
    (hw : swappedStores [.Tuple [.Name x px, .Name y py] kt pt] (.Tuple [a, b] k2 pt2) X.env = pure none := by rfl)
    (hs : swapsWithSole [.Tuple [.Name x px, .Name y py] kt pt] (.Tuple [a, b] k2 pt2) pos.line X.env = pure false := by rfl)
    (h1 : (assignEach [.Tuple [.Name x px, .Name y py] kt pt] X.env).map (·.2) = [assign (.Tuple [.Name x px, .Name y py] kt pt) X.env] := by rfl)
    (hs1 : starEach [a, b] X.env = (false, eval a X.env) :: starEach [b] X.env := by rfl) (hs2 : starEach [b] X.env = (false, eval b X.env) :: starEach [] X.env := by rfl) (hK : X.K = C.K := by rfl) :
    PD1 X C (.Assign [.Tuple [.Name x px, .Name y py] kt pt] (.Tuple [a, b] k2 pt2) pos) (parDL i j f gs) :=
  PStoD (ps_asg (pe_tupP (pa_cons ha (pa_cons hb pa_nil hs2) hs1)) (pg_tup hc (pgs_cons (pg_name hN hi hx hfx) (pgs_cons (pg_name hN hj hy hfy) pgs_nil hq2) hq1) hn hst) hs hw h1) (by rw [hK]; exact s_parDLC)
end
end Y
namespace Y
open PySem PySem.Spec PyProof.Rows L2
/-! ### N6: while, with a bound on its turns -/
def whileL (t : Rho → T Bool) (F : Rho → T Out) : Nat → Rho → T Out
  | 0 => fun _ => .bad
  | n + 1 => atS t fun ρ k => if k then (F ρ).bind fun
      | .nx ρ2 => whileL t F n ρ2
      | .ct ρ2 => whileL t F n ρ2
      | .bk ρ2 => .ret (.nx ρ2)
      | .rt d => .ret (.rt d)
      | .xc ev ρ2 => .ret (.xc ev ρ2) else .ret (.nx ρ)
section
variable {X : Cx} {C : Ct} {pos : Pos}
theorem s_while {t : Rho → T Bool} {F : Rho → T Out} {n : Nat} : ∀ Dn σ H, tS C (whileL t F n) Dn σ H → tWhile (tT C t) (tS C F) Dn σ H := by
  rintro Dn σ H ⟨G, ρ, b, R, h⟩
  refine ⟨fun m σ H => ∃ G ρ b, Rel C G H ρ σ b ∧ Ok C Dn G (whileL t F m ρ) b, ⟨n, G, ρ, b, R, h⟩, ?_⟩
  rintro m σ2 H2 ⟨G2, ρ2, b2, R2, o2⟩
  cases m with
  | zero => exact o2.elim
  | succ m =>
    refine ⟨G2, ρ2, b2, R2, (S_go R2 o2).mono fun k G1 H1 c P j z => ?_⟩
    cases k with
    | true =>
      rw [if_pos rfl]
      refine ⟨fun σ' H' => ∃ G ρ b, Rel C G H' ρ σ' b ∧ Ok C Dn G (whileL t F m ρ) b, fun σ' H' q => ⟨m, by omega, q⟩, ?_⟩
      have z2 := z.2
      rw [if_pos rfl] at z2
      refine ⟨G1, ρ2, c, z.1, T.sat_mono (fun o c z => ?_) (fun _ _ z => z) (T.sat_bind z2)⟩
      cases o with
      | nx ρ4 => exact fun σ4 G4 H4 g4 R4 => ⟨G4, ρ4, _, R4, Ok.up g4 z⟩
      | ct ρ4 => exact fun σ4 G4 H4 g4 R4 => ⟨G4, ρ4, _, R4, Ok.up g4 z⟩
      | bk ρ4 => exact fun σ4 G4 H4 g4 R4 => z σ4 G4 H4 g4 R4
      | rt d => exact z
      | xc ev ρ4 => exact z
    | false =>
      rw [if_neg (by decide)]
      have z2 := z.2
      rw [if_neg (by decide)] at z2
      exact z2 _ _ _ (Gr.refl _) z.1
theorem pd1_while {c : Expr} {body : List Stmt} {t : Rho → T Bool} {Fa : Rho → T Out} (n : Nat) (hp : PassesOwn (model X.prog X.w) X.A X.env X.xe) (hc : PDt X C c t) (hb : PDs X C body Fa) : PD1 X C (.While c body [] pos) (whileL t Fa n) := PStoD (ps_while hp hc hb) s_while
end
/-! ### a list of ours is looked at and stays ours -/
theorem Post.undo {fp : Addr → Prop} {G G1 H H1 G' : Hp} (g : Gr G G') (P : Post fp G' H G1 H1) : Post fp G H G H1 :=
  ⟨fun _ _ e => e, fun a o e => P.sub a o (P.gg a o (g a o e)), P.hh, P.th, fun _ e => .inl e⟩
section
variable {X : Cx} {C : Ct} {pos : Pos}
def pkT (i : Nat) (t : Rho → T Bool) (ρ : Rho) : T Bool := noexc (t (frz i ρ))
theorem t_peek {i : Nat} {t : Rho → T Bool} : ∀ σ H Q, tT C (pkT i t) σ H Q → tT C t σ H Q := by
  rintro σ H Q ⟨G, ρ, b, R, h⟩
  obtain ⟨G', g, R'⟩ := R.frz i
  exact ⟨G', frz i ρ, b, R', T.sat_mono (fun d c q G1 H1 P j => q G H1 (P.undo g) j) (fun ev c q => q.elim) (sat_noexc h)⟩
theorem pt_peek (i : Nat) {c : Expr} {t : Rho → T Bool} (h : PDt X C c t) : PDt X C c (pkT i t) := PTto h t_peek
/-- what holds no object -/
def flat : D → T D
  | .int n => .ret (.int n)
  | .bool k => .ret (.bool k)
  | .str x => .ret (.str x)
  | .none => .ret .none
  | _ => .bad
def pkD (i : Nat) (f : Rho → T D) (ρ : Rho) : T D := (noexc (f (frz i ρ))).bind flat
theorem rd_flat {O : V → Int → Prop} {K : PySem.W.Frag} {G G' : Hp} {v : V} {d : D} (r : RD O K G v d) (h : flat d = .ret d) : RD O K G' v d := by
  cases r with
  | int i => exact .int i
  | bl k => exact .bl k
  | str x => exact .str x
  | non => exact .non
  | _ => cases h
theorem t_peekD {i : Nat} {f : Rho → T D} : ∀ σ H Q, tD C (pkD i f) σ H Q → tD C f σ H Q := by
  rintro σ H Q ⟨G, ρ, b, R, h⟩
  obtain ⟨G', g, R'⟩ := R.frz i
  refine ⟨G', frz i ρ, b, R', T.sat_mono (fun d c q G1 H1 P j v rv => ?_) (fun ev c q => q.elim) (sat_noexc (T.sat_mono (fun _ _ z => z) (fun _ _ z => z) (T.sat_bind h)))⟩
  have hf : flat d = .ret d ∨ flat d = .bad := by cases d <;> first | exact .inl rfl | exact .inr rfl
  rcases hf with hf | hf
  · rw [hf] at q
    exact q G H1 (P.undo g) j v (rd_flat rv hf)
  · rw [hf] at q
    exact q.elim
theorem pd_peek (i : Nat) {e : Expr} {f : Rho → T D} (h : PD X C e f) : PD X C e (pkD i f) := PEto h t_peekD
/-! ### ys.append(xs.pop(k)), of two lists of ours -/
def popAppS (i j : Nat) (f : Rho → T D) : Rho → T Out := atS f fun ρ d => match d, ρ[i]?, ρ[j]? with
  | .int k, some (.ow ds), some (.ow es) => ask (0 ≤ k ∧ k < 1000000 ∧ es.length < sizeLine) (match ds[k.toNat]? with
    | some x => .ret (.nx ((ρ.set i (.ow (ds.eraseIdx k.toNat))).set j (.ow (es ++ [x]))))
    | none => .bad)
  | _, _, _ => .bad
theorem rds_erase {O : V → Int → Prop} {K : PySem.W.Frag} {G : Hp} : ∀ {xs : List V} {ds : List D}, RDs O K G xs ds → ∀ k : Nat, RDs O K G (xs.eraseIdx k) (ds.eraseIdx k)
  | _, _, .nil, _ => .nil
  | _, _, .cons r rs, 0 => rs
  | _, _, .cons r rs, k + 1 => .cons r (rds_erase rs k)
theorem s_popApp {i j : Nat} (hij : i ≠ j) {f : Rho → T D} : ∀ Dn σ H, tS C (fun ρ => match ρ[i]?, ρ[j]? with | some (.ow _), some (.ow _) => popAppS i j f ρ | _, _ => .bad) Dn σ H → tDrop (tBM C.K "list" rAppend (tVar j) (tCons (tBM C.K "list" rPopAt (tVar i) (tCons (tD C f) tNil)) tNil)) Dn σ H := by
  rintro Dn σ H ⟨G, ρ, b, R, h⟩
  dsimp only at h
  split at h
  · rename_i ds es ei ej
    obtain ⟨p, xs, h1, _, _, h4, _⟩ := R.own_at ei
    obtain ⟨q, ys, g1, _, _, g4, _⟩ := R.own_at ej
    refine ⟨_, g1, .inl ⟨rfl, ys, SqL.of g4⟩, _, h1, .inl ⟨rfl, xs, SqL.of h4⟩, G, ρ, b, R, (S_go R h).mono fun d G1 H1 c P k z v r => ?_⟩
    obtain ⟨R1, z⟩ := z
    obtain ⟨p', xs', q1, _, _, q4, q5⟩ := R1.own_at ei
    rw [h1] at q1
    cases q1
    cases r with
    | int n =>
      rw [ei, ej] at z
      unfold Ok ask at z
      dsimp only at z
      split at z
      · rename_i hz
        obtain ⟨z0, z1, z2⟩ := hz
        cases ek : ds[n.toNat]? with
        | none => rw [ek] at z; exact z.elim
        | some x =>
          rw [ek] at z
          obtain ⟨y, hy, ry⟩ := q5.get ek
          have hlt := (List.getElem?_eq_some_iff.mp hy).1
          have R2 := R1.mut ei h1 (rds_erase q5 n.toNat)
          have ej2 : (ρ.set i (.ow (ds.eraseIdx n.toNat)))[j]? = some (.ow es) := by rw [List.getElem?_set_ne hij]; exact ej
          obtain ⟨q', ys', w1, _, _, w4, w5⟩ := R2.own_at ej2
          rw [g1] at w1
          cases w1
          refine ⟨p, xs', n, n.toNat, y, rfl, rfl, q4, by omega, by omega, ?_, hy, ?_⟩
          · unfold seqIndex?
            simp
            omega
          · exact ⟨q, ys', y, rfl, rfl, w4, by rw [w5.len]; exact z2, z _ _ _ (Gr.refl _) (R2.mut ej2 g1 (w5.app (.one ry)))⟩
      · exact z.elim
    | _ => exact z.elim
  · exact h.elim
def own2S (i j : Nat) (F : Rho → T Out) (ρ : Rho) : T Out := match ρ[i]?, ρ[j]? with | some (.ow _), some (.ow _) => F ρ | _, _ => .bad
theorem pd1_popApp (i j : Nat) {x y : Str} {e : Expr} {f : Rho → T D} {p1 p2 apos cpos apos2 cpos2 : Pos} (he : PD X C e f) (hij : i ≠ j := by decide) (hi : X.N[i]? = some x := by rfl) (hj : X.N[j]? = some y := by rfl)
    (hvx : Vis X.env.scope x := by first | exact Or.inl rfl | exact Or.inr (Or.inl rfl) | exact Or.inr (Or.inr rfl)) (hdx : (x == ("__debug__" : Str)) = false := by decide) (hcx : (x == ("__classdict__" : Str)) = false := by decide)
    (hvy : Vis X.env.scope y := by first | exact Or.inl rfl | exact Or.inr (Or.inl rfl) | exact Or.inr (Or.inr rfl)) (hdy : (y == ("__debug__" : Str)) = false := by decide) (hcy : (y == ("__classdict__" : Str)) = false := by decide)
    (hbase2 : attributeBase (.Name x p2) "pop" X.env (eval (.Name x p2) X.env) = eval (.Name x p2) X.env := by rfl)
    (hfew2 : ((backTo cpos2 (starEach [e] X.env)).all (fun x => !x.1) && (backToKw cpos2 (keywordEach [] X.env)).all (fun x => x.1.isSome)
      && decide ([e].length + ([] : List Keyword).length + (if ([] : List Keyword).isEmpty then 0 else 1) < 30)) = true := by rfl)
    (hline2 : (apos2.endLine == cpos2.line) = true := by rfl) (hs2 : starEach [e] X.env = (false, eval e X.env) :: starEach [] X.env := by rfl) (hplain2 : (backTo cpos2 (starEach [] X.env)).any (·.1) = false := by rfl)
    (hbase : attributeBase (.Name y p1) "append" X.env (eval (.Name y p1) X.env) = eval (.Name y p1) X.env := by rfl)
    (hfew : ((backTo cpos (starEach [.Call (.Attribute (.Name x p2) "pop" apos2) [e] [] cpos2] X.env)).all (fun x => !x.1) && (backToKw cpos (keywordEach [] X.env)).all (fun x => x.1.isSome)
      && decide ([Expr.Call (.Attribute (.Name x p2) "pop" apos2) [e] [] cpos2].length + ([] : List Keyword).length + (if ([] : List Keyword).isEmpty then 0 else 1) < 30)) = true := by rfl)
    (hline : (apos.endLine == cpos.line) = true := by rfl) (hs : starEach [.Call (.Attribute (.Name x p2) "pop" apos2) [e] [] cpos2] X.env = (false, eval (.Call (.Attribute (.Name x p2) "pop" apos2) [e] [] cpos2) X.env) :: starEach [] X.env := by rfl) (hplain : (backTo cpos (starEach [] X.env)).any (·.1) = false := by rfl)
    (hsw : swapsWith (.Call (.Attribute (.Name y p1) "append" apos) [.Call (.Attribute (.Name x p2) "pop" apos2) [e] [] cpos2] [] cpos) none pos.line X.env = pure false := by rfl) (hK : X.K = C.K := by rfl) :
    PD1 X C (.Expr (.Call (.Attribute (.Name y p1) "append" apos) [.Call (.Attribute (.Name x p2) "pop" apos2) [e] [] cpos2] [] cpos) pos) (own2S i j (popAppS i j f)) := by
  have := ps_expr (pos := pos) (pe_bm PySem.F.plainAttrs_list PySem.F.slot_list_append PySem.F.type_list_append mt_append (pv j hj hvy hdy hcy) (pa_cons (pe_bm PySem.F.plainAttrs_list PySem.F.slot_list_pop PySem.F.type_list_pop mt_popAt (pv i hi hvx hdx hcx) (pa_cons he pa_nil hs2) hbase2 hfew2 hline2 hs2 hplain2) pa_nil hs) hbase hfew hline hs hplain) hsw
  rw [hK] at this
  exact PStoD this (s_popApp hij)
end
end Y
namespace Y
open PySem PySem.Spec PyProof.Rows L2
/-! ### order: min, sorted, of data that are alike -/
def alikeL (ds : List D) : Bool := ds.all fun d => ds.all fun e => PySem.W.alike d e
def noNone : D → Bool
  | .none => false
  | _ => true
def isTupC : D → Bool
  | .tuple (_ :: _) => true
  | _ => false
def isOther : D → Bool
  | .none => false
  | .tuple _ => false
  | _ => true
def sortB (ds : List D) : Bool := ds.all isTupC || ds.all isOther
theorem alikeL_ok {ds : List D} (h : alikeL ds = true) : ∀ x ∈ ds, ∀ y ∈ ds, PySem.W.alike x y = true := by
  intro x hx y hy
  unfold alikeL at h
  rw [List.all_eq_true] at h
  have := h x hx
  rw [List.all_eq_true] at this
  exact this y hy
theorem sortB_ok {ds : List D} (h : sortB ds = true) : PySem.W.Sortable ds := by
  unfold sortB at h
  rw [Bool.or_eq_true, List.all_eq_true, List.all_eq_true] at h
  rcases h with h | h
  · refine .inl fun d hd => ?_
    have := h d hd
    unfold isTupC at this
    split at this
    · exact ⟨_, _, rfl⟩
    · cases this
  · refine .inr fun d hd => ?_
    have := h d hd
    unfold isOther at this
    split at this
    · cases this
    · cases this
    · rename_i a b
      exact ⟨a, b⟩
theorem plain_alike : ∀ {d : D}, PySem.W.alike d d = true → PyData.plain d = true := by
  intro d h
  have key : ∀ n, ∀ d : D, sizeOf d ≤ n → PySem.W.alike d d = true → PyData.plain d = true := by
    intro n
    induction n with
    | zero => intro d hd; cases d <;> simp at hd <;> omega
    | succ n ih =>
      have all : ∀ xs : List D, sizeOf xs ≤ n → PySem.W.alikeAll xs xs = true → PyData.plainAll xs = true := by
        intro xs
        induction xs with
        | nil => intros; rfl
        | cons x xs ihx =>
          intro hs ha
          have h2 := PySem.W.alike_all_cons ha
          simp only [List.cons.sizeOf_spec] at hs
          unfold PyData.plainAll
          rw [ih x (by omega) h2.1, ihx (by omega) h2.2]
          rfl
      intro d hd ha
      cases d with
      | list xs =>
        unfold PyData.plain
        exact all xs (by simp at hd; omega) (by simpa [PySem.W.alike] using ha)
      | tuple xs =>
        unfold PyData.plain
        exact all xs (by simp at hd; omega) (by simpa [PySem.W.alike] using ha)
      | dict xs => simp [PySem.W.alike] at ha
      | _ => rfl
  exact key _ d (Nat.le_refl _) h
section
variable {X : Cx} {C : Ct}
theorem dps_at {K : PySem.W.Frag} {H : Hp} : ∀ {xs : List V} {ds : List D} {i : Nat} {x : V}, DpAll K H xs ds → xs[i]? = some x → ∃ d, ds[i]? = some d ∧ Dp K H x d
  | _, _, _, _, .nil, e => by simp at e
  | _, _, 0, _, .cons r _, e => by simp at e; subst e; exact ⟨_, rfl, r⟩
  | _, _, i + 1, x, .cons _ t, e => by
    obtain ⟨d, h1, h2⟩ := dps_at (i := i) (x := x) t (by simpa using e)
    exact ⟨d, by simpa using h1, h2⟩
theorem vals_at {xs : List V} {us : List Value} (r : Vals xs us) {i : Nat} {u : Value} (h : us[i]? = some u) : ∃ x, xs[i]? = some x ∧ RelV x u := by
  induction r generalizing i with
  | nil => simp at h
  | cons r1 t ih =>
    cases i with
    | zero => simp at h; subst h; exact ⟨_, rfl, r1⟩
    | succ i => 
      obtain ⟨x, h1, h2⟩ := ih (i := i) (by simpa using h)
      exact ⟨x, by simpa using h1, h2⟩
/-- min(xs), xs a list -/
def rMinD (K : PySem.W.Frag) : List V → Hp → VK → Prop := fun vs H Q => ∃ (a : Addr) (xs : List V) (d : D) (ds : List D), vs = [V.ref a] ∧ SqL K H a xs ∧ DpAll K H xs (d :: ds) ∧ PySem.W.AlikeAll (d :: ds) ∧ PyData.depthAll (d :: ds) ≤ 50 ∧
  ∀ (i : Nat) v, xs[i]? = some v → (d :: ds)[i]? = some (PySem.W.minD d ds) → Q v H
theorem min_pick {H : Hp} {s : Shared} {pins : List (Addr × Obj)} {σ : L2.St} {xs : List V} {its : List Value} {ds : List D} {m : D} {i : Nat} {v : Value} {h' : Heap} {bs : List Addr} (I : Inv X pins σ H s) (hd : DpAll X.K H xs ds) (rv : Vals xs its)
    (al : ∀ x ∈ ds, ∀ y ∈ ds, PySem.W.alike x y = true) (hi : its.toArray[i]? = some v) (rd : Reads h' v m bs) (hk : ∀ b o, s.heap.get? b = some o → h'.get? b = some o) :
    ∃ x, xs[i]? = some x ∧ RelV x v ∧ ds[i]? = some m := by
  have hi' : its[i]? = some v := by simpa using hi
  obtain ⟨x, hx, rx⟩ := vals_at rv hi'
  obtain ⟨d, hdi, dx⟩ := dps_at hd hx
  obtain ⟨as, r1⟩ := Dp.reads I d x v dx rx
  have r2 := PyProof.Rows.Reads.keeps (fun b o e => hk b o e) r1
  have hm : d ∈ ds := List.mem_of_getElem? hdi
  have e := PySem.SeqAt.plain_unique d m v _ _ (plain_alike (al d hm d hm)) r2 rd
  subst e
  exact ⟨x, hx, rx, hdi⟩
theorem cr_minD (hc : X.calm = true) (hu : X.A.units + 64 < cLine) : CallR X (.builtin "min") (rMinD X.K) := by
  intro pins s σ H vs us Q I r h
  obtain ⟨a, xs, d, ds, rfl, hs, hd, ha, hz, q⟩ := h
  obtain ⟨its, rv, hl, _⟩ := I.list hs
  rw [Vals.ref1 r]
  obtain ⟨as, rs⟩ := Dp.readsAll I _ _ _ hd rv
  refine PySem.W.min_list_data (I.ok.hd hc) hl.isList (by simpa using rs) ha (by omega) fun i v h' tk bs hi rd hk => ?_
  obtain ⟨x, hx, rx, hdi⟩ := min_pick I hd rv ha.1 hi rd hk
  exact ⟨x, H, I.kept hk, rx, q i x hx hdi⟩
theorem RDs.at' {O : V → Int → Prop} {K : PySem.W.Frag} {G : Hp} : ∀ {xs : List V} {ds : List D} {i : Nat} {x : V} {d : D}, RDs O K G xs ds → xs[i]? = some x → ds[i]? = some d → RD O K G x d
  | _, _, _, _, _, .nil, e, _ => by simp at e
  | _, _, 0, _, _, .cons r _, e, f => by simp at e f; subst e f; exact r
  | _, _, i + 1, x, d, .cons _ t, e, f => RDs.at' (i := i) t (by simpa using e) (by simpa using f)
def minL (ds : List D) : T D := match ds with
  | [] => .bad
  | d :: ds => ask (alikeL (d :: ds) = true ∧ (d :: ds).all noNone = true ∧ PyData.hasDictAll (d :: ds) = false ∧ PyData.depthAll (d :: ds) ≤ 50) (.ret (PySem.W.minD d ds))
def min1 : D → T D
  | .list ds => minL ds
  | _ => .bad
theorem noNone_ok {d : D} (h : noNone d = true) : d ≠ .none := by rintro rfl; cases h
theorem c_minD : CallD C (rMinD C.K) (only min1) := by
  refine one_arg min1 (fun _ => rfl) rfl (fun _ _ _ => rfl) fun σ G H ρ b v d Q R rv q => ?_
  cases rv with
  | lst e r =>
    rename_i a xs ds
    cases r with
    | nil => exact q.bad.elim
    | cons r1 r2 =>
      rename_i x xs d ds
      obtain ⟨⟨h1, h2, h3, h4⟩, q⟩ := Go.ask (show Go C σ G H ρ b (ask _ _) _ from q)
      refine ⟨a, _, d, ds, rfl, SqL.of (R.sub _ _ e), dps_mono R.sub (dpns_of (.cons r1 r2) h3), ⟨alikeL_ok h1, fun z hz => noNone_ok (List.all_eq_true.mp h2 z hz)⟩, h4, fun i v hx hd => ?_⟩
      exact q.retv R (RDs.at' (.cons r1 r2) hx hd)
  | _ => exact q.bad.elim
theorem pd_min {e : Expr} {es : List Expr} {fs : Rho → T (List D)} {p pos : Pos} (hc : X.calm = true) (hu : X.A.units + 64 < cLine) (hg : Gl X "min") (hm : X.mg "min" = none) (ha : PDa X C (e :: es) fs) (hK : X.K = C.K := by rfl) (he : starEach (e :: es) X.env = (false, eval e X.env) :: starEach es X.env := by rfl) (hpl : (backTo pos (starEach es X.env)).any (·.1) = false := by rfl) :
    PD X C (.Call (.Name "min" p) (e :: es) [] pos) (fun ρ => (fs ρ).bind (only min1)) := pd_cb (cr_minD hc hu) (by rw [hK]; exact c_minD) hg hm (by decide +kernel) ha (by decide) (by decide) he hpl
/-- min(i, j) -/
def min2 : List D → T D
  | [.int i, .int j] => .ret (.int (if j < i then j else i))
  | _ => .bad
theorem c_min2 : CallD C (fun xs H Q => ∃ i j, xs = [.int i, .int j] ∧ Q (.int (if j < i then j else i)) H) min2 := by
  intro σ G H ρ b vs ds Q R rs q
  match rs with
  | .nil => exact q.bad.elim
  | .cons r1 .nil => cases r1 <;> exact q.bad.elim
  | .cons r1 (.cons r2 (.cons _ _)) => cases r1 <;> cases r2 <;> exact q.bad.elim
  | .cons r1 (.cons r2 .nil) =>
    cases r1 with
    | int i =>
      cases r2 with
      | int j => exact ⟨i, j, rfl, q.retv R (.int _)⟩
      | _ => exact q.bad.elim
    | _ => cases r2 <;> exact q.bad.elim
theorem pd_min2 {e : Expr} {es : List Expr} {fs : Rho → T (List D)} {p pos : Pos} (hc : X.calm = true) (hg : Gl X "min") (hm : X.mg "min" = none) (ha : PDa X C (e :: es) fs) (he : starEach (e :: es) X.env = (false, eval e X.env) :: starEach es X.env := by rfl) (hpl : (backTo pos (starEach es X.env)).any (·.1) = false := by rfl) :
    PD X C (.Call (.Name "min" p) (e :: es) [] pos) (fun ρ => (fs ρ).bind min2) := pd_cb (call_min2 hc) c_min2 hg hm (by decide +kernel) ha (by decide) (by decide) he hpl
/-- max(i, j) -/
def max2 : List D → T D
  | [.int i, .int j] => .ret (.int (if j > i then j else i))
  | _ => .bad
theorem c_max2 : CallD C (fun xs H Q => ∃ i j, xs = [.int i, .int j] ∧ Q (.int (if j > i then j else i)) H) max2 := by
  intro σ G H ρ b vs ds Q R rs q
  match rs with
  | .nil => exact q.bad.elim
  | .cons r1 .nil => cases r1 <;> exact q.bad.elim
  | .cons r1 (.cons r2 (.cons _ _)) => cases r1 <;> cases r2 <;> exact q.bad.elim
  | .cons r1 (.cons r2 .nil) =>
    cases r1 with
    | int i =>
      cases r2 with
      | int j => exact ⟨i, j, rfl, q.retv R (.int _)⟩
      | _ => exact q.bad.elim
    | _ => cases r2 <;> exact q.bad.elim
theorem pd_max2 {e : Expr} {es : List Expr} {fs : Rho → T (List D)} {p pos : Pos} (hc : X.calm = true) (hg : Gl X "max") (hm : X.mg "max" = none) (ha : PDa X C (e :: es) fs) (he : starEach (e :: es) X.env = (false, eval e X.env) :: starEach es X.env := by rfl) (hpl : (backTo pos (starEach es X.env)).any (·.1) = false := by rfl) :
    PD X C (.Call (.Name "max" p) (e :: es) [] pos) (fun ρ => (fs ρ).bind max2) := pd_cb (call_max2 hc) c_max2 hg hm (by decide +kernel) ha (by decide) (by decide) he hpl
/-- sum(xs) of a list of numbers -/
def intsOf : List D → Option (List Int)
  | [] => some []
  | .int i :: ds => (intsOf ds).map (i :: ·)
  | _ :: _ => none
def sum1 : D → T D
  | .list ds => match intsOf ds with
    | some ns => .ret (.int ns.sum)
    | none => .bad
  | _ => .bad
theorem rds_intsO {O : V → Int → Prop} {K : PySem.W.Frag} {G : Hp} : ∀ {xs : List V} {ds : List D} {ns : List Int}, RDs O K G xs ds → intsOf ds = some ns → xs = ns.map V.int
  | _, _, _, .nil, e => by simp only [intsOf] at e; cases e; rfl
  | _, _, ns, .cons r t, e => by
    cases r with
    | int i =>
      rename_i ds
      simp only [intsOf] at e
      cases h : intsOf ds with
      | none => rw [h] at e; cases e
      | some ms =>
        rw [h] at e
        cases e
        rw [rds_intsO t h]
        rfl
    | rng _ => simp only [intsOf, rgD] at e; cases e
    | _ => simp only [intsOf, hdl] at e; cases e
theorem c_sum : CallD C (rSum C.K) (only sum1) := by
  refine one_arg sum1 (fun _ => rfl) rfl (fun _ _ _ => rfl) fun σ G H ρ b v d Q R rv q => ?_
  cases rv with
  | lst e r =>
    rename_i a xs ds
    unfold sum1 at q
    cases h : intsOf ds with
    | none => simp only [h] at q; exact q.bad.elim
    | some ns =>
      simp only [h] at q
      have := rds_intsO r h
      subst this
      exact ⟨a, ns, rfl, SqL.of (R.sub _ _ e), q.retv R (.int _)⟩
  | _ => exact q.bad.elim
theorem pd_sum {e : Expr} {es : List Expr} {fs : Rho → T (List D)} {p pos : Pos} (hc : X.calm = true) (hg : Gl X "sum") (hm : X.mg "sum" = none) (ha : PDa X C (e :: es) fs) (hK : X.K = C.K := by rfl) (he : starEach (e :: es) X.env = (false, eval e X.env) :: starEach es X.env := by rfl) (hpl : (backTo pos (starEach es X.env)).any (·.1) = false := by rfl) :
    PD X C (.Call (.Name "sum" p) (e :: es) [] pos) (fun ρ => (fs ρ).bind (only sum1)) := pd_cb (cr_sum hc) (by rw [hK]; exact c_sum) hg hm (by decide +kernel) ha (by decide) (by decide) he hpl

/-! sorted -/
abbrev EachI {α β : Type} (R : α → β → Prop) (xs : List α) (ys : List β) : Prop := PySem.W.EachIs R xs ys
def rSortedD (K : PySem.W.Frag) : List V → Hp → VK → Prop := fun vs H Q => ∃ (a : Addr) (xs : List V) (ds : List D) (M : V → D → Prop), vs = [V.ref a] ∧ SqL K H a xs ∧ EachI M xs ds ∧ (∀ x d, M x d → d ∈ ds → Dp K H x d) ∧ (∀ x ∈ ds, ∀ y ∈ ds, PySem.W.alike x y = true) ∧ PySem.W.Sortable ds ∧ (∀ d ∈ ds, d.depth ≤ 50) ∧
  ∀ p ys, EachI M ys (ds.mergeSort (PySem.W.dataLe false id)) → H p = none → Q (.ref p) (upd H p (.lst ys))
theorem each_vals {M : V → D → Prop} : ∀ {xs : List V} {us : List Value} {ds : List D}, Vals xs us → EachI M xs ds → EachI (fun u d => ∃ x, RelV x u ∧ M x d) us ds
  | _, _, _, .nil, .nil => .nil
  | _, _, _, .cons r t, .cons m e => .cons ⟨_, r, m⟩ (each_vals t e)
theorem vals_each {M : V → D → Prop} : ∀ {us : List Value} {ds : List D}, EachI (fun u d => ∃ x, RelV x u ∧ M x d) us ds → ∃ ys, Vals ys us ∧ EachI M ys ds
  | _, _, .nil => ⟨[], .nil, .nil⟩
  | _, _, .cons ⟨x, r, m⟩ t => by
    obtain ⟨ys, h1, h2⟩ := vals_each t
    exact ⟨x :: ys, .cons r h1, .cons m h2⟩
theorem each_len {α β : Type} {R : α → β → Prop} : ∀ {xs : List α} {ys : List β}, EachI R xs ys → xs.length = ys.length
  | _, _, .nil => rfl
  | _, _, .cons _ t => by rw [List.length_cons, List.length_cons, each_len t]
theorem cr_sortedD (hu : X.A.units + 64 < cLine) : CallR X (.builtin "sorted") (rSortedD X.K) := by
  intro pins s σ H vs us Q I r h
  obtain ⟨a, xs, ds, M, rfl, hs, hm, hd, ha, hk, hz, q⟩ := h
  obtain ⟨its, rv, hl, hz2⟩ := I.list hs
  rw [Vals.ref1 r]
  have e1 := each_vals rv hm
  have hlen : ds.length = its.length := by rw [← each_len e1]
  have hL : ds.length ≤ sizeLine := by rw [hlen, ← rv.length]; exact hz2
  refine PySem.W.sorted_data (enc := id) hl.isList e1 ?_ (by rw [List.map_id]; exact fun d h1 d' h2 => ha d h1 d' h2) (by rw [List.map_id]; exact hk) hL (fun d h => by have := hz d h; simp only [id]; omega) fun out h1 h2 => ?_
  · refine (PySem.W.each_mem e1).mono fun u d h => ?_
    obtain ⟨⟨x, rx, mx⟩, hmem⟩ := h
    obtain ⟨as, rd⟩ := Dp.reads I d x u (hd x d mx hmem) rx
    exact ⟨as, rd⟩
  · obtain ⟨ys, v1, v2⟩ := vals_each h2
    obtain ⟨ep, he'⟩ := PyProof.Rows.sortedAll_at s.heap its (List.toArray out)
    have hlen2 : ys.length ≤ sizeLine := by rw [v1.length, h1]; exact hL
    exact ⟨.ref _, upd H (s.heap.objs.size + 1) (.lst ys), I.laid (t' := s.toks) (fun _ _ => PyProof.Rows.sortedAll_old) (Nat.le_succ _) ⟨hlen2, out, ep, v1, he'⟩, rfl, q _ _ v2 (I.hok.fresh (Nat.le_succ _))⟩
def sortL (ds : List D) : List D := ds.mergeSort (PySem.W.dataLe false id)
def sorted1 : D → T D
  | .list ds => ask (alikeL ds = true ∧ sortB ds = true ∧ PyData.hasDictAll ds = false ∧ PyData.depthAll ds ≤ 50) (.ret (.list (sortL ds)))
  | .tuple ds => ask (alikeL ds = true ∧ sortB ds = true ∧ PyData.hasDictAll ds = false ∧ PyData.depthAll ds ≤ 50) (.ret (.list (sortL ds)))
  | _ => .bad
theorem each_rds {O : V → Int → Prop} {K : PySem.W.Frag} {G : Hp} : ∀ {xs : List V} {ds : List D}, RDs O K G xs ds → EachI (RD O K G) xs ds
  | _, _, .nil => .nil
  | _, _, .cons r t => .cons r (each_rds t)
theorem rds_each {O : V → Int → Prop} {K : PySem.W.Frag} {G : Hp} : ∀ {xs : List V} {ds : List D}, EachI (RD O K G) xs ds → RDs O K G xs ds
  | _, _, .nil => .nil
  | _, _, .cons r t => .cons r (rds_each t)
theorem depth_mem : ∀ {ds : List D} {d : D}, d ∈ ds → d.depth ≤ PyData.depthAll ds
  | x :: xs, d, h => by
    rw [PyData.depthAll]
    rcases List.mem_cons.mp h with rfl | h
    · exact Nat.le_max_left _ _
    · exact Nat.le_trans (depth_mem h) (Nat.le_max_right _ _)
theorem hasDict_mem : ∀ {ds : List D} {d : D}, PyData.hasDictAll ds = false → d ∈ ds → d.hasDict = false
  | x :: xs, d, e, h => by
    simp only [PyData.hasDictAll, Bool.or_eq_false_iff] at e
    rcases List.mem_cons.mp h with rfl | h
    · exact e.1
    · exact hasDict_mem e.2 h

/-- a tuple's items, as sorted collects them -/
theorem collectT {prog : Program} {w : World} {A : Around} {E : Value → Shared → Prop} {s : Shared} {l : Addr} {vs : List Value} {Q : List Value → Shared → Prop}
    (hl : s.heap.IsTuple l vs.toArray) (hz : vs.length ≤ sizeLine)
    (h : Q vs { s with heap := (s.heap.push (seqObj "list" #[] 0)).update s.heap.objs.size (Obj.mapSeq (· ++ vs.toArray)) }) :
    wpAny (model prog w) A (PySem.collect (.ref l)) Q E s := by
  obtain ⟨o, ho, hc, n, hd⟩ := id hl
  have ho' : (s.heap.push (seqObj "list" #[] 0)).get? l = some o := Heap.get?_push_of_some _ ho
  unfold PySem.collect
  refine wpAny_bind (wpAny_runValue
    (codeAny_builtin entry_proto_collect' ?_))
  show wpAny _ _ (do
    again (.builtin "list.__iadd__" ⟨[← newList [], .ref l], []⟩)) _ _ s
  refine wpAny_bind (wpAny_newList
    (wpAny_pure ⟨Code.quiet_builtin _ (by decide +kernel), codeAny_builtin entry_list_iadd' ?_⟩))
  show wpAny _ _
    (Builtin.List.listExtendWith (.ref s.heap.objs.size) (.ref l) (.ref s.heap.objs.size)) _ _ { s with heap := s.heap.push (seqObj "list" #[] 0) }
  unfold Builtin.List.listExtendWith
  refine wpAny_bind
    (wpAny_typeOf (T := "tuple") ⟨o, ho', hc⟩ ?_)
  have ht : (Value.type "tuple" == Value.type "tuple") = true := by rfl
  rw [if_pos (by
    rw [ht]; simp)]
  refine wpAny_bind (listItems_at
    ho' hd ?_)
  refine wpAny_bind (listItems_at (xs := #[])
    (n := 0) (Heap.get?_push_size _ rfl) rfl ?_)
  rw [if_neg (by
    simp)]
  refine wpAny_bind (listUpdate_at (xs := #[]) (n := 0)
    (Heap.get?_push_size _ rfl) rfl ?_ (Nat.zero_le _) (by
      show (#[] ++ vs.toArray).size ≤ sizeLine + 1
      simp only [Array.size_append, List.size_toArray, List.length_nil]; omega))
  refine wpAny_pure ?_
  show wpAny (model prog w) A (do
    let o ← load s.heap.objs.size
    match o.data with
    | .seq xs _ => pure xs.toList
    | _ => unsupported "internal:collect") Q E { s with heap := (s.heap.push (seqObj "list" #[] 0)).update s.heap.objs.size (Obj.mapSeq (· ++ vs.toArray)) }
  refine wpAny_bind (wpAny_load
    (get?_update_seq (Heap.get?_push_size _ rfl) _) ?_)
  show wpAny _ _
    (pure ((#[] : Array Value) ++ vs.toArray).toList) Q E _
  have e : ((#[] : Array Value) ++ vs.toArray).toList = vs := by simp
  rw [e]
  exact wpAny_pure h

open PySem.W in
/-- sorted(t), t a tuple -/
theorem sortedT_vals {prog : Program} {w : World} {A : Around} {E : Value → Shared → Prop} {s : Shared} {κ : PyProof.Rows.KeyKind} {l : Addr} {vs : List Value} {Q : Value → Shared → Prop}
    (hl : s.heap.IsTuple l vs.toArray) (S : SortsAt prog w A.in1.in1 { s with heap := sortingHeap (copyHeap s.heap vs) (s.heap.objs.size + 1) vs } κ vs) (hL : vs.length ≤ sizeLine)
    (h : Q (.ref (s.heap.objs.size + 1)) { s with heap := sortedAll s.heap vs (sortVals κ false vs vs).toArray }) :
    wpAny (model prog w) A (call (.builtin "sorted") [.ref l]) Q E s := by
  refine call_function_entry_kw kind_sorted plain_sorted
    entry_sorted (args_sorted1 _) ?_
  unfold Builtin.«sorted»
  refine wpAny_bind (m := checkCount "sorted" 1 1 _)
    (wpAny_pure ?_)
  refine wpAny_bind (collectT hl hL ?_)
  refine wpAny_bind (wpAny_newList
    ?_ hL)
  have hsz : ((s.heap.push (seqObj "list" #[] 0)).update s.heap.objs.size
      (Obj.mapSeq (· ++ vs.toArray))).objs.size = s.heap.objs.size + 1 := by rw [Heap.size_update, size_push']
  show wpAny _ _ _ _ _
    { s with heap := copyHeap s.heap vs }
  rw [hsz]
  refine wpAny_bind (wpAny_holding (wpAny_call_entry_kw slot_list_sort
    ⟨_, copyHeap_at s.heap vs, rfl⟩ entry_list_sort ?body (args_list_sort _)))
  case body =>
    show wpAny (model prog w) A.in1.in1
      (Builtin.«list.sort» ⟨[.ref (s.heap.objs.size + 1)], []⟩) _ _ _
    refine wpAny_mono (list_sort_vals (s := { s with heap := copyHeap s.heap vs }) (P := fun f s' => f = .done (.ret .none) ∧ Q (.ref (s.heap.objs.size + 1)) s')
      (copyHeap_at s.heap vs) S hL ⟨rfl, h⟩) (fun f s' hf => ?_) fun _ _ e => e
    obtain ⟨rfl, hq⟩ := hf
    exact ⟨_, rfl,
      wpAny_pure ⟨_, rfl, hq⟩⟩
def rSortedDT (K : PySem.W.Frag) : List V → Hp → VK → Prop := fun vs H Q => ∃ (a : Addr) (xs : List V) (ds : List D) (M : V → D → Prop), vs = [V.ref a] ∧ (SqL K H a xs ∨ SqT K H a xs) ∧ EachI M xs ds ∧ (∀ x d, M x d → d ∈ ds → Dp K H x d) ∧ (∀ x ∈ ds, ∀ y ∈ ds, PySem.W.alike x y = true) ∧ PySem.W.Sortable ds ∧ (∀ d ∈ ds, d.depth ≤ 50) ∧
  ∀ p ys, EachI M ys (ds.mergeSort (PySem.W.dataLe false id)) → H p = none → Q (.ref p) (upd H p (.lst ys))
open PySem.W in
theorem cr_sortedDT (hu : X.A.units + 64 < cLine) : CallR X (.builtin "sorted") (rSortedDT X.K) := by
  intro pins s σ H vs us Q I r h
  obtain ⟨a, xs, ds, M, hv, hs, hm, hd, ha, hk, hz, q⟩ := h
  rcases hs with hs | hs
  · exact cr_sortedD hu pins s σ H vs us Q I r ⟨a, xs, ds, M, hv, hs, hm, hd, ha, hk, hz, q⟩
  subst hv
  obtain ⟨its, rv, hl, hz2⟩ := I.tuple hs
  rw [Vals.ref1 r]
  have e1 := each_vals rv hm
  have hlen : ds.length = its.length := by rw [← each_len e1]
  have hL : its.length ≤ sizeLine := by rw [← rv.length]; exact hz2
  have er : EachIs (fun v d => ∃ as, Reads s.heap v d as) its ds := by
    refine (each_mem e1).mono fun u d h => ?_
    obtain ⟨⟨x, rx, mx⟩, hmem⟩ := h
    obtain ⟨as, rd⟩ := Dp.reads I d x u (hd x d mx hmem) rx
    exact ⟨as, rd⟩
  have er2 : EachIs (fun v d => ∃ as, Reads (sortingHeap (copyHeap s.heap its) (s.heap.objs.size + 1) its) v d as) its ds :=
    er.mono fun _ _ ⟨as, r⟩ => ⟨as, PyProof.Rows.Reads.keeps (fun _ _ => sorting_copy_old) r⟩
  have hal : AllAlike (ds.map id) := by rw [List.map_id]; exact fun d h1 d' h2 => ha d h1 d' h2
  refine sortedT_vals hl (SortsAt.data (s := { s with heap := sortingHeap (copyHeap s.heap its) (s.heap.objs.size + 1) its }) er2 (fun d h1 d' h2 => ha d h1 d' h2) hk fun d h => by have := hz d h; simp only [Around.in1]; omega) hL ?_
  have h2 : EachIs (fun u d => ∃ x, RelV x u ∧ M x d) (sortVals (dataKind (sortingHeap (copyHeap s.heap its) (s.heap.objs.size + 1) its) (ds.map id)) false its its) (ds.mergeSort (dataLe false id)) :=
    sortVals_data (enc := id) false e1 er2 hal
  rw [List.map_id] at h2
  obtain ⟨ys, v1, v2⟩ := vals_each h2
  generalize hout : sortVals (dataKind (sortingHeap (copyHeap s.heap its) (s.heap.objs.size + 1) its) ds) false its its = out at v1
  have hlo : out.length = its.length := by rw [← hout]; exact sortVals_length false rfl
  obtain ⟨ep, he'⟩ := PyProof.Rows.sortedAll_at s.heap its (List.toArray out)
  have hlen2 : ys.length ≤ sizeLine := by rw [v1.length, hlo]; exact hL
  exact ⟨.ref _, upd H (s.heap.objs.size + 1) (.lst ys), I.laid (t' := s.toks) (fun _ _ => PyProof.Rows.sortedAll_old) (Nat.le_succ _) ⟨hlen2, out, ep, v1, he'⟩, rfl, q _ _ v2 (I.hok.fresh (Nat.le_succ _))⟩
theorem c_sorted : CallD C (rSortedDT C.K) (only sorted1) := by
  refine one_arg sorted1 (fun _ => rfl) rfl (fun _ _ _ => rfl) fun σ G H ρ b v d Q R rv q => ?_
  cases rv with
  | lst e r =>
    rename_i a xs ds
    obtain ⟨⟨h1, h2, h3, h4⟩, q⟩ := Go.ask (show Go C σ G H ρ b (ask _ _) _ from q)
    refine ⟨a, xs, ds, RD C.J.O C.K G, rfl, .inl (SqL.of (R.sub _ _ e)), each_rds r, fun x d m hm => dp_mono R.sub (dpn_of m (hasDict_mem h3 hm)), alikeL_ok h1, sortB_ok h2, fun d hm => Nat.le_trans (depth_mem hm) h4, fun p ys hy n => ?_⟩
    exact q.newL R n (rds_each hy)
  | tup e r =>
    rename_i a xs ds
    obtain ⟨⟨h1, h2, h3, h4⟩, q⟩ := Go.ask (show Go C σ G H ρ b (ask _ _) _ from q)
    refine ⟨a, xs, ds, RD C.J.O C.K G, rfl, .inr (e.mono R.sub).T, each_rds r, fun x d m hm => dp_mono R.sub (dpn_of m (hasDict_mem h3 hm)), alikeL_ok h1, sortB_ok h2, fun d hm => Nat.le_trans (depth_mem hm) h4, fun p ys hy n => ?_⟩
    exact q.newL R n (rds_each hy)
  | _ => exact q.bad.elim
theorem pd_sorted {e : Expr} {es : List Expr} {fs : Rho → T (List D)} {p pos : Pos} (hu : X.A.units + 64 < cLine) (hg : Gl X "sorted") (hm : X.mg "sorted" = none) (ha : PDa X C (e :: es) fs) (hK : X.K = C.K := by rfl) (he : starEach (e :: es) X.env = (false, eval e X.env) :: starEach es X.env := by rfl) (hpl : (backTo pos (starEach es X.env)).any (·.1) = false := by rfl) :
    PD X C (.Call (.Name "sorted" p) (e :: es) [] pos) (fun ρ => (fs ρ).bind (only sorted1)) := pd_cb (cr_sortedDT hu) (by rw [hK]; exact c_sorted) hg hm (by decide +kernel) ha (by decide) (by decide) he hpl
end
end Y
namespace Y
open PySem PySem.Spec PyProof.Rows L2
section
variable {X : Cx} {C : Ct} {σ : L2.St} {G H G' H' : Hp} {ρ : Rho} {b c : Nat} {e : Expr} {es : List Expr} {pos : Pos} {f g : Rho → T D} {fs gs hs : Rho → T (List D)}
/-! ### three names at once, lists of ours among them -/
def parDDL (i j l : Nat) (f g : Rho → T D) (hs : Rho → T (List D)) : Rho → T Out :=
  atS (fun ρ => (f ρ).bind fun d => (g ρ).bind fun e => (hs ρ).bind fun ds => .ret (d, e, ds)) fun ρ p => .ret (.nx (((ρ.set i (.dt p.1)).set j (.dt p.2.1)).set l (.ow p.2.2)))
theorem set_ow {ρ : Rho} {i k : Nat} {d : D} {es : List D} (q : (ρ.set i (S.dt d))[k]? = some (S.ow es)) : i ≠ k ∧ ρ[k]? = some (S.ow es) := by
  by_cases hki : i = k
  · subst hki
    rw [List.getElem?_set] at q
    simp only [if_true] at q
    split at q <;> cases q
  · exact ⟨hki, by rwa [List.getElem?_set_ne hki] at q⟩
theorem s_parDDL {i j l : Nat} : ∀ Dn σ H, tS C (parDDL i j l f g hs) Dn σ H → tPar3 i j l (tCons (tD C f) (tCons (tD C g) (tCons (tL C hs) tNil))) Dn σ H := by
  rintro Dn σ H ⟨G, ρ, b, R, h⟩
  refine ⟨G, ρ, b, R, (Go.bind R (S_go R h)).mono fun d G1 H1 c P k z v rv => ?_⟩
  obtain ⟨R1, z⟩ := z
  refine ⟨G1, ρ, c, R1, (Go.bind R1 z).mono fun d2 G2 H2 c2 P2 k2 z2 v2 rv2 => ?_⟩
  obtain ⟨R2, z2⟩ := z2
  refine ⟨G2, ρ, c2, R2, (Go.bind R2 z2).mono fun ds G3 H3 c3 P3 k3 z3 p xs n g3 e3 rs => ?_⟩
  obtain ⟨R3, z3⟩ := z3
  obtain ⟨_, _, _, _, z4⟩ := z3.ret R3
  have n0 : C.H0 p = none := rel_none R2 n
  refine ⟨v, v2, .ref p, rfl, z4 _ _ _ (Gr.refl _) ?_⟩
  refine ((R3.set (i := i) ((rv.mono P2.gg).mono P3.gg)).set (i := j) (rv2.mono P3.gg)).setO g3 n0 e3 rs fun k es hk q => ?_
  obtain ⟨h1, q⟩ := set_ow q
  obtain ⟨h2, q⟩ := set_ow q
  rw [List.getElem?_set_ne h1, List.getElem?_set_ne h2]
  exact no_slot R2 n k es q
theorem pd1_parDDL (i j l : Nat) {x y z : Str} {a b c : Expr} {px py pz pt : Pos} {kt k2 pt2} (hc : X.calm = true) (hN : X.N.Nodup) (ha : PD X C a f) (hb : PD X C b g) (hd : PDL X C c hs) (hi : X.N[i]? = some x := by rfl) (hj : X.N[j]? = some y := by rfl) (hl : X.N[l]? = some z := by rfl) (hij : i ≠ j := by decide) (hil : i ≠ l := by decide) (hjl : j ≠ l := by decide)
    (hx : X.env.scope.names.lookup x = some .local := by rfl) (hy : X.env.scope.names.lookup y = some .local := by rfl) (hz : X.env.scope.names.lookup z = some .local := by rfl)
    (hw : swappedStores [.Tuple [.Name x px, .Name y py, .Name z pz] kt pt] (.Tuple [a, b, c] k2 pt2) X.env = pure (some [x, y, z]) := by rfl)
    (hsw : swapsWithSole [.Tuple [.Name x px, .Name y py, .Name z pz] kt pt] (.Tuple [a, b, c] k2 pt2) pos.line X.env = pure false := by rfl)
    (s1 : starEach [a, b, c] X.env = (false, eval a X.env) :: starEach [b, c] X.env := by rfl) (s2 : starEach [b, c] X.env = (false, eval b X.env) :: starEach [c] X.env := by rfl) (s3 : starEach [c] X.env = (false, eval c X.env) :: starEach [] X.env := by rfl) :
    PD1 X C (.Assign [.Tuple [.Name x px, .Name y py, .Name z pz] kt pt] (.Tuple [a, b, c] k2 pt2) pos) (parDDL i j l f g hs) :=
  PStoD (ps_par3 hc hN hi hj hl hij hil hjl hx hy hz (pa_cons ha (pa_cons hb (pa_cons hd pa_nil s3) s2) s1) hw hsw) s_parDDL
def parLLD (i j l : Nat) (fs gs : Rho → T (List D)) (h : Rho → T D) : Rho → T Out :=
  atS (fun ρ => (fs ρ).bind fun d => (gs ρ).bind fun e => (h ρ).bind fun ds => .ret (d, e, ds)) fun ρ p => .ret (.nx (((ρ.set i (.ow p.1)).set j (.ow p.2.1)).set l (.dt p.2.2)))
theorem s_parLLD {i j l : Nat} {h : Rho → T D} : ∀ Dn σ H, tS C (parLLD i j l fs gs h) Dn σ H → tPar3 i j l (tCons (tL C fs) (tCons (tL C gs) (tCons (tD C h) tNil))) Dn σ H := by
  rintro Dn σ H ⟨G, ρ, b, R, h⟩
  refine ⟨G, ρ, b, R, (Go.bind R (S_go R h)).mono fun d G1 H1 c P k z p1 xs1 n1 g1 e1 rs1 => ?_⟩
  obtain ⟨R1, z⟩ := z
  refine ⟨G1, ρ, c, R1, (Go.bind R1 z).mono fun ds G2 H2 c2 P2 k2 z2 p xs n g2 e2 rs => ?_⟩
  obtain ⟨R2, z2⟩ := z2
  refine ⟨G2, ρ, c2, R2, (Go.bind R2 z2).mono fun d3 G3 H3 c3 P3 k3 z3 v rv => ?_⟩
  obtain ⟨R3, z3⟩ := z3
  obtain ⟨_, _, _, _, z4⟩ := z3.ret R3
  have n0 : C.H0 p = none := rel_none R1 n
  have n01 : C.H0 p1 = none := rel_none R n1
  have stay : ∀ {Ga Ha Gb Hb : Hp} {ρ σ b} {q : Addr} {ys : List V}, Rel C Ga Ha ρ σ b → Post C.J.fp Ga Ha Gb Hb → C.H0 q = none → Ga q = none → Ha q = some (.lst ys) → Gb q = none ∧ Hb q = some (.lst ys) := by
    intro Ga Ha Gb Hb ρ σ b q ys R P n0 g e
    refine ⟨?_, P.hh q _ (fun ff => R.jth q ff n0) e⟩
    cases z : Gb q with
    | none => rfl
    | some o =>
      rcases P.fr q (by rw [z]; simp) with y | y
      · exact absurd g y
      · rw [e] at y; cases y
  obtain ⟨g21, e21⟩ := stay R1 P2 n01 g1 e1
  obtain ⟨g31, e31⟩ := stay R2 P3 n01 g21 e21
  obtain ⟨g32, e32⟩ := stay R2 P3 n0 g2 e2
  have ne : p ≠ p1 := fun z => by rw [z] at n; rw [n] at e1; cases e1
  refine ⟨.ref p1, .ref p, v, rfl, z4 _ _ _ (Gr.refl _) ?_⟩
  refine ((R3.setO (i := i) g31 n01 e31 ((rs1.mono P2.gg).mono P3.gg) fun k es hk q => no_slot R n1 k es q).setO (i := j) g32 n0 e32 (rs.mono P3.gg) fun k es hk q => ?_).set rv
  by_cases hki : i = k
  · subst hki
    have hl : i < σ.length := by
      have := (List.getElem?_eq_some_iff.mp q).1
      rw [List.length_set, R3.len] at this
      exact this
    rw [List.getElem?_set_self hl]
    intro z
    cases z
    exact ne rfl
  · rw [List.getElem?_set_ne hki] at q ⊢
    exact no_slot R1 n k es q
theorem pd1_parLLD (i j l : Nat) {x y z : Str} {a b c : Expr} {h : Rho → T D} {px py pz pt : Pos} {kt k2 pt2} (hc : X.calm = true) (hN : X.N.Nodup) (ha : PDL X C a fs) (hb : PDL X C b gs) (hd : PD X C c h) (hi : X.N[i]? = some x := by rfl) (hj : X.N[j]? = some y := by rfl) (hl : X.N[l]? = some z := by rfl) (hij : i ≠ j := by decide) (hil : i ≠ l := by decide) (hjl : j ≠ l := by decide)
    (hx : X.env.scope.names.lookup x = some .local := by rfl) (hy : X.env.scope.names.lookup y = some .local := by rfl) (hz : X.env.scope.names.lookup z = some .local := by rfl)
    (hw : swappedStores [.Tuple [.Name x px, .Name y py, .Name z pz] kt pt] (.Tuple [a, b, c] k2 pt2) X.env = pure (some [x, y, z]) := by rfl)
    (hsw : swapsWithSole [.Tuple [.Name x px, .Name y py, .Name z pz] kt pt] (.Tuple [a, b, c] k2 pt2) pos.line X.env = pure false := by rfl)
    (s1 : starEach [a, b, c] X.env = (false, eval a X.env) :: starEach [b, c] X.env := by rfl) (s2 : starEach [b, c] X.env = (false, eval b X.env) :: starEach [c] X.env := by rfl) (s3 : starEach [c] X.env = (false, eval c X.env) :: starEach [] X.env := by rfl) :
    PD1 X C (.Assign [.Tuple [.Name x px, .Name y py, .Name z pz] kt pt] (.Tuple [a, b, c] k2 pt2) pos) (parLLD i j l fs gs h) :=
  PStoD (ps_par3 hc hN hi hj hl hij hil hjl hx hy hz (pa_cons ha (pa_cons hb (pa_cons hd pa_nil s3) s2) s1) hw hsw) s_parLLD
@[simp] theorem q_parDDL {i j l : Nat} {K : Rho → T Out} : seqS (parDDL i j l f g hs) K ρ = atT ((f ρ).bind fun d => (g ρ).bind fun e => (hs ρ).bind fun ds => .ret (d, e, ds)) (fun p => K (((ρ.set i (.dt p.1)).set j (.dt p.2.1)).set l (.ow p.2.2))) ρ := by
  unfold parDDL; rw [seqS_nxt, atS_eq, atT_nxt]; rfl
@[simp] theorem q_parLLD {i j l : Nat} {h : Rho → T D} {K : Rho → T Out} : seqS (parLLD i j l fs gs h) K ρ = atT ((fs ρ).bind fun d => (gs ρ).bind fun e => (h ρ).bind fun ds => .ret (d, e, ds)) (fun p => K (((ρ.set i (.ow p.1)).set j (.ow p.2.1)).set l (.dt p.2.2))) ρ := by
  unfold parLLD; rw [seqS_nxt, atS_eq, atT_nxt]; rfl
end
end Y
namespace Y
open PySem PySem.Spec PyProof.Rows L2
/-! ### ys.append(xs.pop(k)) of a drawn place, and a walk till nothing is left -/
def pop2 (i j : Nat) (ρ : Rho) (d : D) : T Out := match d, ρ[i]?, ρ[j]? with
  | .int k, some (.ow ds), some (.ow es) => ask (0 ≤ k ∧ k < 1000000 ∧ es.length < sizeLine) (match ds[k.toNat]? with
    | some x => .ret (.nx ((ρ.set i (.ow (ds.eraseIdx k.toNat))).set j (.ow (es ++ [x]))))
    | none => .bad)
  | _, _, _ => .bad
theorem popAppS_eq {i j : Nat} {f : Rho → T D} {ρ : Rho} : popAppS i j f ρ = atT (f ρ) (pop2 i j ρ) ρ := by
  unfold popAppS
  rw [atS_eq]
  rfl
theorem pop2_at {i j : Nat} {k : Int} {m : Nat} {ρ : Rho} {ds es : List D} {x : D} (hk : k = m) (h1 : ρ[i]? = some (.ow ds)) (h2 : ρ[j]? = some (.ow es)) (hx : ds[m]? = some x) (hm : m < 1000000) (he : es.length < sizeLine) :
    pop2 i j ρ (.int k) = .ret (.nx ((ρ.set i (.ow (ds.eraseIdx m))).set j (.ow (es ++ [x])))) := by
  have ha : 0 ≤ k ∧ k < 1000000 ∧ es.length < sizeLine := ⟨by omega, by omega, he⟩
  have ht : k.toNat = m := by omega
  have e : pop2 i j ρ (.int k) = ask (0 ≤ k ∧ k < 1000000 ∧ es.length < sizeLine) (match ds[k.toNat]? with
    | some x => .ret (.nx ((ρ.set i (.ow (ds.eraseIdx k.toNat))).set j (.ow (es ++ [x]))))
    | none => .bad) := by
    unfold pop2
    rw [h1, h2]
  rw [e, ask_t ha, ht, hx]
theorem Tl.popApp {i j : Nat} {n : Int} {f : Rho → T D} {ρ : Rho} {xs ys : List D} (hf : f ρ = .draw n fun r => .ret (.int r)) (hn : n = xs.length) (h0 : xs ≠ []) (hx : xs.length ≤ 900) (hy : ys.length ≤ 900) (h1 : ρ[i]? = some (.ow xs)) (h2 : ρ[j]? = some (.ow ys)) :
    Tl (popAppS i j f ρ) 1 fun o => ∃ (k : Nat) (x : D), xs[k]? = some x ∧ o = .nx ((ρ.set i (.ow (xs.eraseIdx k))).set j (.ow (ys ++ [x]))) := by
  have hpos : 0 < xs.length := List.length_pos_iff.mpr h0
  rw [popAppS_eq, hf, atT_draw]
  refine Tl.dr (by omega) (by omega) (by decide) fun r r0 r1 => ?_
  have hi : r.toNat < xs.length := by omega
  rw [atT_ret, pop2_at (m := r.toNat) (by omega) h1 h2 (List.getElem?_eq_getElem hi) (by omega) (Nat.lt_of_le_of_lt hy (by rw [sizeLine_eq]; decide))]
  exact .ret ⟨r.toNat, xs[r.toNat], List.getElem?_eq_getElem hi, rfl⟩
theorem draw_call {F : List D → T D} (hF : F = drawF) {f g : Rho → T D} {ρ : Rho} {n : Int} (h0 : f ρ = .ret (hdl 0)) (hg : g ρ = .ret (.int n)) : callD 2 F (consT f (consT g nilA)) ρ = .draw n fun r => .ret (.int r) := by
  subst hF
  simp only [callD_eq, consT_eq, h0, hg, T.ret_bind, List.length_cons, List.length_nil, ask_true, draw_eq]
end Y
namespace Y
open PySem PySem.Spec PyProof.Rows L2
/-! ### errors made with one argument -/
/-- the def at a place of a class's body -/
def clsDef (s : Stmt) (i : Nat) : Stmt := match s with
  | .ClassDef _ _ _ b _ _ _ _ _ _ _ => b.getD i (.Pass ⟨0, 0, 0, 0⟩)
  | _ => .Pass ⟨0, 0, 0, 0⟩
/-- what self.f = y leaves -/
def spInit (K : PySem.W.Frag) (f : Str) : Sp := fun vs H Q _ => ∃ (a C : Addr) (y : V), vs = [.ref a, y] ∧ H a = some (exo a C none) ∧ OexC K C ∧ PySem.W.findIn K (.ref C) f = some none ∧ ∀ dx, H dx = none → dx ≠ a → Q .non (upd (upd H dx (exd dx [(f, y)])) a (exo a C (some dx)))
theorem init_read {K : PySem.W.Frag} {f : Str} {vs : List V} {H : Hp} {Q : VK} {E : XK} (h : spInit K f vs H Q E) : tOst K f (tVar 0) (tVar 1) { nx := fun _ H' => Q .non H', rt := Q } (start ["self", f] vs) H := by
  obtain ⟨a, C, y, rfl, ha, T, nf, q⟩ := h
  exact ⟨y, rfl, .ref a, rfl, a, C, rfl, T, nf, .inl ⟨ha, fun dx n ne => q dx n ne⟩⟩
/-- an own class of errors over SleepError with a field f -/
structure ErrI (P : Program) (w : World) (K : PySem.W.Frag) (mg : Str → Option Value) (base : Heap) (x f : Str) (C fI : Addr) (fd : FuncData) : Prop where
  gm : mg x = some (.ref C)
  T : OexC K C
  iC : PySem.W.findIn K (.ref C) "__init__" = some (some (.ref fI))
  tI : PySem.W.typeIn K (.ref fI) = some (.type "function")
  nf : PySem.W.findIn K (.ref C) f = some none
  fn : FnOk P w K mg base CX0 1 fI fd ["self", f] (spInit K f)
  bi : Binds K fd ["self", f] []
  dct : PySem.W.hasDictIn K C = true
  self : PySem.W.subIn K (.ref C) (.ref C) = some true
  ec : ExcC K C
  fx : XfC K C
  ef : excF x = f
theorem tkI_ok {C : Ct} {P : Program} {w : World} {base : Heap} {x f : Str} {a fI : Addr} {fd : FuncData} (e : ErrI P w C.K C.mg base x f a fI fd) : ∀ (n : Str) (Ca : Addr) (k : Bool), tkOf x n = some k → C.mg n = some (.ref Ca) → PySem.W.exmOne C.K (.ref Ca) (.ref a) = some k := fun n Ca k h hm => by
  unfold tkOf at h
  split at h
  · rename_i he
    cases h
    subst he
    have := e.gm.symm.trans hm
    cases this
    exact PySem.W.exm_ref e.T.exC e.dct e.T.tyC e.self
  · cases h
theorem passes0 {X : Cx} : Passes CX0 X (fun _ _ _ => False) := fun _ _ _ _ _ _ _ h => h.elim
section
variable {X : Cx} {C : Ct} {σ : L2.St} {G H G' H' : Hp} {ρ : Rho} {b c : Nat} {e : Expr} {es : List Expr} {pos : Pos} {fs : Rho → T (List D)} {f : Rho → T D}
theorem pmk_errI {x fl : Str} {Ca fI : Addr} {fd : FuncData} {ta : TA} {p : Pos} (h : ErrI X.prog X.w X.K X.mg X.base x fl Ca fI fd) (hr : Room 2 X.A) (hg : Gl X x) (ha : PA X (e :: es) ta) (hdb : (x == ("__debug__" : Str)) = false := by decide)
    (he : starEach (e :: es) X.env = (false, eval e X.env) :: starEach es X.env := by rfl) (hpl : (backTo pos (starEach es X.env)).any (·.1) = false := by rfl) :
    PMk X (.Call (.Name x p) (e :: es) [] pos) (tMkO Ca (spInit X.K fl) [] ta) :=
  pmk_oex h.T h.iC h.tI h.fn hr h.bi .nil passes0 hg h.gm ha hdb he hpl
def raise1 (n : Str) (fs : Rho → T (List D)) : Rho → T Out := atS fs fun ρ ds => match ds with
  | [d] => .ret (.xc ⟨n, some d⟩ ρ)
  | _ => .bad
theorem s_raise1 {n fl : Str} {Ca : Addr} (hm : C.mg n = some (.ref Ca)) (hf : excF n = fl) (T : OexC C.K Ca) (nf : PySem.W.findIn C.K (.ref Ca) fl = some none) :
    ∀ Dn σ H, tS C (raise1 n fs) Dn σ H → (fun (_ : Ends) σ H => tMkO Ca (spInit C.K fl) [] (tA C fs) σ H fun cls d H' => C.W cls d σ H') Dn σ H := by
  rintro Dn σ H ⟨G, ρ, b, R, h⟩
  refine ⟨G, ρ, b, R, (S_go R h).mono fun ds G1 H1 c P k z vs rs => ?_⟩
  obtain ⟨R1, z⟩ := z
  match ds, vs, rs, z with
  | [], _, _, z => exact z.elim
  | _ :: _ :: _, _, _, z => exact z.elim
  | [d], _, .cons r1 .nil, z =>
    rename_i v
    refine ⟨by simp, fun a ha => ⟨a, Ca, v, rfl, upd_same, T, nf, fun dx hdx ne => ⟨rfl, dx, [(fl, v)], upd_same, ?_, ?_, ?_⟩⟩⟩
    · rw [upd_ne ne, upd_same]
    · rwa [upd_ne ne] at hdx
    · have hd : H1 dx = none := by rwa [upd_ne ne] at hdx
      have gd : G1 dx = none := by
        cases q : G1 dx with
        | none => rfl
        | some o => have := R1.sub _ _ q; rw [hd] at this; cases this
      have nfp : ¬ C.J.fp dx := fun ff => R1.post.th dx (R1.jth dx ff) hd
      have e1 : upd (del (upd (upd (upd H1 a (exo a Ca none)) dx (exd dx [(fl, v)])) a (exo a Ca (some dx))) a) dx (.xd [(fl, v)]) = upd H1 dx (.xd [(fl, v)]) := by
        funext b
        by_cases hb : b = dx
        · subst hb; rw [upd_same, upd_same]
        · rw [upd_ne hb, upd_ne hb]
          by_cases hba : b = a
          · subst hba; rw [del_same, ha]
          · rw [del_ne hba, upd_ne hba, upd_ne hb, upd_ne hba]
      rw [e1]
      have R2 : Rel C G1 (upd H1 dx (.xd [(fl, v)])) ρ σ c := R1.step (.newH R1.sub hd) (C.J.loc c H1 _ R1.jar fun a ha => upd_ne fun z => nfp (by rw [← z]; exact ha))
      exact z (.ref Ca) (some dx) σ G1 _ R2 ⟨Ca, rfl, hm, dx, v, rfl, by rw [upd_same, hf], gd, nfp, r1⟩
theorem pd1_raise1 {x fl : Str} {Ca fI : Addr} {fd : FuncData} {p p2 : Pos} (h : ErrI X.prog X.w X.K X.mg X.base x fl Ca fI fd) (hc : X.calm = true) (tk : Takes X C.W) (hr : Room 2 X.A) (hg : Gl X x) (ha : PDa X C (e :: es) fs) (hm : C.mg x = some (.ref Ca)) (hK : X.K = C.K := by rfl) (hdb : (x == ("__debug__" : Str)) = false := by decide)
    (he : starEach (e :: es) X.env = (false, eval e X.env) :: starEach es X.env := by rfl) (hpl : (backTo p2 (starEach es X.env)).any (·.1) = false := by rfl) :
    PD1 X C (.Raise (some (.Call (.Name x p) (e :: es) [] p2)) none pos) (raise1 x fs) :=
  PStoD (ps_raise hc tk (pmk_errI (pos := p2) h hr hg ha hdb he hpl)) (by
    rw [hK]
    exact s_raise1 hm h.ef (by rw [← hK]; exact h.T) (by rw [← hK]; exact h.nf))
end
end Y
namespace Y
open PySem PySem.Spec PyProof.Rows L2
/-! ### try: suite; except X as n: return .. -/
/-- an error that is held, its dict at dd -/
abbrev Jr.excD (J : Jr) (a dd : Addr) (u : HO) : Jr :=
  { fp := fun b => J.fp b ∨ b = dd
    ok := fun b H => J.ok b H ∧ H dd = some u
    loc := fun b H H' h e => ⟨J.loc b H H' h.1 fun a ha => e a (.inl ha), by rw [e dd (.inr rfl)]; exact h.2⟩
    O := fun v n => J.O v n ∨ (n = -1 ∧ v = .ref a) }
abbrev Ct.excD (C : Ct) (a dd : Addr) (u : HO) (G : Hp) : Ct := { C with J := C.J.excD a dd u, G0 := G, H0 := upd C.H0 dd u, W := fun _ _ _ _ => False }
section
variable {X : Cx} {C : Ct} {σ : L2.St} {G H G' H' : Hp} {ρ : Rho} {b c : Nat} {e : Expr} {es : List Expr} {pos : Pos}
theorem Rel.excD (R : Rel C G H ρ σ b) (a : Addr) {dd : Addr} {fs : List (Str × V)} (h1 : H dd = some (.xd fs)) (h2 : G dd = none) (h3 : ¬ C.J.fp dd) : Rel (C.excD a dd (.xd fs) G) G H ρ σ b := by
  obtain ⟨α, ho, hi⟩ := R.own
  refine ⟨⟨fun _ _ e => e, R.sub, fun z o nf e => ?_, fun z e => ?_, fun _ e => .inl e⟩, ⟨R.jar, h1⟩, fun z hz => ?_, fun z hz => ?_, ⟨α, fun i ds e => ?_, hi⟩, fun i d e => ?_, R.len⟩
  · have nz : z ≠ dd := fun q => nf (.inr q)
    have e : upd C.H0 dd (.xd fs) z = some o := e
    rw [upd_ne nz] at e
    exact R.post.hh z o (fun q => nf (.inl q)) e
  · by_cases nz : z = dd
    · subst nz; rw [h1]; simp
    · have e : upd C.H0 dd (.xd fs) z ≠ none := e
      rw [upd_ne nz] at e
      exact R.post.th z e
  · rcases hz with hz | hz
    · exact R.jfr z hz
    · subst hz; exact h2
  · show upd C.H0 dd (.xd fs) z ≠ none
    by_cases nz : z = dd
    · subst nz; rw [upd_same]; simp
    · rw [upd_ne nz]
      rcases hz with hz | hz
      · exact R.jth z hz
      · exact absurd hz nz
  · obtain ⟨q1, q2, q3, xs, q4, q5⟩ := ho i ds e
    refine ⟨q1, q2, ?_, xs, q4, q5.more fun _ _ => .inl⟩
    have nz : α i ≠ dd := fun q => by rw [q, h1] at q4; cases q4
    show upd C.H0 dd (.xd fs) (α i) = none
    rw [upd_ne nz]
    exact q3
  · obtain ⟨v, q1, q2⟩ := R.dat i d e
    exact ⟨v, q1, q2.more fun _ _ => .inl⟩
/-- what the suite reads: the field of the error that is held -/
def isHeld (ρ : Rho) (i : Nat) : Bool := match ρ[i]? with
  | some (.dt (.dict [(.dict [], .int (-1))])) => true
  | _ => false
def fldD (ev : Ev) (f : Str) (i : Nat) (ρ : Rho) : T D := match ev.arg with
  | some d => ask (isHeld ρ i = true ∧ excF ev.cls = f) (.ret d)
  | none => .bad
def isExcG (i : Nat) (k : Bool) (ρ : Rho) : T D := ask (isHeld ρ i = true) (.ret (.bool k))
theorem held_at {a : Addr} {O : V → Int → Prop} {K : PySem.W.Frag} (hO : ∀ v, ¬ O v (-1)) {x : V} (r : RD (fun v n => O v n ∨ (n = -1 ∧ v = .ref a)) K G x (hdl (-1))) : x = .ref a := by
  have ex : ∀ d, RD (fun v n => O v n ∨ (n = -1 ∧ v = .ref a)) K G x d → d = hdl (-1) → x = .ref a := by
    intro d q ed
    cases q with
    | dct h1 q2 =>
      cases q2 with
      | nil => cases ed
      | cons r1 r2 =>
        simp only [hdl, PyData.dict.injEq, List.cons.injEq, Prod.mk.injEq] at ed
        exact absurd ed.1.1 (keyD_nd _ _)
    | opq o =>
      unfold hdl at ed
      simp at ed
      subst ed
      rcases o with o | o
      · exact absurd o (hO _)
      · exact o.2
    | non => cases ed
    | bl => cases ed
    | int => cases ed
    | str => cases ed
    | lst => cases ed
    | tup => cases ed
    | rng => cases ed
  exact ex _ r rfl
theorem isHeld_ok {i : Nat} (h : isHeld ρ i = true) : ρ[i]? = some (.dt (hdl (-1))) := by
  unfold isHeld at h
  split at h
  · rename_i e; exact e
  · cases h
theorem d_fld {ev : Ev} {f : Str} {i : Nat} {a dd Ca : Addr} {v : V} {d : D} {G1 : Hp} (hO : ∀ v, ¬ C.J.O v (-1)) (ha : ev.arg = some d) (rv : RD C.J.O C.K G1 v d) :
    ∀ σ H Q, tD (C.excD a dd (.xd [(excF ev.cls, v)]) G1) (fldD ev f i) σ H Q → tXf a (.ref Ca) (some dd) Ca f (tVar i) σ H Q := by
  rintro σ H Q ⟨G, ρ, b, R, h⟩
  unfold fldD at h
  rw [ha] at h
  obtain ⟨⟨hh, hf⟩, h⟩ := Go.ask h
  obtain ⟨x, h1, h2⟩ := R.dat _ _ (isHeld_ok hh)
  have ex := held_at hO h2
  subst ex
  refine ⟨.ref a, h1, rfl, rfl, dd, _, v, rfl, R.jar.2, ?_, ?_⟩
  · rw [hf]; simp [List.lookup]
  · exact h.retv R ((rv.more fun _ _ => .inl).mono R.post.gg)
theorem call_isD {a D dd : Addr} {oe : Obj} {pn : List (Addr × Obj)} (E : ExcC X.K D) (hz : Zc (.ref D) (some dd) oe) (hf : ∃ vs, oe.data = .fields vs) : CallR (X.suite a ((a, oe) :: pn)) (.builtin "isinstance")
    (fun xs H Q => ∃ (c : V) (cv : Value) (b : Bool) (fs : List (Str × V)), xs = [.ref a, c] ∧ (∀ u, RelV c u → u = cv) ∧ PySem.W.kitOne X.K (.ref D) cv = some b ∧ H dd = some (.xd fs) ∧ Q (.bl b) H) := by
  intro pins s σ H xs us Q I r h
  obtain ⟨c, cv, b, fs, rfl, hcv, e, hdd, q⟩ := h
  cases r with
  | cons rx rr =>
    cases rr with
    | cons rt rr =>
      cases rr
      cases rx
      have ec := hcv _ rt
      subst ec
      obtain ⟨hget, _⟩ := I.pin (a, oe) (List.mem_append.mpr (.inl List.mem_cons_self))
      obtain ⟨vs, hv⟩ := hf
      have hx : ObjOk X.prog X.w H s.heap dd (.xd fs) := I.hok dd _ hdd
      obtain ⟨mA, hns, hr⟩ := hx
      obtain ⟨od, ho, hl⟩ := lookIn_ns hns
      have J : PySem.W.InstAt s.heap a oe D (some od) := by
        obtain ⟨oc, o2, oda, osl⟩ := oe
        obtain ⟨h1, h2⟩ := hz
        dsimp only at h1 h2 hv
        subst h1 h2 hv
        exact ⟨hget, rfl, rfl, ho⟩
      have hcl : (PySem.W.clsIn X.K D).isSome = true := by
        obtain ⟨cd, hc, _⟩ := PySem.W.any_some E.hd
        rw [hc]
        rfl
      exact PySem.W.kia_one (PySem.W.kitx_exc hcl E.hg E.hk E.hs E.ha E.hn E.ht E.hm) I.kIn J e (fun z => nomatch z) fun tk => ⟨.bl b, H, I.kept (t' := tk) fun _ _ z => z, rfl, q⟩
theorem d_isG {i : Nat} {a dd D : Addr} {u : HO} {cv : Value} {k : Bool} {v : V} {fs : List (Str × V)} {G1 : Hp} (hu : u = .xd fs) (hO : ∀ v, ¬ C.J.O v (-1)) (hcv : ∀ u, RelV v u → u = cv) (kt : PySem.W.kitOne C.K (.ref D) cv = some k) :
    ∀ σ H Q, tD (C.excD a dd u G1) (isExcG i k) σ H Q → tCB (fun xs H Q => ∃ (c : V) (cv : Value) (b : Bool) (fs : List (Str × V)), xs = [.ref a, c] ∧ (∀ u, RelV c u → u = cv) ∧ PySem.W.kitOne C.K (.ref D) cv = some b ∧ H dd = some (.xd fs) ∧ Q (.bl b) H) (tCons (tVar i) (tCons (tC v) tNil)) σ H Q := by
  rintro σ H Q ⟨G, ρ, b, R, h⟩
  unfold isExcG at h
  obtain ⟨hh, h⟩ := Go.ask h
  obtain ⟨x, h1, h2⟩ := R.dat _ _ (isHeld_ok hh)
  have ex := held_at hO h2
  subst ex
  have hd := R.jar.2
  rw [hu] at hd
  exact ⟨.ref a, h1, v, cv, k, fs, rfl, hcv, kt, hd, h.retv R (.bl _)⟩
theorem pd_fld {ev : Ev} {f n : Str} {i : Nat} {a dd Ca : Addr} {v : V} {d : D} {G1 : Hp} {oe : Obj} {p : Pos} {pn : List (Addr × Obj)} (hO : ∀ v, ¬ C.J.O v (-1)) (T : XfC X.K Ca) (nf : PySem.W.findIn X.K (.ref Ca) f = some none) (hz : Zc (.ref Ca) (some dd) oe) (hd : ∃ vs, oe.data = .fields vs) (ha : ev.arg = some d) (rv : RD C.J.O C.K G1 v d)
    (hN : X.N[i]? = some n) (hv : Vis X.env.scope n) (hdn : (n == ("__debug__" : Str)) = false := by decide) (hcd : (n == ("__classdict__" : Str)) = false := by decide)
    (hb : attributeBase (.Name n p) f X.env (eval (.Name n p) X.env) = eval (.Name n p) X.env := by rfl) :
    PD (X.suite a ((a, oe) :: pn)) (C.excD a dd (.xd [(excF ev.cls, v)]) G1) (.Attribute (.Name n p) f pos) (fldD ev f i) :=
  PEto (pe_xf T nf hz hd (pv i hN hv hdn hcd) hb) (d_fld hO ha rv)
theorem pd_isG {i : Nat} {a dd D Da : Addr} {u : HO} {fs : List (Str × V)} {G1 : Hp} {oe : Obj} {k : Bool} {n x : Str} {p p1 p2 : Pos} {pn : List (Addr × Obj)} (hu : u = .xd fs) (hO : ∀ v, ¬ C.J.O v (-1)) (kt : PySem.W.kitOne C.K (.ref D) (.ref Da) = some k) (E : ExcC X.K D) (hz : Zc (.ref D) (some dd) oe) (hd : ∃ vs, oe.data = .fields vs)
    (hN : X.N[i]? = some n) (hv : Vis X.env.scope n) (hg : Gl X "isinstance") (hm : X.mg "isinstance" = none) (hgx : Gl X x) (hmx : X.mg x = some (.ref Da)) (hK : X.K = C.K := by rfl)
    (hdn : (n == ("__debug__" : Str)) = false := by decide) (hcd : (n == ("__classdict__" : Str)) = false := by decide) (hdx : (x == ("__debug__" : Str)) = false := by decide)
    (hs : starEach [.Name n p1, .Name x p2] (X.suite a ((a, oe) :: pn)).env = (false, eval (.Name n p1) (X.suite a ((a, oe) :: pn)).env) :: starEach [.Name x p2] (X.suite a ((a, oe) :: pn)).env := by rfl)
    (hs2 : starEach [.Name x p2] (X.suite a ((a, oe) :: pn)).env = (false, eval (.Name x p2) (X.suite a ((a, oe) :: pn)).env) :: starEach [] (X.suite a ((a, oe) :: pn)).env := by rfl) (hpl : (backTo pos (starEach [.Name x p2] (X.suite a ((a, oe) :: pn)).env)).any (·.1) = false := by rfl) :
    PD (X.suite a ((a, oe) :: pn)) (C.excD a dd u G1) (.Call (.Name "isinstance" p) [.Name n p1, .Name x p2] [] pos) (isExcG i k) :=
  PEto (pe_callB (call_isD E hz hd) hg hm (by decide +kernel) (pa_cons (pv i hN hv hdn hcd) (pa_cons (pe_glob (v := .ref Da) hgx hmx rfl hdx) pa_nil hs2) hs) (by decide) (by decide) hs hpl) (by rw [hK]; exact d_isG hu hO (fun u r => r) kt)
/-- the clause takes errors with a field -/
def tryG (i : Nat) (takes : Str → Option Bool) (F : Rho → T Out) (h : Ev → Rho → T D) (ρ : Rho) : T Out := (F ρ).bind fun
  | .xc ev ρ' => match takes ev.cls with
    | some true => match ev.arg with
      | some _ => (noexc (h ev (ρ'.set i (.dt (hdl (-1)))))).bind fun d => ask (d.hasDict = false) (.ret (.rt d))
      | none => .bad
    | some false => .ret (.xc ev ρ')
    | none => .bad
  | .nx ρ' => .ret (.nx ρ')
  | .rt d => .ret (.rt d)
  | .bk ρ' => .ret (.bk ρ')
  | .ct ρ' => .ret (.ct ρ')
def tSuiteG (C : Ct) (h : Ev → Rho → T D) (a : Addr) (cls : Value) (d : Option Addr) : TS := fun Dn σ H => ∃ ev dd v d0 G1, C.mg ev.cls = some cls ∧ ev.arg = some d0 ∧ d = some dd ∧ RD C.J.O C.K G1 v d0 ∧ tRet (tD (C.excD a dd (.xd [(excF ev.cls, v)]) G1) (h ev)) Dn σ H
theorem rel_W {W : WX} (R : Rel C G H ρ σ b) : Rel { C with W := W } G H ρ σ b := ⟨R.post, R.jar, R.jfr, R.jth, R.own, R.dat, R.len⟩
theorem s_tryG {i : Nat} {takes : Str → Option Bool} {F : Rho → T Out} {h : Ev → Rho → T D} {cv : Value}
    (hx : ∀ n Ca k, takes n = some k → C.mg n = some (.ref Ca) → PySem.W.exmOne C.K (.ref Ca) cv = some k) :
    ∀ Dn σ H, tS C (tryG i takes F h) Dn σ H → (fun Dn σ H => (fun W => tS { C with W := W } F) (wAs C.K cv i (tSuiteG C h) C.W Dn) Dn σ H) Dn σ H := by
  rintro Dn σ H ⟨G, ρ, b, R, q⟩
  have q2 := T.sat_bind q
  refine ⟨G, ρ, b, rel_W R, T.sat_mono (fun o c z => ?_) (fun _ _ z => z) q2⟩
  cases o with
  | nx ρ' => exact fun σ' G' H' g R' => z σ' G' H' g ⟨R'.post, R'.jar, R'.jfr, R'.jth, R'.own, R'.dat, R'.len⟩
  | rt d => exact z
  | bk ρ' => exact fun σ' G' H' g R' => z σ' G' H' g ⟨R'.post, R'.jar, R'.jfr, R'.jth, R'.own, R'.dat, R'.len⟩
  | ct ρ' => exact fun σ' G' H' g R' => z σ' G' H' g ⟨R'.post, R'.jar, R'.jfr, R'.jth, R'.own, R'.dat, R'.len⟩
  | xc ev ρ' =>
    intro cl od σ' G' H' R' x
    have R' : Rel C G' H' ρ' σ' c := ⟨R'.post, R'.jar, R'.jfr, R'.jth, R'.own, R'.dat, R'.len⟩
    obtain ⟨Ca, rfl, hm, ha⟩ := x
    obtain ⟨n, ar⟩ := ev
    dsimp only at z
    cases tk : takes n with
    | none => simp only [tk] at z; exact z.elim
    | some k =>
      cases k with
      | false =>
        simp only [tk] at z
        exact ⟨false, hx n Ca false tk hm, (fun e => by cases e), fun _ => z _ _ _ _ _ R' ⟨Ca, rfl, hm, ha⟩⟩
      | true =>
        simp only [tk] at z
        cases ar with
        | none => exact z.elim
        | some d0 =>
          obtain ⟨dd, v, rfl, h1, h2, h3, h4⟩ := ha
          refine ⟨true, hx n Ca true tk hm, fun _ a ha => ?_, (fun e => by cases e)⟩
          have RD1 := R'.excD a h1 h2 h3
          have R2 : Rel (C.excD a dd (.xd [(excF n, v)]) G') G' H' (ρ'.set i (.dt (hdl (-1)))) (σ'.set i (some (.ref a))) c := RD1.set (.opq (.inr ⟨rfl, rfl⟩))
          refine ⟨⟨n, some d0⟩, dd, v, d0, G', hm, rfl, rfl, h4, G', _, c, R2, T.sat_mono (fun d c2 z2 G2 H2 P2 j2 w rw => ?_) (fun _ _ z => z.elim) (sat_noexc (T.sat_bind z))⟩
          have z2 : T.sat (ask (d.hasDict = false) (.ret (.rt d))) c2 (Fin C Dn G) fun _ _ => False := z2
          unfold ask at z2
          split at z2
          · rename_i hd
            have P3 : Post C.J.fp G' H' G2 H2 := ⟨P2.gg, P2.sub, fun z o nf e => by
              by_cases nz : z = dd
              · subst nz
                rw [j2.2]
                rw [h1] at e
                exact e
              · exact P2.hh z o (fun q => q.elim nf nz) e, P2.th, P2.fr⟩
            exact z2 w G2 H2 (R'.post.trans P3) j2.1 (rw.less hd)
          · exact z2.elim
theorem pd1_tryG {i : Nat} {n x : Str} {cv : Value} {takes : Str → Option Bool} {F : Rho → T Out} {h : Ev → Rho → T D} {body : List Stmt} {e' : Expr} {np pos' p2 : Pos} (hs : X.stack = X.env :: X.outer) (hf : X.env.frame = some X.env.locals) (hN : X.N.Nodup) (hi : X.N[i]? = some n) (hln : X.env.kindOf n = some .local) (hc : Names X x cv) (tk : Takes X C.W) (hK : X.K = C.K)
    (hx : ∀ n Ca k, takes n = some k → C.mg n = some (.ref Ca) → PySem.W.exmOne C.K (.ref Ca) cv = some k)
    (hb : ∀ (W : WX) (pn : List (Addr × Obj)) (xe : Value → Shared → Prop), Takes (X.tr pn xe) W → PassesOwn (model X.prog X.w) X.A X.env xe → PDs (X.tr pn xe) { C with W := W } body F)
    (hsu : ∀ (a dd : Addr) (oe : Obj) (cls : Value) (ev : Ev) (v : V) (d : D) (G1 : Hp) (pn : List (Addr × Obj)), Zc cls (some dd) oe → (∃ vs, oe.data = .fields vs) → C.mg ev.cls = some cls → ev.arg = some d → RD C.J.O C.K G1 v d → PD (X.suite a ((a, oe) :: pn)) (C.excD a dd (.xd [(excF ev.cls, v)]) G1) e' (h ev)) :
    PD1 X C (.Try body [.ExceptHandler (some (.Name x np)) (some n) [.Return (some e') p2] pos'] [] [] pos) (tryG i takes F h) := by
  refine PStoD (ps_try_as hs hf hN hi hln hc tk (tb := fun W => tS { C with W := W } F) (ts := tSuiteG C h) (fun W pn xe tkw hp => hb W pn xe tkw hp) fun a oe cls d pn hz hd => ⟨fun pins s σ H Dn I q => ?_⟩) (by rw [hK]; exact s_tryG hx)
  obtain ⟨ev, dd, v, d0, G1, hm, hna, rfl, rv, q⟩ := q
  exact (pss_one (ps_ret (hsu a dd oe cls ev v d0 G1 pn hz hd hm hna rv))).run pins s σ H Dn I q
end
end Y
namespace Y
open PySem PySem.Spec PyProof.Rows L2
section
variable {X : Cx} {C : Ct} {σ : L2.St} {G H G' H' : Hp} {ρ : Rho} {b c : Nat} {e : Expr} {es : List Expr} {pos : Pos} {f g : Rho → T D} {fs gs : Rho → T (List D)}
/-! ### x, y = xs.pop() -/
def popS (i : Nat) (g : D → Rho → Option Rho) (ρ : Rho) : T Out := match ρ[i]? with
  | some (.ow ds) => match ds[ds.length - 1]? with
    | some d => match g d (ρ.set i (.ow ds.dropLast)) with
      | some ρ' => .ret (.nx ρ')
      | none => .bad
    | none => .bad
  | _ => .bad
theorem rds_dropLast {O : V → Int → Prop} {K : PySem.W.Frag} {G : Hp} {xs : List V} {ds : List D} (r : RDs O K G xs ds) : RDs O K G xs.dropLast ds.dropLast := by
  rw [List.dropLast_eq_take, List.dropLast_eq_take, r.len]
  exact r.take _
theorem s_popS {i : Nat} {us : List Nat} {g : D → Rho → Option Rho} : ∀ Dn σ H, tS C (popS i g) Dn σ H → tAsg (tBM0 C.K "list" rPop (tVar i)) (gD C us g) Dn σ H := by
  rintro Dn σ H ⟨G, ρ, b, R, h⟩
  unfold popS at h
  split at h
  · rename_i ds ei
    obtain ⟨p, xs, h1, h2, h3, h4, h5⟩ := R.own_at ei
    cases ed : ds[ds.length - 1]? with
    | none => rw [ed] at h; exact h.elim
    | some d =>
      rw [ed] at h
      dsimp only at h
      obtain ⟨y, hy, ry⟩ := h5.get ed
      cases eg : g d (ρ.set i (.ow ds.dropLast)) with
      | none => rw [eg] at h; exact h.elim
      | some ρ' =>
        rw [eg] at h
        have R2 := R.mut ei h1 (rds_dropLast h5)
        refine ⟨.ref p, h1, .inl ⟨rfl, xs, SqL.of h4⟩, p, xs, y, rfl, rfl, h4, by rw [h5.len]; exact hy, ?_⟩
        exact ⟨G, _, b, d, ρ', R2, ry, eg, fun σ' R' _ => h σ' G _ (Gr.refl _) R'⟩
  · exact h.elim
theorem pd1_popG (i : Nat) {us : List Nat} {g : D → Rho → Option Rho} {x : Str} {tg : Expr} {p1 apos cpos : Pos} (hg : PDg X C tg us g) (hi : X.N[i]? = some x := by rfl)
    (hv : Vis X.env.scope x := by first | exact Or.inl rfl | exact Or.inr (Or.inl rfl) | exact Or.inr (Or.inr rfl)) (hd : (x == ("__debug__" : Str)) = false := by decide) (hc : (x == ("__classdict__" : Str)) = false := by decide)
    (hbase : attributeBase (.Name x p1) "pop" X.env (eval (.Name x p1) X.env) = eval (.Name x p1) X.env := by rfl) (hline : (apos.endLine == cpos.line) = true := by rfl)
    (hs : swapsWithSole [tg] (.Call (.Attribute (.Name x p1) "pop" apos) [] [] cpos) pos.line X.env = pure false := by rfl) (hw : swappedStores [tg] (.Call (.Attribute (.Name x p1) "pop" apos) [] [] cpos) X.env = pure none := by rfl)
    (h1 : (assignEach [tg] X.env).map (·.2) = [assign tg X.env] := by rfl) (hK : X.K = C.K := by rfl) :
    PD1 X C (.Assign [tg] (.Call (.Attribute (.Name x p1) "pop" apos) [] [] cpos) pos) (popS i g) :=
  PStoD (ps_asg (pe_bm0 PySem.F.plainAttrs_list PySem.F.slot_list_pop PySem.F.type_list_pop mt_pop (pv i hi hv hd hc) hbase hline) hg hs hw h1) (by rw [hK]; exact s_popS)
/-! ### list(range(n)) -/
def listRg (d : D) : T (List D) := match d with
  | .int n => ask (-10000 < n ∧ n < 10000) (.ret (upto 0 n.toNat))
  | _ => .bad
theorem rgV_rds {O : V → Int → Prop} {K : PySem.W.Frag} {G : Hp} {n : Int} : RDs O K G (rgV 0 n) (upto 0 n.toNat) := by
  unfold rgV upto
  rw [Int.sub_zero]
  generalize List.range n.toNat = l
  induction l with
  | nil => exact .nil
  | cons k l ih => exact .cons (.int _) ih
theorem d_listRgL : ∀ σ H Q, tL C (fun ρ => (f ρ).bind listRg) σ H Q → tLstRg (tRg1 (tD C f)) σ H Q := by
  rintro σ H Q ⟨G, ρ, b, R, h⟩
  refine ⟨G, ρ, b, R, (Go.bind R h).mono fun d G1 H1 c P k z v rv => ?_⟩
  obtain ⟨R1, z⟩ := z
  cases rv with
  | int n =>
    obtain ⟨hn, z⟩ := Go.ask (show Go C σ G1 H1 ρ c (ask _ _) _ from z)
    refine ⟨n, rfl, ⟨by omega, by omega, by omega, by omega, by omega⟩, fun p hp => ?_⟩
    have gp : G1 p = none := by
      cases q : G1 p with
      | none => rfl
      | some o => have := R1.sub _ _ q; rw [hp] at this; cases this
    have P2 : Post C.J.fp G1 H1 G1 (upd H1 p (.lst (rgV 0 n))) := .newH R1.sub hp
    have j2 : C.J.ok c (upd H1 p (.lst (rgV 0 n))) := C.J.loc c H1 _ R1.jar fun a ha => upd_ne fun z => R1.post.th a (R1.jth a ha) (by rw [z]; exact hp)
    obtain ⟨_, q⟩ := z G1 _ P2 j2
    exact q p (rgV 0 n) (back_none P hp) gp upd_same rgV_rds
  | _ => exact z.bad.elim
theorem pdL_listRg {a : Expr} {p q pos2 : Pos} (hc : X.calm = true) (hg : Gl X "list") (hm : X.mg "list" = none) (hg2 : Gl X "range") (hm2 : X.mg "range" = none) (ha : PD X C a f)
    (na : starEach [a] X.env = (false, eval a X.env) :: starEach [] X.env := by rfl) (na2 : starEach [.Call (.Name "range" q) [a] [] pos2] X.env = (false, eval (.Call (.Name "range" q) [a] [] pos2) X.env) :: starEach [] X.env := by rfl) :
    PDL X C (.Call (.Name "list" p) [.Call (.Name "range" q) [a] [] pos2] [] pos) (fun ρ => (f ρ).bind listRg) :=
  PEto (pe_listRg hc hg hm (prg_1 hg2 hm2 ha na) na2) d_listRgL
/-! ### min(xs, default=None) -/
def minDef1 : D → T D
  | .list [] => .ret .none
  | .list ds => minL ds
  | _ => .bad
end
end Y
namespace Y
open PySem PySem.Spec PyProof.Rows L2
/-! ### O7: dicts as values that are shown and compared with texts -/
section
variable {prog : Program} {w : World} {A : Around} {E : Value → Shared → Prop} {s : Shared}
open AutoSeq1 (wpAny_loadPart')
open MeetsSeq MeetsSeq2 MeetsSeq3 SeqRoads2 SeqAt
theorem dict_eq_declines_str (l : Addr) (es : Array DictEntry) (n : Nat) (b : Str) (u : Tok) :
    Meets (Builtin.«dict.__eq__» ⟨[.ref l, .str b u], []⟩) (fun _ R s => s.heap.get? l = some { cls := .type "dict", dict := none, data := .dict es n, slots := #[] } ∧ R (.ok (.ret .notImplemented)) s) :=
  .of_wp fun prog w A R s h => by obtain ⟨hp, g, d, tk, os⟩ := s; obtain ⟨hl, h⟩ := h; have f1 := F.sub_str_dict; wp_walk using wpAny_loadPart' hl; exact ⟨_, rfl, h⟩
theorem str_eq_declines_dict (b : Str) (u : Tok) (l : Addr) (es : Array DictEntry) (n : Nat) :
    Meets (Builtin.«str.__eq__» ⟨[.str b u, .ref l], []⟩) (fun _ R s => s.heap.get? l = some { cls := .type "dict", dict := none, data := .dict es n, slots := #[] } ∧ R (.ok (.ret .notImplemented)) s) :=
  .of_wp fun prog w A R s h => by obtain ⟨hp, g, d, tk, os⟩ := s; obtain ⟨hl, h⟩ := h; wp_walk using wpAny_loadPart' hl, wpAny_load hl; exact ⟨_, rfl, h⟩
theorem rc_str_dict {l : Addr} {es : Array DictEntry} {n : Nat} (b : Str) (u : Tok) (ho : s.heap.get? l = some { cls := .type "dict", dict := none, data := .dict es n, slots := #[] }) (hu : A.units < cLine) : RcAt A s (.str b u) (.ref l) false := fun prog w E Q h =>
  rc_eq_decline_or (k := false) (typeIs_str s b u) ⟨_, ho, rfl⟩ (by decide) F.sub_dict_str F.slot_str_eq F.slot_dict_eq_refl
    (fun _ hq => call_meets F.slot_str_eq (typeIs_str s b u) F.entry_str_eq (F.args_str_eq_2 _ _) (str_eq_declines_dict b u l es n) ⟨ho, hq⟩)
    (fun _ hq => call_meets F.slot_dict_eq_refl ⟨_, ho, rfl⟩ F.entry_dict_eq (F.args_dict_eq_2 _ _) (dict_eq_declines_str l es n b u) ⟨ho, hq⟩)
    (fun _ hq => wpAny_of_eq (rfl : isSame (.str b u) (.ref l) = pure false) hq) (.inr hu) h
theorem eqAt_str_dict {l : Addr} {es : Array DictEntry} {n : Nat} (b : Str) (u : Tok) (ho : s.heap.get? l = some { cls := .type "dict", dict := none, data := .dict es n, slots := #[] }) (hu : A.units < cLine) : EqAt A s (.str b u) (.ref l) false := fun prog w E Q h => by
  unfold eqBool
  refine wpAny_holding ?_
  refine wpAny_ite_split (fun hab => absurd (eq_of_beq hab) nofun) (fun _ => ?_)
  exact wpAny_bind (rc_str_dict b u ho hu prog w E _ (wpAny_truthy_bool h))
end
/-- a dict of ours, as it lies in the heap -/
theorem dk_raw {X : Cx} {pins : List (Addr × Obj)} {σ : L2.St} {H : Hp} {s : Shared} {a : Addr} {kvs : List (Key × V)} (I : Inv X pins σ H s) (e : H a = some (.dK kvs)) :
    (a == sysModules) = false ∧ ∃ es n vs, s.heap.get? a = some { cls := .type "dict", dict := none, data := .dict es n, slots := #[] } ∧ KV kvs vs ∧ Pairs (mixKind X.prog X.w) es.toList vs := by
  obtain ⟨_, h2, vs, kv, ⟨o, es, ep, ho, ⟨hc, hd, hs⟩, hdat, _, hp, _⟩⟩ := dk_of I.hok e
  obtain ⟨cls, dd, data, sl⟩ := o
  simp only at hc hd hs hdat
  subst hc hd hs hdat
  exact ⟨h2, es, ep, vs, ho, kv, hp⟩
/-! text == value, where the value may be a dict -/
def isDk : D → Bool
  | .dict [] => true
  | .dict ((.int _, _) :: _) => true
  | .dict ((.str _, _) :: _) => true
  | _ => false
def rEqS (K : PySem.W.Frag) : R2 := fun x y H Q => rEqD K x y H Q ∨ ∃ s a kvs, x = .str s ∧ y = .ref a ∧ H a = some (.dK kvs) ∧ Q (.bl false) H
section
variable {X : Cx} {C : Ct} {σ : L2.St} {G H : Hp} {a b c e : Expr} {es : List Expr} {f g h : Rho → T D} {fs gs : Rho → T (List D)} {pos : Pos} {p : Pos}
theorem op_eqS (hu : X.A.units + 64 < cLine) : OpR X (compareOp .Eq) (rEqS X.K) := by
  intro pins s σ H x y v u Q I rx ry h
  rcases h with h | ⟨t, a, kvs, rfl, rfl, hd, q⟩
  · exact op_eqD hu pins s σ H x y v u Q I rx ry h
  · obtain ⟨tk, rfl⟩ := rx
    cases ry
    obtain ⟨_, es, n, vs, ho, _, _⟩ := dk_raw I hd
    exact rc_str_dict t tk ho (by omega) X.prog X.w _ _ ⟨.bl _, H, I, rfl, q⟩
def pyEqS (d e : D) : T D := match d, isDk e with
  | .str _, true => .ret (.bool false)
  | d, _ => pyEq d e
theorem dk_rd {O : V → Int → Prop} {K : PySem.W.Frag} {v : V} {d : D} (r : RD O K G v d) (h : isDk d = true) : ∃ a kvs, v = .ref a ∧ G a = some (.dK kvs) := by
  cases r with
  | dct e r => exact ⟨_, _, rfl, e⟩
  | opq o => unfold hdl isDk at h; cases h
  | _ => unfold isDk at h; cases h
@[simp] theorem eqS_dk {x : Str} {e : D} (h : isDk e = true) : pyEqS (.str x) e = .ret (.bool false) := by unfold pyEqS; rw [h]
theorem eqS_no {d e : D} (h : isDk e = false) : pyEqS d e = pyEq d e := by unfold pyEqS; rw [h]; cases d <;> rfl
theorem eqS_ns {d e : D} (h : ∀ x, d ≠ .str x) : pyEqS d e = pyEq d e := by
  unfold pyEqS
  cases d with
  | str x => exact absurd rfl (h x)
  | _ => rfl
theorem o_eqS : Op2 C (rEqS C.K) pyEqS := by
  intro σ G H ρ b x y d e Q R rx ry h
  cases hk : isDk e with
  | false => rw [eqS_no hk] at h; exact .inl (o_eq σ G H ρ b x y d e Q R rx ry h)
  | true =>
    by_cases hs : ∃ s, d = .str s
    · obtain ⟨s, rfl⟩ := hs
      obtain ⟨a, kvs, rfl, g⟩ := dk_rd ry hk
      rw [eqS_dk hk] at h
      cases rx
      exact .inr ⟨_, _, _, rfl, rfl, R.sub _ _ g, h.retv R (.bl _)⟩
    · rw [eqS_ns fun x z => hs ⟨x, z⟩] at h
      exact .inl (o_eq σ G H ρ b x y d e Q R rx ry h)
theorem pd_eqS (hu : X.A.units + 64 < cLine) (ha : PD X C a f) (hb : PD X C b g) (hK : X.K = C.K := by rfl) : PD X C (.Compare a [.Eq] [b] pos) (op2 pyEqS f g) := PEto (pe_cmpR (op_eqS hu) ha hb (nomark _)) (by rw [hK]; exact d_op o_eqS)
theorem pt_eqS (hu : X.A.units + 64 < cLine) (ha : PD X C a f) (hb : PD X C b g) (hK : X.K = C.K := by rfl) : PDt X C (.Compare a [.Eq] [b] pos) (opT pyEqS f g) := PTto (pt_cmpR (op_eqS hu) ha hb (nomark _)) (by rw [hK]; exact d_testB (d_op o_eqS))
/-! value not in a tuple of texts, where the value may be a dict -/
def strsB : List D → Bool
  | [] => true
  | .str _ :: r => strsB r
  | _ => false
def rInS (K : PySem.W.Frag) (neg : Bool) : R2 := fun x y H Q => rInA K neg x y H Q ∨ ∃ a kvs p xs, x = .ref a ∧ H a = some (.dK kvs) ∧ y = .ref p ∧ SqT K H p xs ∧ (∀ v ∈ xs, ∃ s, v = .str s) ∧ Q (.bl neg) H
theorem vals_strs {xs : List V} {us : List Value} (r : Vals xs us) (h : ∀ v ∈ xs, ∃ s, v = V.str s) : ∀ u ∈ us, ∃ s t, u = Value.str s t := by
  induction r with
  | nil => intro u hu; cases hu
  | cons r1 rr ih =>
    intro u hu
    rcases List.mem_cons.mp hu with rfl | hu
    · obtain ⟨s, rfl⟩ := h _ List.mem_cons_self
      obtain ⟨t, rfl⟩ := r1
      exact ⟨s, t, rfl⟩
    · exact ih (fun v hv => h v (List.mem_cons_of_mem _ hv)) u hu
theorem op_notInS (hu : X.A.units + 65 < cLine) : OpR X (compareOp .NotIn) (rInS X.K true) := by
  intro pins s σ H x y v u Q I rx ry h
  rcases h with h | ⟨a, kvs, p, xs, rfl, hd, rfl, hq, hs, q⟩
  · exact op_notInA hu pins s σ H x y v u Q I rx ry h
  · cases rx
    cases ry
    obtain ⟨_, es, n, vs, ho, _, _⟩ := dk_raw I hd
    obtain ⟨its, rv, pl, hz⟩ := I.tuple hq
    have hst := vals_strs rv hs
    refine SeqAt.notIn_tupleAt (fun _ => false) pl (fun y hy => ?_) ?_
    · obtain ⟨t, tk, rfl⟩ := hst y (by simpa using hy)
      exact eqAt_str_dict t tk ho (by show X.A.units + 1 < cLine; omega)
    · have e : its.toArray.any (fun _ => false) = false := by simp
      rw [e]
      exact ⟨.bl _, H, I, rfl, q⟩
def inS (neg : Bool) (d e : D) : T D := match isDk d, e with
  | true, .tuple ds => ask (strsB ds = true) (.ret (.bool neg))
  | true, _ => .bad
  | false, e => inD neg d e
theorem strsB_rd {O : V → Int → Prop} {K : PySem.W.Frag} : ∀ {xs : List V} {ds : List D}, RDs O K G xs ds → strsB ds = true → ∀ v ∈ xs, ∃ s, v = V.str s
  | _, _, .nil, _, v, hv => nomatch hv
  | _, _, .cons r1 rr, h, v, hv => by
    cases r1 with
    | str x =>
      rcases List.mem_cons.mp hv with rfl | hv
      · exact ⟨x, rfl⟩
      · exact strsB_rd rr h v hv
    | _ => cases h
@[simp] theorem inS_dk {neg : Bool} {d : D} {ds : List D} (h : isDk d = true) (hs : strsB ds = true) : inS neg d (.tuple ds) = .ret (.bool neg) := by unfold inS; rw [h]; exact if_pos hs
theorem inS_no {neg : Bool} {d e : D} (h : isDk d = false) : inS neg d e = inD neg d e := by unfold inS; rw [h]
theorem o_notInS : Op2 C (rInS C.K true) (inS true) := by
  intro σ G H ρ b x y d e Q R rx ry h
  cases hk : isDk d with
  | false => rw [inS_no hk] at h; exact .inl (o_in σ G H ρ b x y d e Q R rx ry h)
  | true =>
    obtain ⟨a, kvs, rfl, g⟩ := dk_rd rx hk
    cases ry with
    | tup ea ra =>
      unfold inS at h
      rw [hk] at h
      obtain ⟨hs, h⟩ := Go.ask h
      exact .inr ⟨_, _, _, _, rfl, R.sub _ _ g, rfl, (ea.mono R.sub).T, strsB_rd ra hs, h.retv R (.bl _)⟩
    | opq o => unfold inS hdl at h; rw [hk] at h; exact h.bad.elim
    | _ => unfold inS at h; rw [hk] at h; exact h.bad.elim
theorem pt_notInS (hu : X.A.units + 65 < cLine) (ha : PD X C a f) (hb : PD X C b g) (hK : X.K = C.K := by rfl) (hM : behindInMarks .NotIn b = false := by with_unfolding_all rfl) : PDt X C (.Compare a [.NotIn] [b] pos) (opT (inS true) f g) := PTto (pt_cmpR (op_notInS hu) ha hb hM) (by rw [hK]; exact d_testB (d_op o_notInS))
/-! repr of a value that may be a dict of plain things -/
def scal : D → Bool
  | .none => true
  | .bool _ => true
  | .int _ => true
  | .str _ => true
  | _ => false
def flatK : List (D × D) → Bool
  | [] => true
  | (k, v) :: r => scal k && scal v && flatK r
theorem scal_reads {O : V → Int → Prop} {K : PySem.W.Frag} {h : Heap} {v : V} {d : D} {u : Value} (r : RD O K G v d) (hs : scal d = true) (rv : RelV v u) : Reads h u d [] := by
  cases r with
  | non => cases rv; exact .none
  | bl b => cases rv; exact .bool b
  | int i => obtain ⟨t, rfl⟩ := rv; exact .int i t
  | str x => obtain ⟨t, rfl⟩ := rv; exact .str x t
  | opq o => unfold hdl scal at hs; cases hs
  | _ => cases hs
theorem flat_reads {O : V → Int → Prop} {K : PySem.W.Frag} {P : Program} {w : World} {h : Heap} : ∀ {kvs : List (Key × V)} {ds : List (D × D)} {vs : List (Key × Value)} {es : List DictEntry}, RDk O K G kvs ds → flatK ds = true → KV kvs vs → Pairs (mixKind P w) es vs →
    ReadsAll h (es.map (·.key)) (ds.map (·.1)) [] ∧ ReadsAll h (es.map (·.val)) (ds.map (·.2)) []
  | _, _, _, _, .nil, _, .nil, .nil => ⟨.nil, .nil⟩
  | _, _, _, _, .cons (k := k) r rs, hf, .cons hkv rk, .cons (e := en) h1 h2 ps => by
    simp only [flatK, Bool.and_eq_true] at hf
    obtain ⟨q1, q2⟩ := flat_reads (h := h) rs hf.2 rk ps
    refine ⟨?_, ?_⟩
    · rw [List.map_cons, List.map_cons]
      have e : Reads h en.key (keyD k) [] := by
        rw [← hkv.1] at h1
        rcases keyIs_shape h1 with ⟨i, t, rfl, e⟩ | ⟨x, t, rfl, e⟩
        · rw [e]; exact .int i t
        · rw [e]; exact .str x t
      exact .cons e q1
    · rw [List.map_cons, List.map_cons, h2]
      exact .cons (scal_reads r hf.1.2 hkv.2) q2
def rReprD (K : PySem.W.Frag) : List V → Hp → VK → Prop := fun xs H Q => rRepr K xs H Q ∨ ∃ (O : V → Int → Prop) (a : Addr) (ds : List (D × D)) (kvs : List (Key × V)) (G : Hp), xs = [.ref a] ∧ H a = some (.dK kvs) ∧ RDk O K G kvs ds ∧ flatK ds = true ∧ (PyData.dict ds).showable = true ∧ (PyData.dict ds).depth ≤ 100 ∧ (PyData.dict ds).shown.length ≤ sizeLine ∧ Q (.str (PyData.dict ds).shown) H
theorem cr_reprD (hg : X.A.guards = some []) (hu : X.A.units + 200 < cLine) : CallR X (.builtin "repr") (rReprD X.K) := by
  intro pins s σ H xs us Q I r h
  rcases h with h | ⟨O, a, ds, kvs, G, rfl, hd, rk, hf, h1, h3, h4, q⟩
  · exact cr_repr hg hu pins s σ H xs us Q I r h
  · obtain ⟨u, e, ru⟩ := vals1 r
    subst e
    cases ru
    obtain ⟨hs, es, n, vs, ho, kv, ps⟩ := dk_raw I hd
    obtain ⟨q1, q2⟩ := flat_reads (h := s.heap) rk hf kv ps
    have rr : Reads s.heap (.ref a) (.dict ds) _ := .dict ho rfl rfl q1 q2
    refine repr_of_reads' rr h1 (fun _ => ?_) hg (by omega) (fun _ _ e => e) (fun h' t tk k => ⟨.str _, H, I.kept k, ⟨t, rfl⟩, q⟩) h4
    intro hm
    simp only [List.append_nil, List.mem_singleton] at hm
    rw [hm] at hs
    simp at hs
def reprG1 (d : D) : T D := match isDk d, d with
  | true, .dict ds => ask (flatK ds = true ∧ (PyData.dict ds).showable = true ∧ (PyData.dict ds).depth ≤ 100 ∧ (PyData.dict ds).shown.length ≤ sizeLine) (.ret (.str (PyData.dict ds).shown))
  | _, d => repr1 d
theorem reprG_no {d : D} (h : isDk d = false) : reprG1 d = repr1 d := by unfold reprG1; rw [h]
theorem c_reprD : CallD C (rReprD C.K) (only reprG1) := by
  refine one_arg reprG1 (fun _ => rfl) rfl (fun _ _ _ => rfl) fun σ G H ρ b v d Q R rv q => ?_
  cases hk : isDk d with
  | false =>
    rw [reprG_no hk] at q
    obtain ⟨⟨h1, h2, h3, h4⟩, q⟩ := Go.ask q
    exact .inl ⟨v, d, rfl, dp_mono R.sub (dpn_of rv h2), h1, h2, h3, h4, q.retv R (.str _)⟩
  | true =>
    cases rv with
    | dct e r =>
      unfold reprG1 at q
      rw [hk] at q
      obtain ⟨⟨h0, h1, h3, h4⟩, q⟩ := Go.ask q
      exact .inr ⟨_, _, _, _, _, rfl, R.sub _ _ e, r, h0, h1, h3, h4, q.retv R (.str _)⟩
    | opq o => unfold hdl isDk at hk; cases hk
    | _ => cases hk
theorem pd_reprG {p : Pos} (hgu : X.A.guards = some []) (hu : X.A.units + 200 < cLine) (hg : Gl X "repr") (hm : X.mg "repr" = none) (ha : PDa X C (e :: es) fs) (hK : X.K = C.K := by rfl) (he : starEach (e :: es) X.env = (false, eval e X.env) :: starEach es X.env := by rfl) (hpl : (backTo pos (starEach es X.env)).any (·.1) = false := by rfl) :
    PD X C (.Call (.Name "repr" p) (e :: es) [] pos) (fun ρ => (fs ρ).bind (only reprG1)) := pd_cb (cr_reprD hgu hu) (by rw [hK]; exact c_reprD) hg hm (by decide +kernel) ha (by decide) (by decide) he hpl
/-- what may be shown: of n signs at most, a dict or none -/
structure Rq (n : Nat) (d : D) : Prop where
  rp : reprG1 d = .ret (.str d.shown)
  gd : Gd n d.shown
theorem rq_of {n k : Nat} {d : D} (h : Rp n k d) (hn : n ≤ 1000000) (hk : k ≤ 100) : Rq n d := by
  refine ⟨?_, h.gd⟩
  have : isDk d = false := by
    have := h.nd
    cases d with
    | dict kvs => simp [PyData.hasDict] at this
    | _ => rfl
  rw [reprG_no this, h.repr hn hk]
end
end Y
namespace Y
open PySem PySem.Spec PyProof.Rows L2
/-! ### O8: the pot of the laws of runs and ways -/
def potK (a1 : Addr) (st turn : Int) : List (Key × V) := [(.inr "far", .ref a1), (.inr "stirred", .int st), (.inr "turn", .int turn)]
structure PotP where
  p : Addr
  a1 : Addr
  st : Int
structure PotP.Ok (j : PotP) : Prop where
  p1 : j.p ≠ j.a1
  s0 : 0 ≤ j.st
  s1 : j.st < 2 ^ 33
def PotP.holds (j : PotP) (b : Nat) (H : Hp) : Prop := ∃ (far : List Int) (turn : Int), H j.p = some (.dK (potK j.a1 j.st turn)) ∧ H j.a1 = some (.lst (far.map .int)) ∧ 0 ≤ turn ∧ turn + b ≤ 2 ^ 40 ∧ far.length ≤ 100
def PotP.J (j : PotP) : Jr where
  fp b := b = j.p ∨ b = j.a1
  ok b H := j.holds b H
  loc b H H' := by
    rintro ⟨far, turn, h1, h2, h4⟩ k
    exact ⟨far, turn, by rw [k _ (.inl rfl)]; exact h1, by rw [k _ (.inr rfl)]; exact h2, h4⟩
  O v n := n = 0 ∧ v = .ref j.p
theorem pot_put {a1 : Addr} {s c d : Int} : putK (potK a1 s c) (.inr "turn") (.int d) = potK a1 s d := rfl
theorem drawP_in {K : PySem.W.Frag} {mg : Str → Option Value} {j : PotP} {vs : List V} {H : Hp} {Q : VK} {E : XK} (h : spD j.J K mg drawF 2 vs H Q E) :
    ∃ (n : Int) (c : Nat), vs = [.ref j.p, .int n] ∧ 0 < n ∧ n < 2 ^ 30 ∧ j.holds (c + 1) H ∧ ∀ r H', 0 ≤ r → r < n → Kp j.J.fp H H' → j.holds c H' → Q (.int r) H' := by
  obtain ⟨hn, G, b, ds, sub, jk, fr, rs, z⟩ := h
  unfold drawF at z
  split at z
  · rename_i d n
    cases rs with
    | cons r1 rs =>
      cases rs with
      | cons r2 rs =>
        cases rs
        cases r2
        split at z
        · rename_i hs
          have := isScr_eq hs
          subst this
          obtain ⟨_, rfl⟩ := opq_is r1
          obtain ⟨c, rfl, n0, n1, z⟩ := z
          exact ⟨n, c, rfl, n0, n1, jk, fun r H' r0 r1 k jc => z r r0 r1 (.int r) G H' (k.post sub fun a ha => (fr a ha).1) jc (.int r)⟩
        · exact z.elim
  · exact z.elim
def potD (far : List Int) (st : Int) : D := .dict [(.str "far", .list (far.map .int)), (.str "stirred", .int st), (.str "turn", .int 0)]
theorem pot_of {O : V → Int → Prop} {K : PySem.W.Frag} {G H : Hp} {v : V} {far : List Int} {st : Int} (sub : ∀ a o, G a = some o → H a = some o) {d : D} (r : RD O K G v d) (e : d = potD far st) (hf : far.length ≤ 100) (s0 : 0 ≤ st) (s1 : st < 2 ^ 33) :
    ∃ j : PotP, j.Ok ∧ v = .ref j.p ∧ j.holds (2 ^ 40) H := by
  cases r with
  | dct g rk =>
    rename_i p kvs ds
    unfold potD at e
    simp only [PyData.dict.injEq] at e
    obtain ⟨v1, r1, rfl, h1, k1⟩ := rdk_str rk e
    obtain ⟨v3, r3, rfl, h3, k3⟩ := rdk_str k1 rfl
    obtain ⟨v4, r4, rfl, h4, k4⟩ := rdk_str k3 rfl
    cases k4
    obtain ⟨a1, rfl, g1⟩ := rd_ints h1 rfl
    obtain rfl := rd_int h3 rfl
    obtain rfl := rd_int h4 rfl
    refine ⟨⟨p, a1, st⟩, ⟨fun z => ?_, s0, s1⟩, rfl, far, 0, sub _ _ g, sub _ _ g1, by decide, by decide, hf⟩
    have z : p = a1 := z
    rw [z, g1] at g; cases g
  | opq o => unfold potD at e; simp [hdl] at e
  | _ => cases e
section
variable {X : Cx} {K : PySem.W.Frag} {mg : Str → Option Value} {E : XK} {Dl : Rho → T Out} {sts : List Stmt}
def tRestP (K : PySem.W.Frag) (mg : Str → Option Value) (E : XK) (Dl : Rho → T Out) : TS := fun Dn σ H => ∃ j : PotP, j.Ok ∧ ∃ G HC, tS (ctOf j.J K mg G HC E) Dl Dn σ H
theorem psP_rest (h : ∀ (j : PotP) (G HC : Hp), j.Ok → PSs X sts (tS (ctOf j.J K mg G HC E) Dl)) : PSs X sts (tRestP K mg E Dl) := ⟨fun pins s σ H D I ⟨j, jo, G, HC, q⟩ => (h j G HC jo).run pins s σ H D I q⟩
theorem restP_ok {N : List Str} {a : Addr} {v : V} {H : Hp} {Q : VK} {nx : L2.St → Hp → Prop} {j : PotP} (jo : j.Ok) (hv : v = .ref j.p) (jh : j.holds (2 ^ 40) H) (hs : ((L2.start N []).set 0 (some (.ref a))).set 1 (some v) = (L2.start N [.ref a]).set 1 (some v))
    (q : ∀ H', Q (.bl true) H') (h : (Dl (rho0 N.length)).sat (2 ^ 40) (fun o _ => o = .rt (.bool true)) fun _ _ => False) :
    tRestP K mg E Dl { nx := nx, rt := Q } ((L2.start N [.ref a]).set 1 (some v)) H := by
  refine ⟨j, jo, fun _ => none, H, fun _ => none, rho0 N.length, 2 ^ 40, ?_, ?_⟩
  · rw [← hs]
    have R0 := rel_ini (C := ctOf j.J K mg (fun _ => none) H E) (b := 2 ^ 40) (N := N) (vs := []) (ds := []) (fun a o e => nomatch e) jh (fun a ha => ⟨rfl, ?_⟩) .nil
    · subst hv
      exact (R0.setU (some (.ref a))).set (.opq ⟨rfl, rfl⟩)
    · obtain ⟨far, turn, h1, h2, _⟩ := jh
      show H a ≠ none
      rcases ha with z | z
      · rw [z, h1]; simp
      · rw [z, h2]; simp
  · refine T.sat_mono (fun o c z => ?_) (fun _ _ z => z) h
    subst z
    intro v G' H' P jk r
    cases r
    exact q H'
end
def PotMath (F : List D → T D) : Prop := ∃ far st, F [hdl 0] = .ret (potD far st) ∧ far.length ≤ 100 ∧ 0 ≤ st ∧ st < 2 ^ 33
end Y
namespace Y
open PySem PySem.Spec PyProof.Rows L2
/-! ### O9: sorted, of one item at most too -/
section
open PySem.W
theorem sortsAt_one {prog : Program} {w : World} {A : Around} {s : Shared} {vs : List Value} {ds : List PyData} (e : EachIs (fun v d => ∃ as, Reads s.heap v d as) vs ds) (hal : AllAlike ds) (h1 : ds.length ≤ 1) (hn : ∀ d ∈ ds, d ≠ .none) (hu : ∀ d, d ∈ ds → A.units + d.depth < cLine) : SortsAt prog w A s (dataKind s.heap ds) vs := by
  have room : ∀ {d d' : PyData}, d ∈ ds → A.units + min d.depth d'.depth < cLine := fun {d d'} hd => Nat.lt_of_le_of_lt (Nat.add_le_add_left (Nat.min_le_left _ _) _) (hu d hd)
  refine ⟨fun v hv => ?_, general', ?_, fun h2 => ?_⟩
  · obtain ⟨d, hd, as, r⟩ := e.left v hv
    exact ⟨_, dataKind_some hal hd r⟩
  · intro E x y a b Q ha hb hq
    obtain ⟨d, as, hd, ra, rfl⟩ := dataKind_inv ha
    obtain ⟨d', as', hd', rb, rfl⟩ := dataKind_inv hb
    show wpAny _ _ (oneLt' false x y) _ _ _
    exact oneLt_alike (fun h => by cases h) ra rb (hal d hd d' hd') (hn d hd) (room hd) hq
  · exfalso
    have : vs.length = ds.length := Y.each_len e
    omega
end
section
variable {X : Cx} {C : Ct} {σ : L2.St} {G H : Hp} {pos : Pos} {p : Pos}
def rSortedX (K : PySem.W.Frag) : List V → Hp → VK → Prop := fun vs H Q => rSortedDT K vs H Q ∨ ∃ (a : Addr) (xs : List V) (ds : List D) (M : V → D → Prop), vs = [V.ref a] ∧ SqL K H a xs ∧ EachI M xs ds ∧ (∀ x d, M x d → d ∈ ds → Dp K H x d) ∧ (∀ x ∈ ds, ∀ y ∈ ds, PySem.W.alike x y = true) ∧ ds.length ≤ 1 ∧ (∀ d ∈ ds, d ≠ .none) ∧ (∀ d ∈ ds, d.depth ≤ 50) ∧
  ∀ p ys, EachI M ys (ds.mergeSort (PySem.W.dataLe false id)) → H p = none → Q (.ref p) (upd H p (.lst ys))
open PySem.W in
theorem cr_sortedX (hu : X.A.units + 64 < cLine) : CallR X (.builtin "sorted") (rSortedX X.K) := by
  intro pins s σ H vs us Q I r h
  rcases h with h | ⟨a, xs, ds, M, hv, hs, hm, hd, ha, h1, hn, hz, q⟩
  · exact cr_sortedDT hu pins s σ H vs us Q I r h
  subst hv
  obtain ⟨its, rv, hl, hz2⟩ := I.list hs
  rw [Vals.ref1 r]
  have e1 := each_vals rv hm
  have hlen : ds.length = its.length := by rw [← Y.each_len e1]
  have hL : its.length ≤ sizeLine := by rw [← rv.length]; exact hz2
  have er : EachIs (fun v d => ∃ as, Reads s.heap v d as) its ds := by
    refine (each_mem e1).mono fun u d h => ?_
    obtain ⟨⟨x, rx, mx⟩, hmem⟩ := h
    obtain ⟨as, rd⟩ := Dp.reads I d x u (hd x d mx hmem) rx
    exact ⟨as, rd⟩
  have er2 : EachIs (fun v d => ∃ as, Reads (sortingHeap (copyHeap s.heap its) (s.heap.objs.size + 1) its) v d as) its ds :=
    er.mono fun _ _ ⟨as, r⟩ => ⟨as, PyProof.Rows.Reads.keeps (fun _ _ => sorting_copy_old) r⟩
  have hal : AllAlike (ds.map id) := by rw [List.map_id]; exact fun d h1 d' h2 => ha d h1 d' h2
  refine sorted_vals hl.isList (sortsAt_one (s := { s with heap := sortingHeap (copyHeap s.heap its) (s.heap.objs.size + 1) its }) er2 (fun d h1 d' h2 => ha d h1 d' h2) h1 hn fun d h => by have := hz d h; simp only [Around.in1]; omega) hL ?_
  have h2 : EachIs (fun u d => ∃ x, RelV x u ∧ M x d) (sortVals (dataKind (sortingHeap (copyHeap s.heap its) (s.heap.objs.size + 1) its) (ds.map id)) false its its) (ds.mergeSort (dataLe false id)) :=
    sortVals_data (enc := id) false e1 er2 hal
  rw [List.map_id] at h2
  obtain ⟨ys, v1, v2⟩ := vals_each h2
  generalize hout : sortVals (dataKind (sortingHeap (copyHeap s.heap its) (s.heap.objs.size + 1) its) ds) false its its = out at v1
  have hlo : out.length = its.length := by rw [← hout]; exact sortVals_length false rfl
  obtain ⟨ep, he'⟩ := PyProof.Rows.sortedAll_at s.heap its (List.toArray out)
  have hlen2 : ys.length ≤ sizeLine := by rw [v1.length, hlo]; exact hL
  exact ⟨.ref _, upd H (s.heap.objs.size + 1) (.lst ys), I.laid (t' := s.toks) (fun _ _ => PyProof.Rows.sortedAll_old) (Nat.le_succ _) ⟨hlen2, out, ep, v1, he'⟩, rfl, q _ _ v2 (I.hok.fresh (Nat.le_succ _))⟩
def oneB (ds : List D) : Bool := decide (ds.length ≤ 1) && ds.all noNone
def sortedX : D → T D
  | .list ds => if oneB ds then ask (alikeL ds = true ∧ PyData.hasDictAll ds = false ∧ PyData.depthAll ds ≤ 50) (.ret (.list (sortL ds))) else sorted1 (.list ds)
  | d => sorted1 d
theorem c_sortedX : CallD C (rSortedX C.K) (only sortedX) := by
  refine one_arg sortedX (fun _ => rfl) rfl (fun _ _ _ => rfl) fun σ G H ρ b v d Q R rv q => ?_
  have old : ∀ {d : D}, RD C.J.O C.K G v d → Go C σ G H ρ b (sorted1 d) (fun d G' H' _ => ∀ v, RD C.J.O C.K G' v d → Q v H') → rSortedDT C.K [v] H Q := fun {d} rv q =>
    c_sorted σ G H ρ b [v] [d] Q R (.cons rv .nil) (show Go C σ G H ρ b (only sorted1 [d]) _ from q)
  by_cases hl : ∃ ds, d = .list ds ∧ oneB ds = true
  · obtain ⟨ds, rfl, h1⟩ := hl
    unfold sortedX at q
    simp only [h1, if_true] at q
    unfold oneB at h1
    rw [Bool.and_eq_true, List.all_eq_true] at h1
    cases rv with
    | lst e r =>
      rename_i a xs
      obtain ⟨⟨h2, h3, h4⟩, q⟩ := Go.ask (show Go C σ G H ρ b (ask _ _) _ from q)
      exact .inr ⟨a, xs, ds, RD C.J.O C.K G, rfl, SqL.of (R.sub _ _ e), each_rds r, fun x d m hm => dp_mono R.sub (dpn_of m (hasDict_mem h3 hm)), alikeL_ok h2, of_decide_eq_true h1.1, fun d hd => noNone_ok (h1.2 d hd), fun d hm => Nat.le_trans (depth_mem hm) h4, fun p ys hy n => q.newL R n (rds_each hy)⟩
  · refine .inl (old rv ?_)
    have e : sortedX d = sorted1 d := by
      cases d with
      | list ds =>
        exact if_neg fun z => hl ⟨ds, rfl, z⟩
      | _ => rfl
    rw [e] at q
    exact q
theorem pd_sortedX {e : Expr} {es : List Expr} {fs : Rho → T (List D)} {p pos : Pos} (hu : X.A.units + 64 < cLine) (hg : Gl X "sorted") (hm : X.mg "sorted" = none) (ha : PDa X C (e :: es) fs) (hK : X.K = C.K := by rfl) (he : starEach (e :: es) X.env = (false, eval e X.env) :: starEach es X.env := by rfl) (hpl : (backTo pos (starEach es X.env)).any (·.1) = false := by rfl) :
    PD X C (.Call (.Name "sorted" p) (e :: es) [] pos) (fun ρ => (fs ρ).bind (only sortedX)) := pd_cb (cr_sortedX hu) (by rw [hK]; exact c_sortedX) hg hm (by decide +kernel) ha (by decide) (by decide) he hpl
end
end Y
namespace Y
open PySem PySem.Spec PyProof.Rows L2
/-! ### O10: min(xs, default=None) -/
section
variable {X : Cx} {C : Ct} {σ : L2.St} {G H : Hp} {pos : Pos} {p : Pos} {e : Expr} {es : List Expr} {fs gs : Rho → T (List D)}
def rMinDef (K : PySem.W.Frag) : List V → List V → Hp → VK → Prop := fun vs zs H Q => zs = [.non] ∧ (rMinD K vs H Q ∨ ∃ a, vs = [V.ref a] ∧ SqL K H a [] ∧ Q .non H)
theorem cr_minDef (hc : X.calm = true) (hu : X.A.units + 64 < cLine) : CallRK X (.builtin "min") [Str.ofString "default"] (rMinDef X.K) := by
  intro pins s σ H vs zs us ws Q I r rz h
  obtain ⟨rfl, h⟩ := h
  obtain ⟨w1, rfl, e1⟩ := vals1 rz
  obtain rfl : w1 = Value.none := e1
  rcases h with ⟨a, xs, d, ds, rfl, hs, hd, ha, hz, q⟩ | ⟨a, rfl, hs, q⟩
  · obtain ⟨its, rv, hl, _⟩ := I.list hs
    obtain rfl := Vals.ref1 r
    obtain ⟨as, rs⟩ := Dp.readsAll I _ _ _ hd rv
    refine PySem.W.min_list_default (I.ok.hd hc) hl.isList (by simpa using rs) ha (by omega) (fun z => nomatch z) fun y ys i v h' tk bs hy hi rd hk => ?_
    cases hy
    obtain ⟨x, hx, rx, hdi⟩ := min_pick I hd rv ha.1 hi rd hk
    exact ⟨x, H, I.kept hk, rx, q i x hx hdi⟩
  · obtain ⟨its, rv, hl, _⟩ := I.list hs
    obtain rfl := Vals.ref1 r
    cases rv
    refine PySem.W.min_list_default (xs := []) (as := []) (I.ok.hd hc) hl.isList (by simpa using PySem.ReadsAll.nil) ⟨fun x hx => (nomatch hx), fun x hx => (nomatch hx)⟩ (by simp [PyData.depthAll]; omega) (fun _ h' tk hk => ?_) fun y ys i v h' tk bs hy hi rd hk => nomatch hy
    exact ⟨.non, H, I.kept hk, rfl, q⟩
def minDefL : List D → List D → T D
  | [d], [.none] => minDef1 d
  | _, _ => .bad
theorem d_minDef : ∀ σ H Q, tD C (fun ρ => (fs ρ).bind fun ds => (gs ρ).bind fun es => minDefL ds es) σ H Q → tCKw (rMinDef C.K) (tA C fs) (tA C gs) σ H Q := by
  rintro σ H Q ⟨G, ρ, b, R, h⟩
  refine ⟨G, ρ, b, R, (Go.bind R h).mono fun ds G1 H1 c P j z vs rs => ?_⟩
  refine ⟨G1, ρ, c, z.1, (Go.bind z.1 z.2).mono fun es G2 H2 c2 P2 j2 z2 zs rz => ?_⟩
  obtain ⟨R2, z2⟩ := z2
  have rs2 := rs.mono P2.gg
  unfold minDefL at z2
  split at z2
  · rename_i d
    cases rz with
    | cons r0 r1 =>
      cases r1
      cases r0
      refine ⟨rfl, ?_⟩
      cases rs2 with
      | cons rv r1 =>
        cases r1
        unfold minDef1 at z2
        split at z2
        · cases rv with
          | lst e r =>
            cases r
            exact .inr ⟨_, rfl, SqL.of (R2.sub _ _ e), (z2.ret R2).2.2 _ .non⟩
        · rename_i ds _
          refine .inl (c_minD σ G2 H2 ρ c2 [_] [.list ds] Q R2 (.cons rv .nil) ?_)
          exact z2.mono fun _ _ _ _ _ _ q => q.2.2
        · exact z2.bad.elim
  · exact z2.bad.elim
theorem pd_minDef {kws : List Keyword} (hc : X.calm = true) (hu : X.A.units + 64 < cLine) (hg : Gl X "min") (hm : X.mg "min" = none) (ha : PDa X C (e :: es) fs) (hkw : PDk X C kws gs) (hK : X.K = C.K := by rfl)
    (he : backTo pos (starEach (e :: es) X.env) = (false, eval e X.env) :: backTo pos (starEach es X.env) := by rfl) (hpl : (backTo pos (starEach (e :: es) X.env)).any (·.1) = false := by rfl)
    (hall : (backToKw pos (keywordEach kws X.env)).all (·.1.isSome) = true := by rfl) (hnone : (backToKw pos (keywordEach kws X.env)).any (·.1.isNone) = false := by rfl) (hks : (backToKw pos (keywordEach kws X.env)).filterMap (·.1) = [Str.ofString "default"] := by rfl) :
    PD X C (.Call (.Name "min" p) (e :: es) kws pos) (fun ρ => (fs ρ).bind fun ds => (gs ρ).bind fun es => minDefL ds es) := PEto (pe_callBK (cr_minDef hc hu) hg hm (by decide +kernel) ha hkw (by decide) (by decide) he hpl hall hnone hks) (by rw [hK]; exact d_minDef)
end
end Y
namespace Y
open PySem PySem.Spec PyProof.Rows L2
/-! ### O11: x = TABLE[e]; return x(args) -/
section
variable {X : Cx} {C : Ct} {σ : L2.St} {G H G' H' : Hp} {ρ : Rho} {b c : Nat} {e : Expr} {es : List Expr} {pos p : Pos} {f : Rho → T D} {fs : Rho → T (List D)}
theorem Rel.unset (R : Rel C G H ρ σ b) {i : Nat} {v : V} : Rel C G H (ρ.set i .un) (σ.set i (some v)) b := by
  obtain ⟨α, ho, hi⟩ := R.own
  have back : ∀ (k : Nat) (es : List D), (ρ.set i S.un)[k]? = some (S.ow es) → i ≠ k ∧ ρ[k]? = some (S.ow es) := fun k es e => by
    by_cases hk : i = k
    · subst hk
      rw [List.getElem?_set] at e
      simp only [if_true] at e
      split at e <;> cases e
    · rw [List.getElem?_set_ne hk] at e
      exact ⟨hk, e⟩
  refine ⟨R.post, R.jar, R.jfr, R.jth, ⟨α, fun k ds q => ?_, fun k l ds es q1 q2 => ?_⟩, fun k d q => ?_, by rw [List.length_set, List.length_set]; exact R.len⟩
  · obtain ⟨hk, q⟩ := back k ds q
    obtain ⟨a1, a2⟩ := ho k ds q
    exact ⟨by rw [List.getElem?_set_ne hk]; exact a1, a2⟩
  · exact hi k l ds es (back k ds q1).2 (back l es q2).2
  · by_cases hk : i = k
    · subst hk
      rw [List.getElem?_set] at q
      simp only [if_true] at q
      split at q <;> cases q
    · rw [List.getElem?_set_ne hk] at q
      obtain ⟨v, a1, a2⟩ := R.dat k d q
      exact ⟨v, by rw [List.getElem?_set_ne hk]; exact a1, a2⟩
abbrev TabL := List (Str × (List D → T D))
def tabF : TabL → Str → Option (List D → T D)
  | [], _ => none
  | (x, F) :: r, z => if x == z then some F else tabF r z
def callTab (i n : Nat) (tab : TabL) (f : Rho → T D) (fs : Rho → T (List D)) : Rho → T Out := atS f fun ρ d => match d with
  | .str z => match tabF tab z with
    | some F => if i < ρ.length then retS (callD n F fs) (ρ.set i .un) else .bad
    | none => .bad
  | _ => .bad
/-- a def that a table holds -/
structure TabE (P : Program) (w : World) (J : Jr) (K : PySem.W.Frag) (mg : Str → Option Value) (base : Heap) (k n : Nat) (d : Addr) (z : Str) (F : List D → T D) (fa : Addr) (fd : FuncData) (ps : List Str) : Prop where
  fn : FnG P w K mg base k fa fd ps (spD J K mg F ps.length)
  kp : PySem.W.keepIn K (.ref fa) = true
  bi : Binds K fd ps []
  ln : ps.length = n
  at_ : KDct K w d z (.ref fa)
def TabOk (P : Program) (w : World) (J : Jr) (K : PySem.W.Frag) (mg : Str → Option Value) (base : Heap) (k n : Nat) (d : Addr) (tab : TabL) : Prop := ∀ z F, tabF tab z = some F → ∃ fa fd ps, TabE P w J K mg base k n d z F fa fd ps
theorem tab_nil {P : Program} {w : World} {J : Jr} {K : PySem.W.Frag} {mg : Str → Option Value} {base : Heap} {k n : Nat} {d : Addr} : TabOk P w J K mg base k n d [] := fun _ _ h => nomatch h
theorem tab_cons {P : Program} {w : World} {J : Jr} {K : PySem.W.Frag} {mg : Str → Option Value} {base : Heap} {k n j : Nat} {d : Addr} {x z : Str} {st : Stmt} {F : List D → T D} {fa : Addr} {fd : FuncData} {ps : List Str} {r : TabL} {es : Array DictEntry} {m : Nat}
    (c : Cal P w J K mg base j x st ps F fa fd) (hj : j ≤ k) (ln : ps.length = n) (hl : K.lookup d = some ⟨.type "dict", none, .dict es m, #[]⟩) (hk : PySem.W.KeysLit w.params es.toList) (hn : PySem.W.nsIn K d z = some (some (.ref fa))) (h : TabOk P w J K mg base k n d r) : TabOk P w J K mg base k n d ((z, F) :: r) := by
  intro y G e
  unfold tabF at e
  split at e
  · rename_i q
    cases e
    have : z = y := by simpa using q
    subst this
    exact ⟨fa, fd, ps, c.fn.up hj, c.kp, c.bi, ln, es, m, .ref fa, hl, hk, hn, rfl⟩
  · exact h y G e
def tTab (C : Ct) (P : Program) (w : World) (base : Heap) (k n i : Nat) (d : Addr) (t : TA) : TE := fun σ H Q => ∃ z F fa fd ps, TabE P w C.J C.K C.mg base k n d z F fa fd ps ∧ σ[i]? = some (some (.ref fa)) ∧ t σ H fun vs H1 => spD C.J C.K C.mg F n vs H1 Q (WE C.W σ)
theorem s_callTab {P : Program} {w : World} {base : Heap} {k n i : Nat} {d : Addr} {tab : TabL} (ok : TabOk P w C.J C.K C.mg base k n d tab) : ∀ Dn σ H, tS C (callTab i n tab f fs) Dn σ H → tSeq (tAsg (tOp (rIxD C.K w) (tC (.ref d)) (tD C f)) (gName i)) (tRet (tTab C P w base k n i d (tA C fs))) Dn σ H := by
  rintro Dn σ H ⟨G, ρ, b, R, h⟩
  show tD C f σ H _
  refine ⟨G, ρ, b, R, (S_go R h).mono fun dd G1 H1 c P1 j z y ry => ?_⟩
  obtain ⟨R1, z⟩ := z
  cases ry with
  | str x =>
    dsimp only at z
    cases e : tabF tab x with
    | none => rw [e] at z; exact z.elim
    | some F =>
      rw [e] at z
      dsimp only at z
      split at z
      · rename_i hlt
        obtain ⟨fa, fd, ps, te⟩ := ok x F e
        refine ⟨d, x, .ref fa, rfl, rfl, te.at_, ?_⟩
        show tTab C P w base k n i d (tA C fs) (σ.set i (some (.ref fa))) H1 Dn.rt
        have R2 := R1.unset (i := i) (v := .ref fa)
        have q := s_ret (f := callD n F fs) Dn (σ.set i (some (.ref fa))) H1 ⟨G1, _, c, R2, z⟩
        exact ⟨x, F, fa, fd, ps, te, List.getElem?_set_self (by rw [← R1.len]; exact hlt), d_call _ _ _ q⟩
      · exact z.elim
  | _ => exact z.elim
theorem pe_callTab {k n i : Nat} {d : Addr} {x : Str} (hr : Room k X.A) (hgu : X.A.guards = some []) (tk : Takes X C.W) (hN : X.N[i]? = some x) (hv : Vis X.env.scope x) (ha : PDa X C (e :: es) fs) (hK : X.K = C.K) (hM : X.mg = C.mg)
    (hd : (x == ("__debug__" : Str)) = false := by decide) (hcd : (x == ("__classdict__" : Str)) = false := by decide)
    (he : starEach (e :: es) X.env = (false, eval e X.env) :: starEach es X.env := by rfl) (hpl : (backTo pos (starEach es X.env)).any (·.1) = false := by rfl) : PE X (.Call (.Name x p) (e :: es) [] pos) (tTab C X.prog X.w X.base k n i d (tA C fs)) := by
  refine ⟨fun pins s σ H Q I h => ?_⟩
  obtain ⟨z, F, fa, fd, ps, te, hs, h⟩ := h
  obtain ⟨fn, kp, bi, ln, _⟩ := te
  rw [← hK, ← hM] at fn
  rw [← hK] at kp bi
  refine wpAny_Call_Name_kw (thn ((pe_var (pos := p) (i := i) hN hv hd hcd).run pins s σ H (fun v H1 => v = .ref fa ∧ H1 = H) I ⟨.ref fa, hs, rfl, rfl⟩) fun u s1 ⟨v, H1, I1, r1, ev, eH⟩ => ?_)
  subst ev
  rw [eH] at I1
  cases r1
  refine PySem.W.callWith_K (h₀ := X.base) I.ok.mod.kin kp (thn (ha.run pos pins s1 σ H _ I1 h) fun us s2 ⟨vs, H2, I2, r, q⟩ => ⟨I2.kIn, ?_⟩) he hpl
  rw [← ln] at q
  rw [← hK, ← hM] at q
  exact runG (args := ⟨us, []⟩) fn hr hgu tk I2 (fun z => by have := bi s2 us I2.kIn (by rw [List.append_nil]; exact z); rwa [List.append_nil] at this) r q
theorem pds_callTab {k n i : Nat} {d : Addr} {tab : TabL} {x t : Str} {a : Expr} {pos' pos2 pos3 pos4 pt : Pos} (ok : TabOk X.prog X.w C.J C.K C.mg X.base k n d tab) (hr : Room k X.A) (hgu : X.A.guards = some []) (tk : Takes X C.W) (hg : Gl X t) (hm : X.mg t = some (.ref d)) (hf : PD X C a f) (hN : X.N.Nodup) (ha : PDa X C (e :: es) fs)
    (hi : X.N[i]? = some x := by rfl) (hx : Loc X.env.scope x := by first | exact Or.inl rfl | exact Or.inr rfl) (hv : Vis X.env.scope x := by first | exact Or.inl rfl | exact Or.inr (Or.inl rfl) | exact Or.inr (Or.inr rfl)) (hs : PlainIx a := by exact fun _ _ => rfl) (hsw : swapsWith (.Subscript (.Name t pt) a pos2) (some (.Name x pos')) pos.line X.env = pure false := by rfl)
    (hfn : X.fn x = true ∨ X.env.scope.names.lookup x = some .local := by first | exact .inl rfl | exact .inr rfl | assumption) (hK : X.K = C.K := by rfl) (hM : X.mg = C.mg := by rfl) (hdt : (t == ("__debug__" : Str)) = false := by decide)
    (hd : (x == ("__debug__" : Str)) = false := by decide) (hcd : (x == ("__classdict__" : Str)) = false := by decide)
    (he : starEach (e :: es) X.env = (false, eval e X.env) :: starEach es X.env := by rfl) (hpl : (backTo pos3 (starEach es X.env)).any (·.1) = false := by rfl) :
    PDs X C [.Assign [.Name x pos'] (.Subscript (.Name t pt) a pos2) pos, .Return (some (.Call (.Name x p) (e :: es) [] pos3)) pos4] (callTab i n tab f fs) := by
  refine PSstoD (pss_cons (ps_set hN hi hx (pe_ix ix_kdict (pe_glob hg hm (v := .ref d) rfl hdt) hf hs) hsw hfn) (pss_one (ps_ret (pe_callTab (k := k) (n := n) (d := d) hr hgu tk hi hv ha hK hM hd hcd he hpl)))) ?_
  rw [hK]
  exact s_callTab ok
@[simp] theorem callTab_eq {i n : Nat} {tab : TabL} : callTab i n tab f fs ρ = atT (f ρ) (fun d => match d with
  | .str z => match tabF tab z with
    | some F => if i < ρ.length then retS (callD n F fs) (ρ.set i .un) else .bad
    | none => .bad
  | _ => .bad) ρ := atS_eq
structure TabH (w : World) (K : PySem.W.Frag) (mg : Str → Option Value) (x : Str) (d : Addr) (es : Array DictEntry) (m : Nat) (l : List (Str × Addr)) : Prop where
  mg : mg x = some (.ref d)
  lk : K.lookup d = some ⟨.type "dict", none, .dict es m, #[]⟩
  kl : PySem.W.KeysLit w.params es.toList
  ns : ∀ p ∈ l, PySem.W.nsIn K d p.1 = some (some (.ref p.2))
theorem pds_bad {st : List Stmt} : PDs X C st (fun _ => .bad) := ⟨fun pins s σ H D I q => by
  obtain ⟨G, ρ, b, R, h⟩ := q
  exact h.elim⟩
/-! ### defs that call themselves -/
theorem fnD_bad {P : Program} {w : World} {J : Jr} {K : PySem.W.Frag} {mg : Str → Option Value} {base : Heap} {k n : Nat} {f : Addr} {fd : FuncData} {ps : List Str} {F : List D → T D} (h : FnG P w K mg base k f fd ps (spD J K mg F n)) : FnG P w K mg base k f fd ps (spD J K mg (fun _ => .bad) n) :=
  h.weak fun vs H Q E q => by
    obtain ⟨_, G, b, ds, _, _, _, _, z⟩ := q
    exact z.elim
end
end Y
namespace Y
open PySem PySem.Spec PyProof.Rows L2
/-! ### four names at once, the first two of which are lists of ours -/
section
variable {X : Cx} {C : Ct} {σ : L2.St} {G H G' H' : Hp} {ρ : Rho} {e : Expr} {es : List Expr} {pos : Pos} {f g : Rho → T D} {fs gs : Rho → T (List D)}
def parLLDD (i j l m : Nat) (fs gs : Rho → T (List D)) (f g : Rho → T D) : Rho → T Out :=
  atS (fun ρ => (fs ρ).bind fun d => (gs ρ).bind fun e => (f ρ).bind fun x => (g ρ).bind fun y => .ret (d, e, x, y)) fun ρ p => .ret (.nx ((((ρ.set i (.ow p.1)).set j (.ow p.2.1)).set l (.dt p.2.2.1)).set m (.dt p.2.2.2)))
theorem s_parLLDD {i j l m : Nat} : ∀ Dn σ H, tS C (parLLDD i j l m fs gs f g) Dn σ H → tAsg (tTupP (tCons (tL C fs) (tCons (tL C gs) (tCons (tD C f) (tCons (tD C g) tNil))))) (gTup C.K 4 (gCons (gName i) (gCons (gName j) (gCons (gName l) (gCons (gName m) gNil))))) Dn σ H := by
  rintro Dn σ H ⟨G, ρ, b, R, h⟩
  refine ⟨G, ρ, b, R, (Go.bind R (S_go R h)).mono fun d G1 H1 c P k z p1 xs1 n1 g1 e1 rs1 => ?_⟩
  obtain ⟨R1, z⟩ := z
  refine ⟨G1, ρ, c, R1, (Go.bind R1 z).mono fun ds G2 H2 c2 P2 k2 z2 p xs n g2 e2 rs => ?_⟩
  obtain ⟨R2, z2⟩ := z2
  refine ⟨G2, ρ, c2, R2, (Go.bind R2 z2).mono fun d3 G3 H3 c3 P3 k3 z3 v rv => ?_⟩
  obtain ⟨R3, z3⟩ := z3
  refine ⟨G3, ρ, c3, R3, (Go.bind R3 z3).mono fun d4 G4 H4 c4 P4 k4 z4 v4 rv4 => ?_⟩
  obtain ⟨R4, z4⟩ := z4
  have n0 : C.H0 p = none := rel_none R1 n
  have n01 : C.H0 p1 = none := rel_none R n1
  have stay : ∀ {Ga Ha Gb Hb : Hp} {ρ σ b} {q : Addr} {ys : List V}, Rel C Ga Ha ρ σ b → Post C.J.fp Ga Ha Gb Hb → C.H0 q = none → Ga q = none → Ha q = some (.lst ys) → Gb q = none ∧ Hb q = some (.lst ys) := by
    intro Ga Ha Gb Hb ρ σ b q ys R P n0 g e
    refine ⟨?_, P.hh q _ (fun ff => R.jth q ff n0) e⟩
    cases z : Gb q with
    | none => rfl
    | some o =>
      rcases P.fr q (by rw [z]; simp) with y | y
      · exact absurd g y
      · rw [e] at y; cases y
  obtain ⟨g21, e21⟩ := stay R1 P2 n01 g1 e1
  obtain ⟨g31, e31⟩ := stay R2 P3 n01 g21 e21
  obtain ⟨g41, e41⟩ := stay R3 P4 n01 g31 e31
  obtain ⟨g32, e32⟩ := stay R2 P3 n0 g2 e2
  obtain ⟨g42, e42⟩ := stay R3 P4 n0 g32 e32
  have ne : p ≠ p1 := fun z => by rw [z] at n; rw [n] at e1; cases e1
  refine ⟨(by show 4 ≤ sizeLine; decide), fun t o nt hc hd => ?_⟩
  have pt1 : p1 ≠ t := fun z => by rw [z] at e41; rw [nt] at e41; cases e41
  have pt : p ≠ t := fun z => by rw [z] at e42; rw [nt] at e42; cases e42
  obtain ⟨_, P5, R5, _, _, z5⟩ := z4 G4 (upd H4 t (.frz o (.tup [.ref p1, .ref p, v, v4]))) (.newH R4.sub nt) (C.J.loc c4 H4 _ R4.jar fun a ha => upd_ne fun z => R4.post.th a (R4.jth a ha) (by rw [z]; exact nt))
  refine ⟨t, [.ref p1, .ref p, v, v4], rfl, (SqP.of upd_same hc hd).T, rfl, .ref p1, [.ref p, v, v4], rfl, .ref p, [v, v4], rfl, v, [v4], rfl, v4, [], rfl, rfl, z5 _ _ _ (Gr.refl _) ?_⟩
  have R4 := R4.step (.newH R4.sub nt) (C.J.loc c4 H4 (upd H4 t (.frz o (.tup [.ref p1, .ref p, v, v4]))) R4.jar fun a ha => upd_ne fun z => R4.post.th a (R4.jth a ha) (by rw [z]; exact nt))
  refine (((R4.setO (i := i) g41 n01 (by rw [upd_ne pt1]; exact e41) (((rs1.mono P2.gg).mono P3.gg).mono P4.gg) fun k es hk q => no_slot R n1 k es q).setO (i := j) g42 n0 (by rw [upd_ne pt]; exact e42) ((rs.mono P3.gg).mono P4.gg) fun k es hk q => ?_).set (rv.mono P4.gg)).set rv4
  by_cases hki : i = k
  · subst hki
    have hl : i < σ.length := by
      have := (List.getElem?_eq_some_iff.mp q).1
      rw [List.length_set, R3.len] at this
      exact this
    rw [List.getElem?_set_self hl]
    intro z
    cases z
    exact ne rfl
  · rw [List.getElem?_set_ne hki] at q ⊢
    exact no_slot R1 n k es q
theorem pd1_parLLDD (i j l m : Nat) {x y z u : Str} {a b c d : Expr} {px py pz pu pt : Pos} {kt k2 pt2} (hc : X.calm = true) (hN : X.N.Nodup) (ha : PDL X C a fs) (hb : PDL X C b gs) (hcf : PD X C c f) (hdg : PD X C d g) (hi : X.N[i]? = some x := by rfl) (hj : X.N[j]? = some y := by rfl) (hl : X.N[l]? = some z := by rfl) (hm : X.N[m]? = some u := by rfl)
    (hx : Loc X.env.scope x := by first | exact Or.inl rfl | exact Or.inr rfl) (hy : Loc X.env.scope y := by first | exact Or.inl rfl | exact Or.inr rfl) (hz : Loc X.env.scope z := by first | exact Or.inl rfl | exact Or.inr rfl) (hu : Loc X.env.scope u := by first | exact Or.inl rfl | exact Or.inr rfl)
    (hfx : X.fn x = true ∨ X.env.scope.names.lookup x = some .local := by first | exact .inl rfl | exact .inr rfl | assumption) (hfy : X.fn y = true ∨ X.env.scope.names.lookup y = some .local := by first | exact .inl rfl | exact .inr rfl | assumption) (hfz : X.fn z = true ∨ X.env.scope.names.lookup z = some .local := by first | exact .inl rfl | exact .inr rfl | assumption) (hfu : X.fn u = true ∨ X.env.scope.names.lookup u = some .local := by first | exact .inl rfl | exact .inr rfl | assumption)
    (hn : (assignEach [.Name x px, .Name y py, .Name z pz, .Name u pu] X.env).length = 4 := by rfl) (hst : (assignEach [.Name x px, .Name y py, .Name z pz, .Name u pu] X.env).findIdx? (·.1) = none := by rfl)
    (hq1 : (assignEach [.Name x px, .Name y py, .Name z pz, .Name u pu] X.env).map (·.2) = assign (.Name x px) X.env :: (assignEach [.Name y py, .Name z pz, .Name u pu] X.env).map (·.2) := by rfl)
    (hq2 : (assignEach [.Name y py, .Name z pz, .Name u pu] X.env).map (·.2) = assign (.Name y py) X.env :: (assignEach [.Name z pz, .Name u pu] X.env).map (·.2) := by rfl)
    (hq3 : (assignEach [.Name z pz, .Name u pu] X.env).map (·.2) = assign (.Name z pz) X.env :: (assignEach [.Name u pu] X.env).map (·.2) := by rfl)
    (hq4 : (assignEach [.Name u pu] X.env).map (·.2) = assign (.Name u pu) X.env :: (assignEach [] X.env).map (·.2) := by rfl)
    (hw : swappedStores [.Tuple [.Name x px, .Name y py, .Name z pz, .Name u pu] kt pt] (.Tuple [a, b, c, d] k2 pt2) X.env = pure none := by rfl)
    (hs : swapsWithSole [.Tuple [.Name x px, .Name y py, .Name z pz, .Name u pu] kt pt] (.Tuple [a, b, c, d] k2 pt2) pos.line X.env = pure false := by rfl)
    (h1 : (assignEach [.Tuple [.Name x px, .Name y py, .Name z pz, .Name u pu] kt pt] X.env).map (·.2) = [assign (.Tuple [.Name x px, .Name y py, .Name z pz, .Name u pu] kt pt) X.env] := by rfl)
    (hs1 : starEach [a, b, c, d] X.env = (false, eval a X.env) :: starEach [b, c, d] X.env := by rfl) (hs2 : starEach [b, c, d] X.env = (false, eval b X.env) :: starEach [c, d] X.env := by rfl) (hs3 : starEach [c, d] X.env = (false, eval c X.env) :: starEach [d] X.env := by rfl) (hs4 : starEach [d] X.env = (false, eval d X.env) :: starEach [] X.env := by rfl) (hK : X.K = C.K := by rfl) :
    PD1 X C (.Assign [.Tuple [.Name x px, .Name y py, .Name z pz, .Name u pu] kt pt] (.Tuple [a, b, c, d] k2 pt2) pos) (parLLDD i j l m fs gs f g) :=
  PStoD (ps_asg (pe_tupP (pa_cons ha (pa_cons hb (pa_cons hcf (pa_cons hdg pa_nil hs4) hs3) hs2) hs1)) (pg_tup hc (pgs_cons (pg_name hN hi hx hfx) (pgs_cons (pg_name hN hj hy hfy) (pgs_cons (pg_name hN hl hz hfz) (pgs_cons (pg_name hN hm hu hfu) pgs_nil hq4) hq3) hq2) hq1) hn hst) hs hw h1) (by rw [hK]; exact s_parLLDD)
@[simp] theorem q_parLLDD {i j l m : Nat} {K : Rho → T Out} : seqS (parLLDD i j l m fs gs f g) K ρ = atT ((fs ρ).bind fun d => (gs ρ).bind fun e => (f ρ).bind fun x => (g ρ).bind fun y => .ret (d, e, x, y)) (fun p => K ((((ρ.set i (.ow p.1)).set j (.ow p.2.1)).set l (.dt p.2.2.1)).set m (.dt p.2.2.2))) ρ := by
  unfold parLLDD; rw [seqS_nxt, atS_eq, atT_nxt]; rfl
end
end Y
namespace Y
open PySem PySem.Spec PyProof.Rows L2
/-! ### O13: tuple * int -/
theorem tuple_mul1 (l : Addr) (items : Array Value) (n : Nat) (dd : Option Addr) (sl : Array (Option Value)) (u : Tok) :
    Meets (Builtin.«tuple.__mul__» ⟨[.ref l, .int 1 u], []⟩) (fun _ R s => s.heap.get? l = some { cls := .type "tuple", dict := dd, data := .seq items n, slots := sl } ∧
      R (.ok (.ret (Value.ref l))) s) :=
  .of_wp fun prog w A R s h => by
    obtain ⟨hp, g, d, tk, os⟩ := s
    obtain ⟨hl, h⟩ := h
    have f1 := AutoSeq1.idx_int
    have c1 : (items.isEmpty || (1 : Int) == 1) = true := by simp
    wp_walk using wpAny_loadPart' hl
    repeat (first
      | (refine wpAny_ite_false (decide_eq_false (by decide)) ?_; wp_walk using wpAny_loadPart' hl)
      | (refine wpAny_ite_true (by simp) ?_; wp_walk using wpAny_loadPart' hl)
      | (refine wpAny_ite_true (decide_eq_true (by simp)) ?_; wp_walk using wpAny_loadPart' hl))
    exact ⟨_, rfl, h⟩
def rRepP (K : PySem.W.Frag) : R2 := fun x y H Q => ∃ l k xs, x = .ref l ∧ y = .int k ∧ SqP K H l xs ∧ xs ≠ [] ∧ 1 ≤ k ∧ k ≤ 1000 ∧ xs.length ≤ 1000 ∧ (k = 1 → Q (.ref l) H) ∧ (2 ≤ k → NewT H (List.replicate k.toNat xs).flatten Q)
theorem op_repP {X : Cx} : OpR X (binaryOp .Mult) (rRepP X.K) := by
  intro pins s σ H x y v u Q I rx ry h
  obtain ⟨l, k, xs, rfl, rfl, hP, hne, h1, h2, hz, q1, q⟩ := h
  cases rx
  obtain ⟨t, rfl⟩ := ry
  obtain ⟨its, r, ⟨⟨cls, dd, data, sl⟩, ho, hc, n, hd⟩, hs⟩ := I.tuple hP.T
  simp only at hc hd
  subst hc hd
  have hle : its.length = xs.length := r.length.symm
  have hn : its ≠ [] := fun e => hne (by
    rw [e] at hle
    exact List.eq_nil_of_length_eq_zero hle.symm)
  have hi : its.toArray.isEmpty = false := by
    cases its with
    | nil => exact absurd rfl hn
    | cons a b => rfl
  have hsz0 : its.toArray.size = xs.length := by rw [List.size_toArray, hle]
  have hm : ((its.toArray.size : Nat) : Int) * k ≤ 1000000 := by
    rw [hsz0]
    have a1 : ((xs.length : Nat) : Int) * k ≤ 1000 * k := Int.mul_le_mul_of_nonneg_right (by omega) (by omega)
    omega
  have flen : (List.replicate k.toNat its).flatten.length ≤ sizeLine := by
    rw [PyProof.Rows.lm_len_rep_flat, hle, sizeLine_eq]
    have a1 : k.toNat * xs.length ≤ 1000 * 1000 := Nat.mul_le_mul (by omega) hz
    omega
  by_cases hk : k = 1
  · subst hk
    refine wpAny_binaryOp_repeat_ref (T := "tuple") (U := "int") (by decide) ⟨_, ho, rfl⟩ (fun s' => typeIs_int s' 1 t) noFill_tuple_mul F.fills_int_mul F.slot_int_rmul repeat_tuple F.slot_int_index.lookup
      (call_meets F.slot_int_rmul (typeIs_int s 1 t) F.entry_int_rmul (F.args_int_rmul_2 _ _) (int_rmul_tuple 1 t l its.toArray n dd sl)
        ⟨ho, rfl, ⟨_, ho, rfl⟩, call_meets F.slot_tuple_mul ⟨_, ho, rfl⟩ F.entry_tuple_mul (F.args_tuple_mul_2 _ _) (tuple_mul1 l its.toArray n dd sl t) ⟨ho, ?_⟩⟩)
    exact ⟨.ref l, H, I, rfl, q1 rfl⟩
  · have hk2 : 2 ≤ k := by omega
    have c0 : (decide (k < -(2 ^ 63)) || decide (k ≥ 2 ^ 63)) = false := by
      rw [decide_eq_false (by omega), decide_eq_false (by omega)] <;> rfl
    have c1 : (its.toArray.isEmpty || k == 1) = false := by
      rw [hi, Bool.false_or]
      exact beq_eq_false_iff_ne.mpr (by omega)
    have c2 : (decide (k ≤ 0) || its.toArray.isEmpty) = false := by
      rw [hi, Bool.or_false]
      exact decide_eq_false (by omega)
    have c4 : Builtin.Tuple.tupleTooMany (((its.toArray.size : Nat) : Int) * k) = false := by
      unfold Builtin.Tuple.tupleTooMany
      rw [sizeLine_eq]
      exact decide_eq_false (by omega)
    refine wpAny_binaryOp_repeat_ref (T := "tuple") (U := "int") (by decide) ⟨_, ho, rfl⟩ (fun s' => typeIs_int s' k t) noFill_tuple_mul F.fills_int_mul F.slot_int_rmul repeat_tuple F.slot_int_index.lookup
      (call_meets F.slot_int_rmul (typeIs_int s k t) F.entry_int_rmul (F.args_int_rmul_2 _ _) (int_rmul_tuple k t l its.toArray n dd sl)
        ⟨ho, rfl, ⟨_, ho, rfl⟩, call_meets F.slot_tuple_mul ⟨_, ho, rfl⟩ F.entry_tuple_mul (F.args_tuple_mul_2 _ _) (tuple_mulW l its.toArray n dd sl k t c0 c1 c2 (by omega) c4 (by rw [size_rep, List.size_toArray]; exact flen)) ⟨ho, ?_⟩⟩)
    rw [size_rep]
    exact laidT I (r.rep k.toNat) (by rw [← r.rep k.toNat |>.length] at flen; exact flen) (q hk2)
section
variable {X : Cx} {C : Ct} {a b : Expr} {f g : Rho → T D} {pos : Pos}
def pyRepT : D → D → T D
  | .tuple xs, .int k => ask (1 ≤ k ∧ k < 1000 ∧ xs.length ≤ 1000 ∧ xs ≠ []) (.ret (.tuple (List.replicate k.toNat xs).flatten))
  | _, _ => .bad
theorem o_repT : Op2 C (rRepP C.K) pyRepT := by
  intro σ G H ρ b x y d e Q R rx ry h
  cases rx with
  | tup ea ra =>
    cases ry with
    | int k =>
      rename_i a xs ds
      obtain ⟨⟨h0, h1, h2, h3⟩, h⟩ := Go.ask h
      refine ⟨_, k, _, rfl, rfl, ea.mono R.sub, fun z => h3 ?_, h0, by omega, by rw [ra.len]; exact h2, fun hk => ?_, fun hk p o n hc hd => ?_⟩
      · subst z
        cases ra
        rfl
      · subst hk
        have e : (List.replicate (1 : Int).toNat ds).flatten = ds := by simp
        rw [e] at h
        exact h.retv R (.tup ea ra)
      · exact h.newT R n hc hd (rds_rep ra _)
    | _ => exact h.bad.elim
  | _ => cases ry <;> exact h.bad.elim
theorem pd_repT (ha : PD X C a f) (hb : PD X C b g) (hK : X.K = C.K := by rfl) : PD X C (.BinOp a .Mult b pos) (op2 pyRepT f g) := PEto (pe_op op_repP ha hb) (by rw [hK]; exact d_op o_repT)
theorem repT_r {xs : List D} {k : Int} (h1 : 1 ≤ k) (h2 : k < 1000) (hl : xs.length ≤ 1000) (hn : xs ≠ []) : pyRepT (.tuple xs) (.int k) = .ret (.tuple (List.replicate k.toNat xs).flatten) := ask_t ⟨h1, h2, hl, hn⟩
end
end Y
namespace Y
open PySem PySem.Spec PyProof.Rows L2
/-! ### O14: len(set(t)), t a tuple of whole numbers -/
theorem nodup_len_eq {a b : List Int} (ha : a.Nodup) (hb : b.Nodup) (h : ∀ x, x ∈ a ↔ x ∈ b) : a.length = b.length := ((List.perm_ext_iff_of_nodup ha hb).mpr h).length_eq
/-- the unlike ones -/
def unlike : List Int → List Int
  | [] => []
  | x :: xs => if x ∈ xs then unlike xs else x :: unlike xs
theorem unlike_mem : ∀ {xs : List Int} {y : Int}, y ∈ unlike xs ↔ y ∈ xs
  | [], _ => Iff.rfl
  | x :: xs, y => by
    unfold unlike
    split
    · rw [unlike_mem, List.mem_cons]
      exact ⟨.inr, fun h => by rcases h with rfl | h; exact ‹_›; exact h⟩
    · rw [List.mem_cons, List.mem_cons, unlike_mem]
theorem unlike_nd : ∀ (xs : List Int), (unlike xs).Nodup
  | [] => List.nodup_nil
  | x :: xs => by
    unfold unlike
    split
    · exact unlike_nd xs
    · exact List.nodup_cons.mpr ⟨fun h => ‹¬ _› (unlike_mem.mp h), unlike_nd xs⟩
theorem unlike_le : ∀ (xs : List Int), (unlike xs).length ≤ xs.length
  | [] => Nat.le_refl _
  | x :: xs => by
    have := unlike_le xs
    unfold unlike
    split
    · rw [List.length_cons]; omega
    · rw [List.length_cons, List.length_cons]; omega
theorem unlike_full : ∀ {xs : List Int}, (unlike xs).length = xs.length ↔ xs.Nodup
  | [] => ⟨fun _ => List.nodup_nil, fun _ => rfl⟩
  | x :: xs => by
    have l := unlike_le xs
    unfold unlike
    rw [List.nodup_cons]
    split
    · rw [List.length_cons]
      exact ⟨fun h => by omega, fun h => absurd ‹_› h.1⟩
    · rw [List.length_cons, List.length_cons, Nat.add_right_cancel_iff, unlike_full]
      exact ⟨fun h => ⟨‹_›, h⟩, fun h => h.2⟩
def tLenSetP (K : PySem.W.Frag) (ta : TE) : TE := fun σ H Q => ta σ H fun x H1 => ∃ (l : Addr) (ns : List Int), x = .ref l ∧ SqT K H1 l (ns.map V.int) ∧ ns.length ≤ 4000 ∧ Q (.int ((unlike ns).length : Nat)) H1
theorem pe_lenSetP {X : Cx} {a : Expr} {ta : TE} {p p2 q pos : Pos} (hg : Gl X "len") (hm : X.mg "len" = none) (hg2 : Gl X "set") (hm2 : X.mg "set" = none) (ha : PE X a ta) (hc : X.calm = true := by rfl)
    (na : starEach [a] X.env = (false, eval a X.env) :: starEach [] X.env := by rfl) : PE X (.Call (.Name "len" p) [.Call (.Name "set" p2) [a] [] q] [] pos) (tLenSetP X.K ta) := by
  refine ⟨fun pins s σ H Q I h => ?_⟩
  refine Call_ (ld_blt I hg hm boot_len ?_)
  refine PyProof.Rows.callWith_builtin1 (PyProof.Rows.args_cons ?_ rfl) rfl rfl
  refine Call_ (ld_blt I hg2 hm2 boot_set ?_)
  refine PyProof.Rows.callWith_type1 (PyProof.Rows.args_cons (thn (ha.run pins s σ H _ I h) fun v s1 ⟨x, H1, I1, r1, q1⟩ => PyProof.Rows.args_nil ?_) na) na rfl
  obtain ⟨l, ns, rfl, hq, hl, q1⟩ := q1
  cases r1
  obtain ⟨its, r, pl, hz⟩ := I1.tuple hq
  have hlen : its.toArray.size = ns.length := by rw [List.size_toArray, ← r.length, List.length_map]
  refine call_set_tupI ns (I1.ok.hd hc) pl (by simpa using RZ.intsAre_vals r) (by unfold scanBound; omega) fun h' tk c hS hcn hk => ?_
  refine PyProof.Rows.args_nil ?_
  obtain ⟨o, es, ep, t, ho, hex, hd, hg0, hnd, hmem, hsz, hf, hn, _⟩ := hS
  have I2 : Inv X pins σ H1 { s1 with heap := h', toks := tk } := I1.kept fun b o e => hk b o e
  have hcl : c = (unlike ns).length := by
    rw [← hn, ← Array.length_toList]
    have q := nodup_len_eq hnd (unlike_nd ns) fun x => by rw [← hmem x, unlike_mem]; simp
    rw [List.length_map] at q
    exact q
  exact call_len_set ho hex hd hf (by rw [hn]; omega) ⟨.int ((unlike ns).length : Nat), H1, I2.tok _, ⟨_, by rw [hn, hcl]⟩, q1⟩
section
variable {X : Cx} {C : Ct} {f : Rho → T D}
def lenSet1 : D → T D
  | .tuple ds => match intsOf ds with
    | some ns => ask (ns.length ≤ 4000) (.ret (.int ((unlike ns).length : Nat)))
    | none => .bad
  | _ => .bad
theorem d_lenSet : ∀ σ H Q, tD C (fun ρ => (f ρ).bind lenSet1) σ H Q → tLenSetP C.K (tD C f) σ H Q := by
  rintro σ H Q ⟨G, ρ, b, R, h⟩
  refine ⟨G, ρ, b, R, (Go.bind R h).mono fun d G1 H1 c P k z v rv => ?_⟩
  obtain ⟨R1, z⟩ := z
  cases rv with
  | tup e r =>
    rename_i a xs ds
    unfold lenSet1 at z
    dsimp only at z
    cases hn : intsOf ds with
    | none => rw [hn] at z; exact z.bad.elim
    | some ns =>
      rw [hn] at z
      obtain ⟨h4, z⟩ := Go.ask (show Go C σ G1 H1 ρ c (ask _ _) _ from z)
      have hx := rds_intsO r hn
      subst hx
      exact ⟨a, ns, rfl, (e.mono R1.sub).T, h4, (z.ret R1).2 _ (.int _)⟩
  | _ => exact z.bad.elim
theorem pd_lenSet {a : Expr} {p p2 q pos : Pos} (hg : Gl X "len") (hm : X.mg "len" = none) (hg2 : Gl X "set") (hm2 : X.mg "set" = none) (ha : PD X C a f) (hc : X.calm = true) (hK : X.K = C.K := by rfl)
    (na : starEach [a] X.env = (false, eval a X.env) :: starEach [] X.env := by rfl) : PD X C (.Call (.Name "len" p) [.Call (.Name "set" p2) [a] [] q] [] pos) (fun ρ => (f ρ).bind lenSet1) :=
  PEto (pe_lenSetP hg hm hg2 hm2 ha hc na) (by rw [hK]; exact d_lenSet)
end
end Y
namespace Y
open PySem PySem.Spec PyProof.Rows L2
/-! ### O15: a range that is held and walked later -/
section
variable {X : Cx} {C : Ct}
theorem cr_range1 : CallR X (.type "range") (fun vs H Q => ∃ j, vs = [V.int j] ∧ ∀ p, H p = none → Q (.ref p) (upd H p (.rng 0 j))) := by
  intro pins s σ H vs us Q I r h
  obtain ⟨j, rfl, q⟩ := h
  obtain ⟨u1, rfl, rj⟩ := vals1 r
  obtain ⟨t, rfl⟩ := rj
  refine call_range_1 ⟨.ref s.heap.objs.size, upd H s.heap.objs.size (.rng 0 j), I.laid (t' := _) (fun b o e => Heap.get?_push_of_some _ e) (Nat.le_refl _) ?_, rfl, q _ (I.hok.fresh (Nat.le_refl _))⟩
  exact ⟨_, _, _, Heap.get?_push_size _ rfl⟩
def rg1 : D → T D
  | .int j => ask (-(2 ^ 62) ≤ j ∧ j < 2 ^ 62) (.ret (rgD 0 j))
  | _ => .bad
theorem c_rg1 : CallD C (fun vs H Q => ∃ j, vs = [V.int j] ∧ ∀ p, H p = none → Q (.ref p) (upd H p (.rng 0 j))) (only rg1) := by
  refine one_arg rg1 (fun _ => rfl) rfl (fun _ _ _ => rfl) fun σ G H ρ b v d Q R rv q => ?_
  cases rv with
  | int j =>
    obtain ⟨_, q⟩ := Go.ask (show Go C σ G H ρ b (ask _ _) _ from q)
    exact ⟨j, rfl, fun p n => q.newv R n (.rng upd_same)⟩
  | _ => exact q.bad.elim
theorem pd_rg1 {e : Expr} {es : List Expr} {fs : Rho → T (List D)} {p pos : Pos} (hg : Gl X "range") (hm : X.mg "range" = none) (ha : PDa X C (e :: es) fs) (he : starEach (e :: es) X.env = (false, eval e X.env) :: starEach es X.env := by rfl) (hpl : (backTo pos (starEach es X.env)).any (·.1) = false := by rfl) :
    PD X C (.Call (.Name "range" p) (e :: es) [] pos) (fun ρ => (fs ρ).bind (only rg1)) := pd_cty cr_range1 c_rg1 hg hm (by decide +kernel) ha (by decide) (by decide) he hpl
/-- the items of a held range -/
def seqR (d : D) : T (List D) := match d with
  | .dict [(.dict [], .int lo), (.dict [], .int hi)] => ask (-(2 ^ 62) ≤ lo ∧ lo < 2 ^ 62 ∧ -(2 ^ 62) ≤ hi ∧ hi < 2 ^ 62) (.ret (upto lo (hi - lo).toNat))
  | _ => .bad
def iSeqR (te : TE) : TI := fun σ H R => te σ H fun x H1 => ∃ a lo hi, x = .ref a ∧ H1 a = some (.rng lo hi) ∧ (-(2 ^ 62) ≤ lo ∧ lo < 2 ^ 62 ∧ -(2 ^ 62) ≤ hi ∧ hi < 2 ^ 62) ∧ R (Itr lo (hi - lo).toNat) H1
theorem pi_seqR {tg e : Expr} {te : TE} (he : PE X e te) : PI X tg e (iSeqR te) := by
  refine ⟨fun pins s σ H R I h => thn (he.run pins s σ H _ I h) fun v s1 hv => ?_⟩
  obtain ⟨x, H1, J1, rx, a, lo, hi, ex, hq, ⟨h1, h2, h3, h4⟩, q⟩ := hv
  subst ex
  cases rx
  obtain ⟨t, u, v, ho⟩ := J1.hok a _ hq
  refine wpAny_pyIter_range (a := lo) (b := hi) (c := 1) (t := t) (u := u) (v := v) ho (small_one h1 h2 h3 h4) ?_
  refine ⟨s1.heap.objs.size, [s1.heap.objs.size], _, _, H1, rfl, J1.kept (t' := s1.toks) (fun c o z => Heap.get?_push_of_some _ z), turn_range _ lo (hi - lo).toNat, ?_, fun b hb => ?_, q⟩
  · have e1 : lo + ((0 : Nat) : Int) * 1 = lo := by simp
    have e2 : (((hi - lo).toNat : Nat) : Int) - ((0 : Nat) : Int) = Builtin.Range.rangeSize lo hi 1 := by rw [rangeSize_one]; split <;> omega
    show IsRangeIter _ _ (lo + ((0 : Nat) : Int) * 1) ((((hi - lo).toNat : Nat) : Int) - ((0 : Nat) : Int)) 1
    rw [e1, e2]
    exact Heap.get?_push_size _ rfl
  · obtain rfl := List.mem_singleton.mp hb
    exact J1.fpOk (Nat.le_refl _) (J1.hok.fresh (Nat.le_refl _))
theorem rng_key {O : V → Int → Prop} {K : PySem.W.Frag} {G : Hp} {v : V} {d : D} {lo hi : Int} (r : RD O K G v d) (e : d = rgD lo hi) : ∃ a, v = .ref a ∧ G a = some (.rng lo hi) := by
  cases r with
  | dct _ q2 =>
    cases q2 with
    | nil => cases e
    | cons r1 r2 =>
      simp only [rgD, PyData.dict.injEq, List.cons.injEq, Prod.mk.injEq] at e
      exact absurd e.1.1 (keyD_nd _ _)
  | opq o => simp [hdl, rgD] at e
  | rng h =>
    simp [rgD] at e
    obtain ⟨rfl, rfl⟩ := e
    exact ⟨_, rfl, h⟩
  | _ => cases e
theorem i_seqR {us : List Nat} {f : Rho → T D} {g : D → Rho → Option Rho} : ∀ σ H R, tIt C us (fun ρ => (f ρ).bind seqR) (gD C us g) g σ H R → iSeqR (tD C f) σ H R := by
  rintro σ H R ⟨G, ρ, b, Rl, h⟩
  refine ⟨G, ρ, b, Rl, (Go.bind Rl h).mono fun d G1 H1 c P j z v rv => ?_⟩
  obtain ⟨R1, z⟩ := z
  unfold seqR at z
  split at z
  · rename_i lo hi
    obtain ⟨a, rfl, g1⟩ := rng_key rv rfl
    obtain ⟨hz, z⟩ := Go.ask z
    exact ⟨a, lo, hi, rfl, R1.sub _ _ g1, hz, (z.ret R1).2 _ (fun _ => True) trivial walk_rng⟩
  · exact z.bad.elim
theorem pdi_rgv {e : Expr} {f : Rho → T D} {us : List Nat} {tg : Expr} {g : D → Rho → Option Rho} (he : PD X C e f) : PDi X C tg e us (fun ρ => (f ρ).bind seqR) (gD C us g) g := PIto (pi_seqR he) i_seqR
@[simp] theorem seqR_rg {lo hi : Int} (h : -(2 ^ 62) ≤ lo ∧ lo < 2 ^ 62 ∧ -(2 ^ 62) ≤ hi ∧ hi < 2 ^ 62) : seqR (rgD lo hi) = .ret (upto lo (hi - lo).toNat) := ask_t h
end
end Y
namespace Y
open PySem PySem.Spec PyProof.Rows L2
/-! ### O16: try, where nothing is raised -/
section
variable {X : Cx} {C : Ct} {σ : L2.St} {G H G' H' : Hp} {ρ : Rho} {b c : Nat} {pos : Pos}
def tryB (F : Rho → T Out) (ρ : Rho) : T Out := (F ρ).bind fun
  | .xc _ _ => .bad
  | .nx ρ' => .ret (.nx ρ')
  | .rt d => .ret (.rt d)
  | .bk ρ' => .ret (.bk ρ')
  | .ct ρ' => .ret (.ct ρ')
theorem s_tryB {i : Nat} {F : Rho → T Out} {cv : Value} : ∀ Dn σ H, tS C (tryB F) Dn σ H → (fun Dn σ H => (fun W => tS { C with W := W } F) (wAs C.K cv i (fun _ _ _ _ _ _ => False) C.W Dn) Dn σ H) Dn σ H := by
  rintro Dn σ H ⟨G, ρ, b, R, q⟩
  have q2 := T.sat_bind q
  refine ⟨G, ρ, b, rel_W R, T.sat_mono (fun o c z => ?_) (fun _ _ z => z) q2⟩
  cases o with
  | nx ρ' => exact fun σ' G' H' g R' => z σ' G' H' g ⟨R'.post, R'.jar, R'.jfr, R'.jth, R'.own, R'.dat, R'.len⟩
  | rt d => exact z
  | bk ρ' => exact fun σ' G' H' g R' => z σ' G' H' g ⟨R'.post, R'.jar, R'.jfr, R'.jth, R'.own, R'.dat, R'.len⟩
  | ct ρ' => exact fun σ' G' H' g R' => z σ' G' H' g ⟨R'.post, R'.jar, R'.jfr, R'.jth, R'.own, R'.dat, R'.len⟩
  | xc ev ρ' => exact z.elim
theorem pd1_tryB {i : Nat} {n x : Str} {cv : Value} {F : Rho → T Out} {body suite : List Stmt} {b₀ : Stmt} {np pos' : Pos} (hs : X.stack = X.env :: X.outer) (hf : X.env.frame = some X.env.locals) (hN : X.N.Nodup) (hi : X.N[i]? = some n) (hln : X.env.kindOf n = some .local) (hc : Names X x cv) (tk : Takes X C.W) (hK : X.K = C.K)
    (hb : ∀ (W : WX) (pn : List (Addr × Obj)) (xe : Value → Shared → Prop), Takes (X.tr pn xe) W → PassesOwn (model X.prog X.w) X.A X.env xe → PDs (X.tr pn xe) { C with W := W } body F) :
    PD1 X C (.Try body [.ExceptHandler (some (.Name x np)) (some n) (b₀ :: suite) pos'] [] [] pos) (tryB F) :=
  PStoD (ps_try_as hs hf hN hi hln hc tk (tb := fun W => tS { C with W := W } F) (ts := fun _ _ _ _ _ _ => False) (fun W pn xe tkw hp => hb W pn xe tkw hp) fun a oe cls d pn hz hd => ⟨fun pins s σ H Dn I q => q.elim⟩) (by rw [hK]; exact s_tryB)
theorem tryB_eq {F : Rho → T Out} : tryB F ρ = (F ρ).bind fun | .xc _ _ => .bad | .nx ρ' => .ret (.nx ρ') | .rt d => .ret (.rt d) | .bk ρ' => .ret (.bk ρ') | .ct ρ' => .ret (.ct ρ') := rfl
theorem tryB_nx {F : Rho → T Out} {ρ' : Rho} (h : F ρ = .ret (.nx ρ')) : tryB F ρ = .ret (.nx ρ') := by unfold tryB; rw [h]; rfl
theorem tryB_rt {F : Rho → T Out} {d : D} (h : F ρ = .ret (.rt d)) : tryB F ρ = .ret (.rt d) := by unfold tryB; rw [h]; rfl
end
end Y
namespace Y
open PySem PySem.Spec PyProof.Rows L2
/-! ### O17: d.get(k, x) -/
section
variable {X : Cx} {C : Ct} {o e1 e2 : Expr} {f g h : Rho → T D} {apos cpos : Pos}
theorem pd_getS (hu : X.A.units + 1 < cLine) (ho : PD X C o f) (he : PD X C e1 g) (hf : PD X C e2 h) (m : M2 X o "get" apos e1 e2 cpos := by exact ⟨by rfl, by rfl, by rfl, by rfl⟩) : PD X C (.Call (.Attribute o "get" apos) [e1, e2] [] cpos) (getS f g h) :=
  PEto (pe_dget2 hu ho he hf m) d_getS
end
section
variable {X : Cx}
theorem ps_setDc {i : Nat} {y : Str} {py : Pos} {kx vx tg iter : Expr} {ifs : List Expr} {scope : Scope} {own : List (Str × Nat)} {pos spos : Pos} {wi : TI} {g : TG} {tt : TT} {tk tv : TE} (hc : X.calm = true) (hN : X.N.Nodup) (hy : X.N[i]? = some y) (hyl : X.env.scope.names.lookup y = some .local)
    (hsw : swapsWith (.DictComp kx vx [⟨tg, iter, ifs, 0⟩] scope pos) (some (.Name y py)) spos.line X.env = pure true) (hi : PI X tg iter wi) (ok : BlkOk X.N X.env.scope scope own)
    (hg : ∀ (s : Shared) (H : Hp) (C : Addr) (cl : List (Str × Addr)) (fp : List Addr), PG (X.blk s H scope (compEnvC scope cl C X.env) fp) tg g) (ht : ∀ (s : Shared) (H : Hp) (C : Addr) (cl : List (Str × Addr)) (fp : List Addr), PTs (X.blk s H scope (compEnvC scope cl C X.env) fp) ifs tt)
    (hk : ∀ (s : Shared) (H : Hp) (C : Addr) (cl : List (Str × Addr)) (fp : List Addr), PE (X.blk s H scope (compEnvC scope cl C X.env) fp) kx tk)
    (he : ∀ (s : Shared) (H : Hp) (C : Addr) (cl : List (Str × Addr)) (fp : List Addr), PE (X.blk s H scope (compEnvC scope cl C X.env) fp) vx tv) (hs : ∀ x, foldedSetIterable iter X.env x = pure x := by intro _; rfl) :
    PS X (.Assign [.Name y py] (.DictComp kx vx [⟨tg, iter, ifs, 0⟩] scope pos) spos) (tAsg (tDc wi g tt tk tv (own.map (·.2))) (gName i)) := by
  refine ⟨fun pins s σ H D I h => ?_⟩
  rw [exec_Assign_Name_used _ _ _ _ hsw]
  refine wpAny_bind (wpAny_standAt (wpAny_bind ?_))
  have h : tDc wi g tt tk tv (own.map (·.2)) σ H (fun x H1 => gName i x σ H1 D.nx) := h
  refine wpAny_bind (thn (dc_core (Qf := fun _ s' => SP X pins D .next s') hc hN I hi ok hg ht hk he hs h fun L C s' m H' I' q hn f => ?_) fun _ s' hq => wpAny_pure (wpAny_pure hq))
  show wpAny _ _ (assign (.Name y py) X.env (.ref L)) _ _ _
  refine wpAny_assign_Name (store_ok2 (v := V.ref L) I' hN hy (.inl hyl) rfl (fun s2 I2 ⟨a, sb, ha⟩ => ?_) (.inr hyl))
  obtain ⟨f0, f1, f2, f3, f4, f5⟩ := f
  have haC : C ≠ a := by
    rcases ha with z | z
    · rw [z]; exact f1
    · exact fun e => f4 y a z e.symm
  refine ⟨m, hn.sameBut sb haC, fun h3 sb3 => ?_⟩
  exact ⟨_, H', I2.turned (t' := s2.toks) (fun b o hb e => (sb3.2 b hb).trans e) f0 f1 f3 f4 f5, q⟩
variable {C : Ct} {α : Type} {y : Str} {py spos pos : Pos}
theorem pd1_setDc (i : Nat) {it : Rho → T (List α)} {w : TG} {gg : α → Rho → Option Rho} {t : Rho → T Bool} {fk fv : Rho → T D} {kx vx tg iter : Expr} {ifs : List Expr} {scope : Scope} {own : List (Str × Nat)} (hc : X.calm = true) (hN : X.N.Nodup) (hi : PDi X C tg iter (own.map (·.2)) it w gg) (ok : BlkOk X.N X.env.scope scope own)
    (hg : ∀ (s : Shared) (H : Hp) (D : Addr) (cl : List (Str × Addr)) (fp : List Addr), PG (X.blk s H scope (compEnvC scope cl D X.env) fp) tg w) (ht : ∀ (s : Shared) (H : Hp) (D : Addr) (cl : List (Str × Addr)) (fp : List Addr), PTs (X.blk s H scope (compEnvC scope cl D X.env) fp) ifs (tT C.nox t))
    (hk : ∀ (s : Shared) (H : Hp) (D : Addr) (cl : List (Str × Addr)) (fp : List Addr), PD (X.blk s H scope (compEnvC scope cl D X.env) fp) C.nox kx fk)
    (he : ∀ (s : Shared) (H : Hp) (D : Addr) (cl : List (Str × Addr)) (fp : List Addr), PD (X.blk s H scope (compEnvC scope cl D X.env) fp) C.nox vx fv) (hy : X.N[i]? = some y := by rfl) (hyl : X.env.scope.names.lookup y = some .local := by rfl)
    (hsw : swapsWith (.DictComp kx vx [⟨tg, iter, ifs, 0⟩] scope pos) (some (.Name y py)) spos.line X.env = pure true := by rfl) (hs : ∀ x, foldedSetIterable iter X.env x = pure x := by intro _; rfl) :
    PD1 X C (.Assign [.Name y py] (.DictComp kx vx [⟨tg, iter, ifs, 0⟩] scope pos) spos) (asgS i (dcD (own.map (·.2)) it gg t fk fv)) :=
  PStoD (ps_setDc hc hN hy hyl hsw hi ok hg ht hk he hs) fun Dn σ H q => d_dc _ _ _ (s_asg Dn σ H q)
end
end Y
namespace Y
open PySem PySem.Spec PyProof.Rows L2
/-! ### O18: pot, x, y = _law_pot(script), d, e -/
section
variable {X : Cx} {K : PySem.W.Frag} {mg : Str → Option Value} {E : XK} {Dl : Rho → T Out} {sts : List Stmt} {es : List Expr} {fs : Rho → T (List D)}
def tRestA (K : PySem.W.Frag) (mg : Str → Option Value) (E : XK) (fs : Rho → T (List D)) : TA := fun σ H Q => ∃ j : PotP, j.Ok ∧ ∃ G HC, tA (ctOf j.J K mg G HC E) fs σ H Q
theorem paP_rest (h : ∀ (j : PotP) (G HC : Hp), j.Ok → PA X es (tA (ctOf j.J K mg G HC E) fs)) : PA X es (tRestA K mg E fs) := ⟨fun pos pins s σ H Q I ⟨j, jo, G, HC, q⟩ => (h j G HC jo).run pos pins s σ H Q I q⟩
def rho3 (n ip i2 i3 : Nat) (d2 d3 : D) : Rho := ((((ini n []).set 0 .un).set ip (.dt (hdl 0))).set i2 (.dt d2)).set i3 (.dt d3)
theorem restP3_ok {N : List Str} {a : Addr} {v : V} {H : Hp} {Q : VK} {nx : L2.St → Hp → Prop} {j : PotP} (jo : j.Ok) (hv : v = .ref j.p) (jh : j.holds (2 ^ 40) H) {d2 d3 : D} {ip i2 i3 : Nat} (hs : (L2.start N []).set 0 (some (.ref a)) = L2.start N [.ref a]) (hf : fs ((ini N.length []).set 0 .un) = .ret [d2, d3])
    (q : ∀ H', Q (.bl true) H') (h : (Dl (rho3 N.length ip i2 i3 d2 d3)).sat (2 ^ 40) (fun o _ => o = .rt (.bool true)) fun _ _ => False) :
    tRestA K mg E fs (L2.start N [.ref a]) H fun vs H1 => ∃ u w z, v :: vs = [u, w, z] ∧ tRestP K mg E Dl { nx := nx, rt := Q } ((((L2.start N [.ref a]).set ip (some u)).set i2 (some w)).set i3 (some z)) H1 := by
  have R0 := rel_ini (C := ctOf j.J K mg (fun _ => none) H E) (b := 2 ^ 40) (N := N) (vs := []) (ds := []) (fun a o e => nomatch e) jh (fun a ha => ⟨rfl, by
    obtain ⟨far, turn, h1, h2, _⟩ := jh
    show H a ≠ none
    rcases ha with z | z
    · rw [z, h1]; simp
    · rw [z, h2]; simp⟩) .nil
  rw [← hs]
  have R1 := R0.setU (i := 0) (some (.ref a))
  refine ⟨j, jo, fun _ => none, H, fun _ => none, _, 2 ^ 40, R1, ?_⟩
  show (fs ((ini N.length []).set 0 .un)).sat _ _ _
  rw [hf]
  intro G1 H1 P jk vs rs
  have R2 := R1.step P jk
  cases rs with
  | cons r2 rs =>
    cases rs with
    | cons r3 rs =>
      cases rs
      refine ⟨_, _, _, rfl, j, jo, fun _ => none, H, G1, rho3 N.length ip i2 i3 d2 d3, 2 ^ 40, ?_, ?_⟩
      · subst hv
        exact ((R2.set (i := ip) (.opq ⟨rfl, rfl⟩)).set r2).set r3
      · refine T.sat_mono (fun o c z => ?_) (fun _ _ z => z.elim) h
        subst z
        intro v G' H' P jk r
        cases r
        exact q H'
/-- the same, one of the names a cell: a tuple is made and taken apart -/
theorem restP3T_ok {N : List Str} {a : Addr} {v : V} {H : Hp} {Q : VK} {nx : L2.St → Hp → Prop} {j : PotP} (jo : j.Ok) (hv : v = .ref j.p) (jh : j.holds (2 ^ 40) H) {d2 d3 : D} {ip i2 i3 : Nat} (hs : (L2.start N []).set 0 (some (.ref a)) = L2.start N [.ref a]) (hf : fs ((ini N.length []).set 0 .un) = .ret [d2, d3])
    (q : ∀ H', Q (.bl true) H') (h : (Dl (rho3 N.length ip i2 i3 d2 d3)).sat (2 ^ 40) (fun o _ => o = .rt (.bool true)) fun _ _ => False) :
    tRestA K mg E fs (L2.start N [.ref a]) H fun vs H1 => tTupP (fun σ H Q => Q (v :: vs) H) (L2.start N [.ref a]) H1 fun x H2 => gTup K 3 (gCons (gName ip) (gCons (gName i2) (gCons (gName i3) gNil))) x (L2.start N [.ref a]) H2 fun σ' H' => tRestP K mg E Dl { nx := nx, rt := Q } σ' H' := by
  have R0 := rel_ini (C := ctOf j.J K mg (fun _ => none) H E) (b := 2 ^ 40) (N := N) (vs := []) (ds := []) (fun a o e => nomatch e) jh (fun a ha => ⟨rfl, by
    obtain ⟨far, turn, h1, h2, _⟩ := jh
    show H a ≠ none
    rcases ha with z | z
    · rw [z, h1]; simp
    · rw [z, h2]; simp⟩) .nil
  rw [← hs]
  have R1 := R0.setU (i := 0) (some (.ref a))
  refine ⟨j, jo, fun _ => none, H, fun _ => none, _, 2 ^ 40, R1, ?_⟩
  show (fs ((ini N.length []).set 0 .un)).sat _ _ _
  rw [hf]
  intro G1 H1 P jk vs rs
  have R2 := R1.step P jk
  cases rs with
  | cons r2 rs =>
    cases rs with
    | cons r3 rs =>
      cases rs
      rename_i v2 v3
      refine ⟨(by show 3 ≤ sizeLine; decide), fun t o nt hc hd => ?_⟩
      have R3 := R2.step (.newH R2.sub nt) ((ctOf j.J K mg (fun _ => none) H E).J.loc _ H1 (upd H1 t (.frz o (.tup [v, v2, v3]))) R2.jar fun a ha => upd_ne fun z => R2.post.th a (R2.jth a ha) (by rw [z]; exact nt))
      refine ⟨t, [v, v2, v3], rfl, (SqP.of upd_same hc hd).T, rfl, v, [v2, v3], rfl, v2, [v3], rfl, v3, [], rfl, rfl, ?_⟩
      refine ⟨j, jo, fun _ => none, H, G1, rho3 N.length ip i2 i3 d2 d3, 2 ^ 40, ?_, ?_⟩
      · subst hv
        exact ((R3.set (i := ip) (.opq ⟨rfl, rfl⟩)).set r2).set r3
      · refine T.sat_mono (fun o c z => ?_) (fun _ _ z => z.elim) h
        subst z
        intro v G' H' P jk r
        cases r
        exact q H'
end
/-! str of a text -/
def str2 : D → T D
  | .int i => ask (i.natAbs.log2 < 1920) (.ret (.str (toString i)))
  | .str x => .ret (.str x)
  | _ => .bad
section
variable {X : Cx} {C : Ct} {e : Expr} {es : List Expr} {fs : Rho → T (List D)} {pos : Pos}
theorem call_str2 : CallR X (.type "str") (fun xs H Q => (∃ i, xs = [.int i] ∧ i.natAbs.log2 < 1920 ∧ Q (.str (toString i)) H) ∨ ∃ a, xs = [.str a] ∧ Q (.str a) H) := by
  intro pins s σ H vs us Q I r q
  rcases q with q | q
  · exact call_str_int pins s σ H vs us Q I r q
  · exact SkE.call_str_str pins s σ H vs us Q I r q
theorem c_str2 : CallD C (fun xs H Q => (∃ i, xs = [.int i] ∧ i.natAbs.log2 < 1920 ∧ Q (.str (toString i)) H) ∨ ∃ a, xs = [.str a] ∧ Q (.str a) H) (only str2) := by
  refine one_arg str2 (fun _ => rfl) rfl (fun _ _ _ => rfl) fun σ G H ρ b v d Q R rv q => ?_
  cases rv with
  | int i =>
    obtain ⟨hz, q⟩ := Go.ask q
    exact .inl ⟨i, rfl, hz, q.retv R (.str _)⟩
  | str x => exact .inr ⟨x, rfl, q.retv R (.str _)⟩
  | _ => exact q.bad.elim
theorem pd_strf2 {p : Pos} (hg : Gl X "str") (hm : X.mg "str" = none) (ha : PDa X C (e :: es) fs) (he : starEach (e :: es) X.env = (false, eval e X.env) :: starEach es X.env := by rfl) (hpl : (backTo pos (starEach es X.env)).any (·.1) = false := by rfl) :
    PD X C (.Call (.Name "str" p) (e :: es) [] pos) (fun ρ => (fs ρ).bind (only str2)) := pd_cty call_str2 c_str2 hg hm (by decide +kernel) ha (by decide) (by decide) he hpl
end
end Y
namespace Y
open PySem PySem.Spec PyProof.Rows L2
/-! ### O19: the deck of the laws of moves -/
def deckK (a1 : Addr) (st : Int) : List (Key × V) := [(.inr "deep", .ref a1), (.inr "state", .int st)]
structure DeckP where
  p : Addr
  a1 : Addr
structure DeckP.Ok (j : DeckP) : Prop where
  p1 : j.p ≠ j.a1
def DeckP.holds (j : DeckP) (_b : Nat) (H : Hp) : Prop := ∃ (far : List Int) (st : Int), H j.p = some (.dK (deckK j.a1 st)) ∧ H j.a1 = some (.lst (far.map .int)) ∧ 0 ≤ st ∧ st < 2 ^ 61 ∧ far.length ≤ 100
def DeckP.J (j : DeckP) : Jr where
  fp b := b = j.p ∨ b = j.a1
  ok b H := j.holds b H
  loc b H H' := by
    rintro ⟨far, st, h1, h2, h4⟩ k
    exact ⟨far, st, by rw [k _ (.inl rfl)]; exact h1, by rw [k _ (.inr rfl)]; exact h2, h4⟩
  O v n := n = 0 ∧ v = .ref j.p
theorem deck_put {a1 : Addr} {s d : Int} : putK (deckK a1 s) (.inr "state") (.int d) = deckK a1 d := rfl
theorem drawK_in {K : PySem.W.Frag} {mg : Str → Option Value} {j : DeckP} {vs : List V} {H : Hp} {Q : VK} {E : XK} (h : spD j.J K mg drawF 2 vs H Q E) :
    ∃ (n : Int) (c : Nat), vs = [.ref j.p, .int n] ∧ 0 < n ∧ n < 2 ^ 30 ∧ j.holds (c + 1) H ∧ ∀ r H', 0 ≤ r → r < n → Kp j.J.fp H H' → j.holds c H' → Q (.int r) H' := by
  obtain ⟨hn, G, b, ds, sub, jk, fr, rs, z⟩ := h
  unfold drawF at z
  split at z
  · rename_i d n
    cases rs with
    | cons r1 rs =>
      cases rs with
      | cons r2 rs =>
        cases rs
        cases r2
        split at z
        · rename_i hs
          have := isScr_eq hs
          subst this
          obtain ⟨_, rfl⟩ := opq_is r1
          obtain ⟨c, rfl, n0, n1, z⟩ := z
          exact ⟨n, c, rfl, n0, n1, jk, fun r H' r0 r1 k jc => z r r0 r1 (.int r) G H' (k.post sub fun a ha => (fr a ha).1) jc (.int r)⟩
        · exact z.elim
  · exact z.elim
/-- what the deck's making tells -/
def spDeck (K : PySem.W.Frag) (m : Nat) : Sp := fun vs H Q _ => ∃ (a : Addr) (ns : List Int) (zz : Prop), vs = [.ref a] ∧ ns.length ≤ m ∧ (scrJ K a ns zz).ok 0 H ∧ (zz → H a ≠ none) ∧ ∀ (j : DeckP) (H' : Hp), j.Ok → j.holds (2 ^ 40) H' → Q (.ref j.p) H'
structure CalG (P : Program) (w : World) (K : PySem.W.Frag) (mg : Str → Option Value) (base : Heap) (k : Nat) (x : Str) (st : Stmt) (ps : List Str) (sp : Sp) (f : Addr) (fd : FuncData) : Prop where
  fn : FnG P w K mg base k f fd ps sp
  mg : mg x = some (.ref f)
  fu : Fun K x x st f fd
  bi : Binds K fd ps []
theorem CalG.kp {P : Program} {w : World} {K : PySem.W.Frag} {mg : Str → Option Value} {base : Heap} {k : Nat} {x : Str} {st : Stmt} {ps : List Str} {sp : Sp} {f : Addr} {fd : FuncData} (c : CalG P w K mg base k x st ps sp f fd) : PySem.W.keepIn K (.ref f) = true := c.fu.kp
def DeckMath (_ : List D → T D) : Prop := True
section
variable {X : Cx} {K : PySem.W.Frag} {mg : Str → Option Value} {E : XK} {Dl : Rho → T Out} {sts : List Stmt}
def tRestK (K : PySem.W.Frag) (mg : Str → Option Value) (E : XK) (Dl : Rho → T Out) : TS := fun Dn σ H => ∃ j : DeckP, j.Ok ∧ ∃ G HC, tS (ctOf j.J K mg G HC E) Dl Dn σ H
theorem psK_rest (h : ∀ (j : DeckP) (G HC : Hp), j.Ok → PSs X sts (tS (ctOf j.J K mg G HC E) Dl)) : PSs X sts (tRestK K mg E Dl) := ⟨fun pins s σ H D I ⟨j, jo, G, HC, q⟩ => (h j G HC jo).run pins s σ H D I q⟩
def rhoK (n ip : Nat) : Rho := ((ini n []).set 0 .un).set ip (.dt (hdl 0))
theorem restK_ok {N : List Str} {a : Addr} {v : V} {H : Hp} {Q : VK} {nx : L2.St → Hp → Prop} {j : DeckP} {ip : Nat} (jo : j.Ok) (hv : v = .ref j.p) (jh : j.holds (2 ^ 40) H) (hs : ((L2.start N []).set 0 (some (.ref a))).set ip (some v) = (L2.start N [.ref a]).set ip (some v))
    (q : ∀ H', Q (.bl true) H') (h : (Dl (rhoK N.length ip)).sat (2 ^ 40) (fun o _ => o = .rt (.bool true)) fun _ _ => False) :
    tRestK K mg E Dl { nx := nx, rt := Q } ((L2.start N [.ref a]).set ip (some v)) H := by
  refine ⟨j, jo, fun _ => none, H, fun _ => none, rhoK N.length ip, 2 ^ 40, ?_, ?_⟩
  · rw [← hs]
    have R0 := rel_ini (C := ctOf j.J K mg (fun _ => none) H E) (b := 2 ^ 40) (N := N) (vs := []) (ds := []) (fun a o e => nomatch e) jh (fun a ha => ⟨rfl, ?_⟩) .nil
    · subst hv
      exact (R0.setU (i := 0) (some (.ref a))).set (i := ip) (.opq ⟨rfl, rfl⟩)
    · obtain ⟨far, st, h1, h2, _⟩ := jh
      show H a ≠ none
      rcases ha with z | z
      · rw [z, h1]; simp
      · rw [z, h2]; simp
  · refine T.sat_mono (fun o c z => ?_) (fun _ _ z => z) h
    subst z
    intro v G' H' P jk r
    cases r
    exact q H'
end
end Y
namespace Y
open PySem PySem.Spec PyProof.Rows L2
/-! ### O20: int of a text of figures -/
def int2 : D → T D
  | .int i => .ret (.int i)
  | .bool k => .ret (.int (if k then 1 else 0))
  | .str a => match PySem.intText? a with
    | some n => ask (a.length ≤ 640) (.ret (.int n))
    | none => .bad
  | _ => .bad
@[simp] theorem int2_i {i : Int} : int2 (.int i) = .ret (.int i) := rfl
@[simp] theorem int2_b {k : Bool} : int2 (.bool k) = .ret (.int (if k then 1 else 0)) := rfl
section
variable {X : Cx} {C : Ct} {e : Expr} {es : List Expr} {fs : Rho → T (List D)} {pos : Pos}
def rInt2 (xs : List V) (H : Hp) (Q : VK) : Prop := ((∃ i, xs = [.int i] ∧ Q (.int i) H) ∨ ∃ k, xs = [.bl k] ∧ Q (.int (if k then 1 else 0)) H) ∨ ∃ a n, xs = [.str a] ∧ PySem.intText? a = some n ∧ a.length ≤ 640 ∧ Q (.int n) H
theorem call_int2 : CallR X (.type "int") rInt2 := by
  intro pins s σ H vs us Q I r q
  rcases q with q | q
  · exact call_int1 pins s σ H vs us Q I r q
  · exact call_int_str pins s σ H vs us Q I r q
theorem c_int2 : CallD C rInt2 (only int2) := by
  refine one_arg int2 (fun _ => rfl) rfl (fun _ _ _ => rfl) fun σ G H ρ b v d Q R rv q => ?_
  cases rv with
  | int i => exact .inl (.inl ⟨i, rfl, q.retv R (.int _)⟩)
  | bl k => exact .inl (.inr ⟨k, rfl, q.retv R (.int _)⟩)
  | str a =>
    cases e : PySem.intText? a with
    | some n =>
      have e2 : int2 (.str a) = ask (a.length ≤ 640) (.ret (.int n)) := by simp [int2, e]
      rw [e2] at q
      obtain ⟨hz, q⟩ := Go.ask q
      exact .inr ⟨a, n, rfl, e, hz, q.retv R (.int _)⟩
    | none =>
      have e2 : int2 (.str a) = .bad := by simp [int2, e]
      rw [e2] at q
      exact q.bad.elim
  | _ => exact q.bad.elim
theorem pd_intf2 {p : Pos} (hg : Gl X "int") (hm : X.mg "int" = none) (ha : PDa X C (e :: es) fs) (he : starEach (e :: es) X.env = (false, eval e X.env) :: starEach es X.env := by rfl) (hpl : (backTo pos (starEach es X.env)).any (·.1) = false := by rfl) :
    PD X C (.Call (.Name "int" p) (e :: es) [] pos) (fun ρ => (fs ρ).bind (only int2)) := pd_cty call_int2 c_int2 hg hm (by decide +kernel) ha (by decide) (by decide) he hpl
end
end Y
namespace Y
open PySem PySem.Spec PyProof.Rows L2
/-! ### O21: dict of a list of pairs -/
def pairOf : D → Option (Key × D)
  | .tuple [k, v] => match keyOf k with
    | some kk => some (kk, v)
    | none => none
  | _ => none
def pairsD : List D → Option (List (Key × D))
  | [] => some []
  | d :: r => match pairOf d, pairsD r with
    | some p, some ps => some (p :: ps)
    | _, _ => none
def dictP1 : D → T D
  | .list ds => match pairsD ds with
    | some kvs => ask ((kvs.map (·.1)).Nodup) (.ret (.dict (kvs.map fun p => (keyD p.1, p.2))))
    | none => .bad
  | _ => .bad
section
variable {X : Cx} {C : Ct} {e : Expr} {es : List Expr} {fs : Rho → T (List D)} {pos : Pos}
theorem keyP_rd {O : V → Int → Prop} {K : PySem.W.Frag} {G : Hp} {v : V} {k : D} {kk : Key} (r : RD O K G v k) (h : keyOf k = some kk) : v = kV kk := by
  cases r with
  | int i => cases h; rfl
  | str x => cases h; rfl
  | _ => cases h
theorem pair_rd {O : V → Int → Prop} {K : PySem.W.Frag} {G : Hp} {v : V} {d : D} {p : Key × D} (r : RD O K G v d) (h : pairOf d = some p) : ∃ (a : Addr) (xv : V), v = .ref a ∧ SqP K G a [kV p.1, xv] ∧ RD O K G xv p.2 := by
  unfold pairOf at h
  split at h
  · rename_i k x
    cases hk : keyOf k with
    | none => rw [hk] at h; cases h
    | some kk =>
      rw [hk] at h
      have h := Option.some.inj h
      subst h
      cases r with
      | tup e r2 =>
        cases r2 with
        | cons rk r3 =>
          cases r3 with
          | cons rx r4 =>
            cases r4
            have ek := keyP_rd rk hk
            subst ek
            exact ⟨_, _, rfl, e, rx⟩
  · cases h
theorem pairs_rd {O : V → Int → Prop} {K : PySem.W.Frag} {G H : Hp} (sub : ∀ a o, G a = some o → H a = some o) : ∀ {ds : List D} {vs : List V} {kvs : List (Key × D)}, RDs O K G vs ds → pairsD ds = some kvs →
    ∃ (ps : List Addr) (kw : List (Key × V)), vs = ps.map V.ref ∧ Paired (fun p kv => SqT K H p [kV kv.1, kv.2]) ps kw ∧ kw.map (·.1) = kvs.map (·.1) ∧ RDk O K G kw (kvs.map fun p => (keyD p.1, p.2))
  | [], _, _, .nil, h => by
    obtain rfl := Option.some.inj h
    exact ⟨[], [], rfl, .nil, rfl, .nil⟩
  | d :: ds, v :: vs, kvs, .cons r rs, h => by
    have h : (match pairOf d, pairsD ds with | some p, some ps => some (p :: ps) | _, _ => none) = some kvs := h
    cases h1 : pairOf d with
    | none => rw [h1] at h; cases h
    | some p =>
      cases h2 : pairsD ds with
      | none => rw [h1, h2] at h; cases h
      | some ps' =>
        rw [h1, h2] at h
        obtain rfl := Option.some.inj h
        obtain ⟨ps, kw, e1, e2, e3, e4⟩ := pairs_rd sub rs h2
        obtain ⟨a, xv, rfl, ea, rx⟩ := pair_rd r h1
        exact ⟨a :: ps, (p.1, xv) :: kw, by rw [e1]; rfl, .cons (ea.mono sub).T e2, by rw [List.map_cons, List.map_cons, e3], .cons rx e4⟩
def rDictP (K : PySem.W.Frag) (xs : List V) (H : Hp) (Q : VK) : Prop := ∃ (a : Addr) (ps : List Addr) (kvs : List (Key × V)), xs = [.ref a] ∧ SqL K H a (ps.map V.ref) ∧ Paired (fun p kv => SqT K H p [kV kv.1, kv.2]) ps kvs ∧ ∀ p, H p = none → Q (.ref p) (upd H p (.dK (mergeK [] kvs)))
theorem c_dictP : CallD C (rDictP C.K) (only dictP1) := by
  refine one_arg dictP1 (fun _ => rfl) rfl (fun _ _ _ => rfl) fun σ G H ρ b v d Q R rv q => ?_
  cases rv with
  | lst e r =>
    rename_i a xs ds
    cases hp : pairsD ds with
    | none =>
      have e2 : dictP1 (.list ds) = .bad := by simp [dictP1, hp]
      rw [e2] at q
      exact q.bad.elim
    | some kvs =>
      have e2 : dictP1 (.list ds) = ask ((kvs.map (·.1)).Nodup) (.ret (.dict (kvs.map fun p => (keyD p.1, p.2)))) := by simp [dictP1, hp]
      rw [e2] at q
      obtain ⟨nd, q⟩ := Go.ask q
      obtain ⟨ps, kw, e1, e3, e4, e5⟩ := pairs_rd (H := H) R.sub r hp
      subst e1
      refine ⟨a, ps, kw, rfl, SqL.of (R.sub _ _ e), e3, fun p n => ?_⟩
      rw [mergeK_nd kw [] (by rw [e4]; simpa using nd), List.nil_append]
      exact q.newv R n (.dct upd_same (e5.mono (Post.new (fp := C.J.fp) R.sub n).gg))
  | _ => exact q.bad.elim
theorem pd_dictP {p : Pos} (hc : X.calm = true) (hg : Gl X "dict") (hm : X.mg "dict" = none) (ha : PDa X C (e :: es) fs) (hK : X.K = C.K := by rfl) (he : starEach (e :: es) X.env = (false, eval e X.env) :: starEach es X.env := by rfl) (hpl : (backTo pos (starEach es X.env)).any (·.1) = false := by rfl) :
    PD X C (.Call (.Name "dict" p) (e :: es) [] pos) (fun ρ => (fs ρ).bind (only dictP1)) := pd_cty (call_dictP hc) (by rw [hK]; exact c_dictP) hg hm (by decide +kernel) ha (by decide) (by decide) he hpl
end
end Y
namespace ZD
open PySem
/-! ### O22: dict(zip(..)) of any two walks -/
section
variable {prog : Program} {w : World} {A : Around} {E : Value → Shared → Prop} {s : Shared} {z TI TO T i1 i2 : Addr} {fp1 fp2 : List Addr} {n1 n2 i : Nat} {P1 P2 : Nat → Value → Prop} {St1 St2 : Nat → Heap → Prop} {f : Bool} {oT : Obj}
theorem held_item {Q : Option Value → Shared → Prop} (S : ZipSep2 z TI TO i1 i2 fp1 fp2) (D1 : Draws prog w A.in1 i1 fp1 n1 P1 St1) (D2 : Draws prog w A.in1 i2 fp2 n2 P2 St2)
    (hz : IsZipHeld s.heap z TI TO T f) (hT : s.heap.get? T = some oT) (hTI : IsPair s.heap TI (.ref i1) (.ref i2)) (st1 : St1 i s.heap) (st2 : St2 i s.heap) (lt1 : i < n1) (lt2 : i < n2)
    (hQ : ∀ x1 x2 h' tk, P1 i x1 → P2 i x2 → IsZipHeld h' z TI TO T true → St1 (i + 1) h' → St2 (i + 1) h' → IsPair h' s.heap.objs.size x1 x2 →
      (∀ c o, c ≠ z → c ≠ i1 → c ≠ i2 → s.heap.get? c = some o → h'.get? c = some o) → Q (some (.ref s.heap.objs.size)) { s with heap := h', toks := tk }) :
    wpAny (model prog w) A (pyNext (.ref z)) Q E s := by
  have hTy : s.TypeIs (.ref z) "zip" := ⟨_, hz, rfl⟩
  unfold pyNext
  refine wpAny_bind (wpAny_attempt (wpAny_callSpecial?_slot (name := Str.ofString "__next__") hTy F.slot_zip_next
    (wpAny_call_entry F.slot_zip_next hTy F.entry_zip_next ?_ (F.args_zip_next_1 _))))
  show wpAny _ _ (field (.ref z) 2 >>= _) _ _ _
  refine wpAny_bind (wpAny_field hz rfl (x := .bool false) rfl ?_)
  show wpAny _ _ (field (.ref z) 3 >>= _) _ _ _
  refine wpAny_bind (wpAny_field hz rfl (x := .ref TI) rfl ?_)
  refine wpAny_bind (wpAny_seqItems hTI rfl ?_)
  show wpAny _ _ (Builtin.SmallTypes.ownedTupleIsFree (.ref z) >>= _) _ _ _
  refine wpAny_bind (wpAny_tupleHeld_zip hz hT fun g1 z1 b1 => ?_)
  simp only [Bool.false_eq_true, if_false]
  refine wpAny_bind ?_
  rw [← Array.forIn_toList]
  simp only [List.forIn_cons, List.forIn_nil]
  refine wpAny_bind (wpAny_bind (wpAny_holding ?_))
  show wpAny _ _ (Builtin.SmallTypes.nextOf (.ref i1) >>= _) _ _ _
  refine wpAny_bind (D1.item i { s with heap := g1 } _ _ lt1 (D1.over st1 b1 S.zf1) fun x1 g2 tk2 hx1 s12 b2 => wpAny_pure ?_)
  refine wpAny_pure ?_
  refine wpAny_bind (wpAny_bind (wpAny_holding ?_))
  show wpAny _ _ (Builtin.SmallTypes.nextOf (.ref i2) >>= _) _ _ _
  refine wpAny_bind (D2.item i { s with heap := g2, toks := tk2 } _ _ lt2 (D2.over (D2.over st2 b1 S.zf2) b2 S.sep1_2) fun x2 g3 tk3 hx2 s23 b3 => wpAny_pure ?_)
  refine wpAny_pure (wpAny_pure ?_)
  show wpAny _ _ (newTuple [x1, x2] >>= _) _ _ _
  refine wpAny_bind (wpAny_newTuple ?_)
  have b1' : Heap.SameBut z s.heap g1 := b1
  have b2' : Heap.SameBut i1 g1 g2 := b2
  have b3' : Heap.SameBut i2 g2 g3 := b3
  have hsz : g3.objs.size = s.heap.objs.size := by rw [b3'.1, b2'.1, b1'.1]
  have z3 : IsZipHeld g3 z TI TO T true := b3'.extBut _ _ S.zi2 (b2'.extBut _ _ S.zi1 z1)
  have hk : ∀ c o, c ≠ z → c ≠ i1 → c ≠ i2 → s.heap.get? c = some o → g3.get? c = some o := fun c o c1 c2 c3 e => b3'.extBut _ _ c3 (b2'.extBut _ _ c2 (b1'.extBut _ _ c1 e))
  have s13 : St1 (i + 1) g3 := D1.over s12 b3' S.sep2_1
  refine wpAny_pure ⟨_, rfl, wpAny_pure ?_⟩
  show Q (some (.ref g3.objs.size)) _
  have hp : IsPair (g3.push { cls := .type "tuple", data := .seq #[x1, x2] }) g3.objs.size x1 x2 := Heap.get?_push_size _ rfl
  rw [hsz] at hp ⊢
  exact hQ x1 x2 _ _ hx1 hx2 (Heap.get?_push_of_some _ z3) (D1.frame _ _ _ s13 fun b _ o e => Heap.get?_push_of_some _ e) (D2.frame _ _ _ s23 fun b _ o e => Heap.get?_push_of_some _ e) hp fun c o c1 c2 c3 e => Heap.get?_push_of_some _ (hk c o c1 c2 c3 e)
theorem held_end {Q : Option Value → Shared → Prop} (S : ZipSep2 z TI TO i1 i2 fp1 fp2) (D1 : Draws prog w A.in1 i1 fp1 n1 P1 St1)
    (hz : IsZipHeld s.heap z TI TO T f) (hT : s.heap.get? T = some oT) (hTI : IsPair s.heap TI (.ref i1) (.ref i2)) (st1 : St1 n1 s.heap)
    (hQ : ∀ h', (∀ c o, c ≠ z → c ≠ i1 → c ≠ i2 → s.heap.get? c = some o → h'.get? c = some o) → Q none { s with heap := h' }) : wpAny (model prog w) A (pyNext (.ref z)) Q E s := by
  have hTy : s.TypeIs (.ref z) "zip" := ⟨_, hz, rfl⟩
  unfold pyNext
  have key : ∀ Q' : Fin → Shared → Prop, ∀ E' : Value → Shared → Prop, (∀ h' e, (∀ c o, c ≠ z → c ≠ i1 → c ≠ i2 → s.heap.get? c = some o → h'.get? c = some o) → (∃ o, h'.get? e = some o ∧ o.cls = .type "StopIteration") → E' (.ref e) { s with heap := h' }) →
      wpAny (model prog w) A.in1 (Builtin.«zip.__next__» ⟨[.ref z], []⟩) Q' E' s := fun Q' E' hE => by
    show wpAny _ _ (field (.ref z) 2 >>= _) _ _ _
    refine wpAny_bind (wpAny_field hz rfl (x := .bool false) rfl ?_)
    show wpAny _ _ (field (.ref z) 3 >>= _) _ _ _
    refine wpAny_bind (wpAny_field hz rfl (x := .ref TI) rfl ?_)
    refine wpAny_bind (wpAny_seqItems hTI rfl ?_)
    show wpAny _ _ (Builtin.SmallTypes.ownedTupleIsFree (.ref z) >>= _) _ _ _
    refine wpAny_bind (wpAny_tupleHeld_zip hz hT fun g1 z1 b1 => ?_)
    simp only [Bool.false_eq_true, if_false]
    refine wpAny_bind ?_
    rw [← Array.forIn_toList]
    simp only [List.forIn_cons, List.forIn_nil]
    refine wpAny_bind (wpAny_bind (wpAny_holding ?_))
    show wpAny _ _ (Builtin.SmallTypes.nextOf (.ref i1) >>= _) _ _ _
    exact wpAny_bind (D1.done { s with heap := g1 } _ _ (D1.over st1 b1 S.zf1) fun h2 e b2 he => hE h2 e (fun c o c1 c2 _ x => b2 _ _ c2 (b1.extBut _ _ c1 x)) he)
  refine wpAny_bind (wpAny_attempt (wpAny_callSpecial?_slot (name := Str.ofString "__next__") hTy F.slot_zip_next
    (wpAny_call_entry F.slot_zip_next hTy F.entry_zip_next (key _ _ fun h' e hk he => ?_) (F.args_zip_next_1 _))))
  obtain ⟨o, ho, hc⟩ := he
  refine wpAny_bind (wpAny_isInstance (T := "StopIteration") (b := true) ⟨o, ho, hc⟩ isSubtype_stop ?_)
  exact wpAny_pure (hQ _ hk)
end
theorem pairArg {prog : Program} {w : World} {z TI TO i1 i2 : Addr} {fp1 fp2 : List Addr} {n : Nat} {P1 P2 : Nat → Value → Prop} {St1 St2 : Nat → Heap → Prop} (S : ZipSep2 z TI TO i1 i2 fp1 fp2)
    (D1 : ∀ A : Around, A.handled = none → Draws prog w A.in1 i1 fp1 n P1 St1) (D2 : ∀ A : Around, A.handled = none → Draws prog w A.in1 i2 fp2 n P2 St2)
    (k1 : ∀ h h', St1 0 h → (∀ b o, h.get? b = some o → h'.get? b = some o) → St1 0 h') (k2 : ∀ h h', St2 0 h → (∀ b o, h.get? b = some o → h'.get? b = some o) → St2 0 h')
    (t1 : ∀ h, St1 0 h → ∀ b ∈ fp1, ∃ o, h.get? b = some o) (t2 : ∀ h, St2 0 h → ∀ b ∈ fp2, ∃ o, h.get? b = some o) :
    PairArg prog w "zip" z (z :: TI :: TO :: (fp1 ++ fp2)) [z, TO, i1, i2] n (fun i k v => P1 i k ∧ P2 i v)
      (fun h => IsZip h z TI TO .none ∧ IsPair h TI (.ref i1) (.ref i2) ∧ (∃ a b, IsPair h TO a b) ∧ St1 0 h ∧ St2 0 h) where
  type := fun s ok => ⟨_, ok.1, rfl⟩
  notDict := by decide
  keep := fun h h' ok hk => by
    obtain ⟨hz, hTI, ⟨a, b, hTO⟩, h1, h2⟩ := ok
    exact ⟨hk _ _ hz, hk _ _ hTI, ⟨a, b, hk _ _ hTO⟩, k1 _ _ h1 hk, k2 _ _ h2 hk⟩
  there := fun h ok b hb => by
    obtain ⟨hz, hTI, ⟨a, c, hTO⟩, h1, h2⟩ := ok
    rcases List.mem_cons.mp hb with rfl | hb
    · exact ⟨_, hz⟩
    rcases List.mem_cons.mp hb with rfl | hb
    · exact ⟨_, hTI⟩
    rcases List.mem_cons.mp hb with rfl | hb
    · exact ⟨_, hTO⟩
    rcases List.mem_append.mp hb with hb | hb
    · exact t1 h h1 b hb
    · exact t2 h h2 b hb
  sub := fun b hb => by
    simp only [List.mem_cons, List.not_mem_nil, or_false] at hb
    rcases hb with rfl | rfl | rfl | rfl
    · simp
    · simp
    · simp [S.mem1]
    · simp [S.mem2]
  noKeys := fun A s Q E hA ok h => getAttrOr_miss_zip ok.1 rfl rfl rfl zip_no_keys (by decide +kernel) hA h
  iter := fun A s d Q E hA ok hd hdf h => by
    obtain ⟨hz, hTI, ⟨a, b, hTO⟩, h1, h2⟩ := ok
    simp only [List.mem_cons, List.mem_append, not_or] at hdf
    obtain ⟨dz, dTI, dTO, d1, d2⟩ := hdf
    have di1 : d ≠ i1 := fun e => d1 (e ▸ S.mem1)
    have di2 : d ≠ i2 := fun e => d2 (e ▸ S.mem2)
    refine wpAny_pyIter_zip hz (h z [z, TO, i1, i2] (fun i h => IsPair h TI (.ref i1) (.ref i2) ∧ St1 i h ∧ St2 i h ∧
      ((IsZip h z TI TO .none ∧ ∃ a b, IsPair h TO a b) ∨ ∃ T f oT, IsZipHeld h z TI TO T f ∧ h.get? T = some oT ∧ T ≠ z ∧ T ≠ i1 ∧ T ≠ i2 ∧ T ≠ d)) s.heap s.toks ?_
      ⟨hTI, h1, h2, .inl ⟨hz, a, b, hTO⟩⟩ (fun _ _ e => e) fun b hb => .inl hb)
    exact {
      off := fun hm => by
        simp only [List.mem_cons, List.not_mem_nil, or_false] at hm
        rcases hm with e | e | e | e
        · exact dz e
        · exact dTO e
        · exact di1 e
        · exact di2 e
      frame := fun i h₁ h₂ st hk => by
        obtain ⟨hTI, h1, h2, hz⟩ := st
        refine ⟨hk _ _ (Ne.symm dTI) hTI, (D1 A hA).frame _ _ _ h1 fun b hb o e => hk b o (fun q => d1 (q ▸ hb)) e, (D2 A hA).frame _ _ _ h2 fun b hb o e => hk b o (fun q => d2 (q ▸ hb)) e, ?_⟩
        rcases hz with ⟨hz, a, b, hTO⟩ | ⟨T, f, oT, hz, hT, r1, r2, r3, r4⟩
        · exact .inl ⟨hk _ _ (Ne.symm dz) hz, a, b, hk _ _ (Ne.symm dTO) hTO⟩
        · exact .inr ⟨T, f, oT, hk _ _ (Ne.symm dz) hz, hk _ _ r4 hT, r1, r2, r3, r4⟩
      item := fun i s₁ Q₁ E₁ hi st hds hQ => by
        obtain ⟨hTI, h1, h2, hz⟩ := st
        have lt : ∀ {c o}, s₁.heap.get? c = some o → s₁.heap.objs.size ≠ c := fun e => Nat.ne_of_gt (Heap.lt_size e)
        have n1 : s₁.heap.objs.size ≠ i1 := let ⟨_, e⟩ := (D1 A hA).live _ _ h1; lt e
        have n2 : s₁.heap.objs.size ≠ i2 := let ⟨_, e⟩ := (D2 A hA).live _ _ h2; lt e
        rcases hz with ⟨hz, a, b, hTO⟩ | ⟨T, f, oT, hz, hT, r1, r2, r3, r4⟩
        · refine wpAny_pyNext_zipD2_item S (D1 A hA) (D2 A hA) hz hTI hTO h1 h2 hi hi fun x1 x2 h' tk p1 p2 a1 a2 a3 a4 a5 a6 hk => ?_
          exact hQ s₁.heap.objs.size _ _ h' tk ⟨p1, p2⟩ (.inl ⟨_, a5, rfl, _, rfl⟩)
            ⟨hk _ _ S.TIz S.TITO S.TIi1 S.TIi2 hTI, a3, a4, .inr ⟨s₁.heap.objs.size, false, _, a1, a5, lt hz, n1, n2, Nat.ne_of_gt hds⟩⟩
            fun c o hc e => hk c o (fun x => hc (by simp [x])) (fun x => hc (by simp [x])) (fun x => hc (by simp [x])) (fun x => hc (by simp [x])) e
        · refine held_item S (D1 A hA) (D2 A hA) hz hT hTI h1 h2 hi hi fun x1 x2 h' tk p1 p2 a1 a3 a4 a5 hk => ?_
          exact hQ s₁.heap.objs.size _ _ h' tk ⟨p1, p2⟩ (.inl ⟨_, a5, rfl, _, rfl⟩)
            ⟨hk _ _ S.TIz S.TIi1 S.TIi2 hTI, a3, a4, .inr ⟨T, true, oT, a1, hk _ _ r1 r2 r3 hT, r1, r2, r3, r4⟩⟩
            fun c o hc e => hk c o (fun x => hc (by simp [x])) (fun x => hc (by simp [x])) (fun x => hc (by simp [x])) e
      done := fun s₁ Q₁ E₁ st hQ => by
        obtain ⟨hTI, h1, h2, hz⟩ := st
        rcases hz with ⟨hz, a, b, hTO⟩ | ⟨T, f, oT, hz, hT, r1, r2, r3, r4⟩
        · exact wpAny_pyNext_zipD2_end S (D1 A hA) (D2 A hA) hz hTI hTO h1 h2 (Nat.le_refl _) (Nat.le_refl _) (.inl rfl) fun h' tk hk => hQ h' tk fun c o hc e => hk c o (fun x => hc (by simp [x])) (fun x => hc (by simp [x])) (fun x => hc (by simp [x])) (fun x => hc (by simp [x])) e
        · exact held_end S (D1 A hA) hz hT hTI h1 fun h' hk => hQ h' s₁.toks fun c o hc e => hk c o (fun x => hc (by simp [x])) (fun x => hc (by simp [x])) (fun x => hc (by simp [x])) e }
end ZD
namespace ZD
open PySem
open PySem.Sem (wp)
/-! ### O23: zip(list, tuple) -/
abbrev m1 (h : Heap) (l1 : Addr) : Heap := h.push { cls := .type "list_iterator", data := .fields #[.ref l1, .int 0 0] }
abbrev m2 (h : Heap) (l1 l2 : Addr) : Heap := (m1 h l1).push { cls := .type "tuple_iterator", data := .fields #[.ref l2, .int 0 0] }
abbrev m3 (h : Heap) (l1 l2 : Addr) : Heap := (m2 h l1 l2).push { cls := .type "tuple", data := .seq #[.ref h.objs.size, .ref (m1 h l1).objs.size] }
abbrev m4 (h : Heap) (l1 l2 : Addr) : Heap := (m3 h l1 l2).push { cls := .type "tuple", data := .seq #[.none, .none] }
abbrev m5 (h : Heap) (l1 l2 : Addr) : Heap := (m4 h l1 l2).push { cls := .type "zip", data := .fields #[.none, .bool false, .bool false, .ref (m2 h l1 l2).objs.size, .ref (m3 h l1 l2).objs.size] }
theorem new_lt (l1 l2 : Addr) (xs ys : Array Value) :
    Meets (Builtin.«zip.__new__» ⟨[.type "zip", .ref l1, .ref l2], []⟩) (fun _ R s => s.heap.IsList l1 xs ∧ s.heap.IsTuple l2 ys ∧
      R (.ok (.ret (.ref (m4 s.heap l1 l2).objs.size))) { s with heap := m5 s.heap l1 l2 }) :=
  .of_wp fun prog w A R s h => by
    obtain ⟨hp, g, d, tk, os⟩ := s; obtain ⟨hl1, hl2, h⟩ := h
    have hsub := sub_zip
    have hL1 : Heap.IsList (Shared.heap ⟨hp, g, d, tk, os⟩) l1 xs := hl1
    have hL2 : Heap.IsTuple (Shared.heap ⟨hp.push { cls := .type "list_iterator", data := .fields #[.ref l1, .int 0 0] }, g, d, tk, os⟩) l2 ys := Heap.IsTuple.push hl2 _
    wp_walk using wpAny_pyIter_list hL1, wpAny_pyIter_tuple hL2
    exact ⟨_, rfl, h⟩
section
variable {prog : Program} {w : World} {A : Around} {E : Value → Shared → Prop} {s : Shared}
theorem call_lt {l1 l2 : Addr} {xs ys : Array Value} {Q : Value → Shared → Prop} (hl1 : s.heap.IsList l1 xs) (hl2 : s.heap.IsTuple l2 ys)
    (h : ∀ h', IsZip h' (s.heap.objs.size + 4) (s.heap.objs.size + 2) (s.heap.objs.size + 3) .none → IsPair h' (s.heap.objs.size + 2) (.ref s.heap.objs.size) (.ref (s.heap.objs.size + 1)) →
      IsPair h' (s.heap.objs.size + 3) .none .none → h'.IsListIter s.heap.objs.size l1 0 → h'.IsTupleIter (s.heap.objs.size + 1) l2 0 → h'.objs.size = s.heap.objs.size + 5 →
      (∀ c o, s.heap.get? c = some o → h'.get? c = some o) → Q (.ref (s.heap.objs.size + 4)) { s with heap := h' }) :
    wpAny (model prog w) A (call (.type "zip") [.ref l1, .ref l2]) Q E s := by
  refine callType_new F.called_zip (by decide) (F.typeCall_zip_2 _ _) (F.newCall_zip_2 _ _) (fun obj => F.args_object_init_3 obj _ _) F.entry_zip_new (new_lt l1 l2 xs ys) ⟨hl1, hl2, ?_⟩
  have z1 : (m1 s.heap l1).objs.size = s.heap.objs.size + 1 := Heap.size_push ..
  have z2 : (m2 s.heap l1 l2).objs.size = s.heap.objs.size + 2 := by rw [Heap.size_push, z1]
  have z3 : (m3 s.heap l1 l2).objs.size = s.heap.objs.size + 3 := by rw [Heap.size_push, z2]
  have z4 : (m4 s.heap l1 l2).objs.size = s.heap.objs.size + 4 := by rw [Heap.size_push, z3]
  have z5 : (m5 s.heap l1 l2).objs.size = s.heap.objs.size + 5 := by rw [Heap.size_push, z4]
  have up1 : ∀ c o, (m1 s.heap l1).get? c = some o → (m5 s.heap l1 l2).get? c = some o := fun c o e => Heap.get?_push_of_some _ (Heap.get?_push_of_some _ (Heap.get?_push_of_some _ (Heap.get?_push_of_some _ e)))
  have up2 : ∀ c o, (m2 s.heap l1 l2).get? c = some o → (m5 s.heap l1 l2).get? c = some o := fun c o e => Heap.get?_push_of_some _ (Heap.get?_push_of_some _ (Heap.get?_push_of_some _ e))
  have g1 : (m5 s.heap l1 l2).get? s.heap.objs.size = some { cls := .type "list_iterator", data := .fields #[.ref l1, .int 0 0] } := up1 _ _ (Heap.get?_push_size _ rfl)
  have g2 : (m5 s.heap l1 l2).get? (m1 s.heap l1).objs.size = some { cls := .type "tuple_iterator", data := .fields #[.ref l2, .int 0 0] } := up2 _ _ (Heap.get?_push_size _ rfl)
  have g3 : (m5 s.heap l1 l2).get? (m2 s.heap l1 l2).objs.size = some { cls := .type "tuple", data := .seq #[.ref s.heap.objs.size, .ref (m1 s.heap l1).objs.size] } := Heap.get?_push_of_some _ (Heap.get?_push_of_some _ (Heap.get?_push_size _ rfl))
  have g4 : (m5 s.heap l1 l2).get? (m3 s.heap l1 l2).objs.size = some { cls := .type "tuple", data := .seq #[.none, .none] } := Heap.get?_push_of_some _ (Heap.get?_push_size _ rfl)
  have g5 : (m5 s.heap l1 l2).get? (m4 s.heap l1 l2).objs.size = some { cls := .type "zip", data := .fields #[.none, .bool false, .bool false, .ref (m2 s.heap l1 l2).objs.size, .ref (m3 s.heap l1 l2).objs.size] } := Heap.get?_push_size _ rfl
  have kp : ∀ c o, s.heap.get? c = some o → (m5 s.heap l1 l2).get? c = some o := fun c o e => up1 _ _ (Heap.get?_push_of_some _ e)
  have g6 := g5
  rw [z1] at g2 g3
  rw [z2] at g3
  rw [z3] at g4
  rw [z4] at g5
  rw [z2, z3] at g5
  have hr := h (m5 s.heap l1 l2) g5 g3 g4 ⟨_, g1, rfl, rfl⟩ ⟨_, g2, rfl, rfl⟩ z5 kp
  rw [← z4] at hr
  exact ⟨⟨_, g6, rfl⟩, hr⟩
end
end ZD
namespace Y
open PySem PySem.Spec PyProof.Rows L2
/-! ### O24: dict(zip(list of keys, tuple)) -/
def tDZ (K : PySem.W.Frag) (ta : TA) : TE := fun σ H Q => ta σ H fun vs H1 => ∃ (a b : Addr) (ks : List Key) (ys : List V), vs = [.ref a, .ref b] ∧ SqL K H1 a (ks.map kV) ∧ SqT K H1 b ys ∧ ks.length = ys.length ∧ ∀ p, H1 p = none → Q (.ref p) (upd H1 p (.dK (mergeK [] (ks.zip ys))))
theorem zip_kv : ∀ {ks : List Key} {ys : List V} {us : List Value}, Vals ys us → KV (ks.zip ys) (ks.zip us)
  | [], _, _, _ => .nil
  | k :: ks, [], _, .nil => .nil
  | k :: ks, y :: ys, _, .cons h t => .cons ⟨rfl, h⟩ (zip_kv t)
theorem keyVals_at : ∀ {ks : List Key} {us : List Value} {i : Nat} {u : Value}, Vals (ks.map kV) us → us[i]? = some u → ∃ k, ks[i]? = some k ∧ RelV (kV k) u
  | k :: ks, _ :: _, 0, u, .cons h t, e => by
    have e := Option.some.inj e
    subst e
    exact ⟨k, rfl, h⟩
  | k :: ks, _ :: us, i + 1, u, .cons h t, e => keyVals_at (i := i) t e
  | [], _, i, u, .nil, e => by cases e
theorem ni {x y z : Nat} (h1 : x ≠ y) (h2 : x ≠ z) : x ∉ [y, z] := fun h => by
  rcases List.mem_cons.mp h with h | h
  · exact h1 h
  · exact h2 (List.mem_singleton.mp h)
theorem sepLT (n a b : Nat) (ha : a < n) (hb : b < n) : ZipSep2 (n + 4) (n + 2) (n + 3) n (n + 1) [n, a] [n + 1, b] := by
  have k : ∀ i j : Nat, i ≠ j → n + i ≠ n + j := fun i j h e => h (Nat.add_left_cancel e)
  have la : ∀ i, n + i ≠ a := fun i => Nat.ne_of_gt (Nat.lt_of_lt_of_le ha (Nat.le_add_right n i))
  have lb : ∀ i, n + i ≠ b := fun i => Nat.ne_of_gt (Nat.lt_of_lt_of_le hb (Nat.le_add_right n i))
  exact {
    TIz := k 2 4 (by decide)
    TOz := k 3 4 (by decide)
    TITO := k 2 3 (by decide)
    TIi1 := k 2 0 (by decide)
    mem1 := List.mem_cons_self
    zf1 := ni (k 4 0 (by decide)) (la 4)
    Tf1 := ni (k 3 0 (by decide)) (la 3)
    TIi2 := k 2 1 (by decide)
    mem2 := List.mem_cons_self
    zf2 := ni (k 4 1 (by decide)) (lb 4)
    Tf2 := ni (k 3 1 (by decide)) (lb 3)
    sep1_2 := ni (k 0 1 (by decide)) (lb 0)
    sep2_1 := ni (k 1 0 (by decide)) (la 1) }
section
variable {X : Cx}
theorem pe_dictZip {e e2 : Expr} {ta : TA} {p q pos pos2 : Pos} (hcalm : X.calm = true) (hg : Gl X "dict") (hm : X.mg "dict" = none) (hg2 : Gl X "zip") (hm2 : X.mg "zip" = none) (ha : PA X [e, e2] ta)
    (hs : starEach [e, e2] X.env = (false, eval e X.env) :: starEach [e2] X.env := by rfl) (hpl : (backTo pos2 (starEach [e2] X.env)).any (·.1) = false := by rfl)
    (hs1 : starEach [.Call (.Name "zip" q) [e, e2] [] pos2] X.env = (false, eval (.Call (.Name "zip" q) [e, e2] [] pos2) X.env) :: starEach [] X.env := by rfl) :
    PE X (.Call (.Name "dict" p) [.Call (.Name "zip" q) [e, e2] [] pos2] [] pos) (tDZ X.K ta) := by
  refine ⟨fun pins s σ H Q I h => ?_⟩
  refine wpAny_Call_Name_kw (ld_blt I hg hm (by decide +kernel : bootBuiltins "dict" = some (.type "dict")) ?_ (by decide) (by decide))
  refine PyProof.Rows.callWith_type1 ?_ hs1 (by rfl)
  rw [hs1]
  show wpAny _ _ (spliced ((false, eval (.Call (.Name "zip" q) [e, e2] [] pos2) X.env) :: backTo pos (starEach [] X.env))) _ _ s
  refine Calls.spliced_cons ?_
  refine wpAny_Call_Name_kw (ld_blt I hg2 hm2 PyProof.Rows.boot_zip ?_ (by decide) (by decide))
  refine PyProof.Rows.callWith_type1 (thn (ha.run pos2 pins s σ H _ I h) fun us s1 ⟨vs, H1, I1, r1, q1⟩ => ?_) hs hpl
  obtain ⟨a, b, ks, ys, ex, hqx, hqy, hl, q1⟩ := q1
  subst ex
  cases r1 with
  | cons ra rr =>
    cases rr with
    | cons rb rr =>
      cases rr
      cases ra
      cases rb
      obtain ⟨its, rv, p1, hz1⟩ := I1.list hqx
      obtain ⟨its2, rv2, p2, hz2⟩ := I1.tuple hqy
      have la : a < s1.heap.objs.size := p1.lt
      have lb : b < s1.heap.objs.size := by
        obtain ⟨o2, ho2, _⟩ := id p2
        exact Heap.lt_size ho2
      refine ZD.call_lt p1.isList (show s1.heap.IsTuple b its2.toArray from p2) fun h' hz hTI hTO h1 h2 hsz hk => ?_
      refine Calls.spliced_nil ?_
      have e1 : its.toArray.size = its.length := by simp
      have e2' : its2.toArray.size = its.toArray.size := by
        have := rv.length
        have := rv2.length
        simp at *
        omega
      have hl1 : h'.IsList a its.toArray := p1.isList.at fun o e => hk a o e
      have hl2 : h'.IsTuple b its2.toArray := (show s1.heap.IsTuple b its2.toArray from p2).at fun o e => hk b o e
      generalize hsz0 : s1.heap.objs.size = n0 at *
      have S := sepLT n0 a b la lb
      have P := ZD.pairArg (prog := X.prog) (w := X.w) (n := its.toArray.size) (P1 := fun i v => its.toArray[i]? = some v) (P2 := fun i v => its2.toArray[i]? = some v) (St1 := fun i h => h.IsListIter n0 a i ∧ h.IsList a its.toArray) (St2 := fun i h => h.IsTupleIter (n0 + 1) b i ∧ h.IsTuple b its2.toArray) S (fun A hA => Draws.list (A := A.in1) hA n0 a (Nat.ne_of_lt la) its.toArray) (fun A hA => by
          have := Draws.tuple (prog := X.prog) (w := X.w) (A := A.in1) hA (n0 + 1) b (Nat.ne_of_lt (Nat.lt_succ_of_lt lb)) its2.toArray
          rw [e2'] at this
          exact this)
        (fun h h' st k => ⟨st.1.at fun o e => k _ o e, st.2.at fun o e => k _ o e⟩) (fun h h' st k => ⟨st.1.at fun o e => k _ o e, st.2.at fun o e => k _ o e⟩)
        (fun h st b hb => by
          obtain ⟨⟨o1, g1, _⟩, ⟨o2, g2, _⟩⟩ := st
          simp only [List.mem_cons, List.not_mem_nil, or_false] at hb
          rcases hb with rfl | rfl
          · exact ⟨_, g1⟩
          · exact ⟨_, g2⟩)
        (fun h st b hb => by
          obtain ⟨⟨o1, g1, _⟩, ⟨o2, g2, _⟩⟩ := st
          simp only [List.mem_cons, List.not_mem_nil, or_false] at hb
          rcases hb with rfl | rfl
          · exact ⟨_, g1⟩
          · exact ⟨_, g2⟩)
      refine PySem.call_dict_pairs (knd := mixKind X.prog X.w) (kvs := ks.zip its2) P (I1.ok.hd hcalm) ⟨hz, hTI, ⟨_, _, hTO⟩, ⟨h1, hl1⟩, ⟨h2, hl2⟩⟩ ⟨?_, fun i key v hr => ?_⟩ (by rw [e1, ← rv.length]; exact hz1) fun h2' tk hd hk2 => ?_
      · have r1 := rv.length
        have r2 := rv2.length
        rw [List.length_map] at r1
        rw [List.length_zip, e1]
        omega
      · obtain ⟨hr1, hr2⟩ := hr
        have g1 : its[i]? = some key := by simpa using hr1
        have g2 : its2[i]? = some v := by simpa using hr2
        obtain ⟨k, gk, rk⟩ := keyVals_at rv g1
        exact ⟨k, by rw [List.getElem?_zip_eq_some]; exact ⟨gk, g2⟩, kV_is (P := X.prog) (w := X.w) rk⟩
      · have big : n0 ≤ h'.objs.size := by rw [hsz]; exact Nat.le_add_right _ _
        have hmod : (h'.objs.size == sysModules) = false := beq_eq_false_iff_ne.mpr (Nat.ne_of_gt (Nat.lt_of_lt_of_le (hsz0 ▸ I1.big) big))
        have rel : KV (ks.zip ys) (ks.zip its2) := zip_kv rv2
        have hlen : (mergeK [] (ks.zip ys)).length ≤ sizeLine := by
          refine Nat.le_trans (length_mergeK (ks.zip ys) []) ?_
          rw [List.length_nil, Nat.zero_add, List.length_zip]
          rw [List.length_map] at hz1
          exact Nat.le_trans (Nat.min_le_left _ _) hz1
        have keep : ∀ c o, s1.heap.get? c = some o → h2'.get? c = some o := fun c o e => by
          have lc : c < n0 := hsz0 ▸ Heap.lt_size e
          have k : ∀ i, c ≠ n0 + i := fun i => Nat.ne_of_lt (Nat.lt_of_lt_of_le lc (Nat.le_add_right n0 i))
          refine hk2 c o (fun hm => ?_) (hk c o e)
          simp only [List.mem_cons, List.not_mem_nil, or_false] at hm
          rcases hm with z | z | z | z
          · exact k 4 z
          · exact k 3 z
          · exact k 0 z
          · exact k 1 z
        exact ⟨.ref h'.objs.size, upd H1 h'.objs.size (.dK (mergeK [] (ks.zip ys))), I1.laid (t' := tk) keep (hsz0 ▸ big) (show ObjOk X.prog X.w _ _ _ (.dK (mergeK [] (ks.zip ys))) from ⟨hlen, hmod, merged [] (ks.zip its2), KV.merge rel .nil, hd⟩), rfl, q1 _ (I1.hok.fresh (hsz0 ▸ big))⟩
end
end Y
namespace Y
open PySem PySem.Spec PyProof.Rows L2
/-! ### O25: dict(zip(list of keys, tuple)), as data -/
def keysOfD : List D → Option (List Key)
  | [] => some []
  | d :: r => match keyOf d, keysOfD r with
    | some k, some ks => some (k :: ks)
    | _, _ => none
def zipK (ks : List Key) (vs : List D) : List (D × D) := (ks.zip vs).map fun p => (keyD p.1, p.2)
def dictZ : List D → T D
  | [.list ds, .tuple vs] => match keysOfD ds with
    | some ks => ask (ks.length = vs.length ∧ ks.Nodup) (.ret (.dict (zipK ks vs)))
    | none => .bad
  | _ => .bad
theorem keys_rd {O : V → Int → Prop} {K : PySem.W.Frag} {G : Hp} : ∀ {ds : List D} {xs : List V} {ks : List Key}, RDs O K G xs ds → keysOfD ds = some ks → xs = ks.map kV
  | [], _, _, .nil, h => by
    obtain rfl := Option.some.inj h
    rfl
  | d :: ds, x :: xs, ks, .cons r rs, h => by
    have h : (match keyOf d, keysOfD ds with | some k, some ks => some (k :: ks) | _, _ => none) = some ks := h
    cases h1 : keyOf d with
    | none => rw [h1] at h; cases h
    | some k =>
      cases h2 : keysOfD ds with
      | none => rw [h1, h2] at h; cases h
      | some ks' =>
        rw [h1, h2] at h
        obtain rfl := Option.some.inj h
        rw [keys_rd rs h2, keyP_rd r h1]
        rfl
theorem zip_rdk {O : V → Int → Prop} {K : PySem.W.Frag} {G : Hp} : ∀ {ks : List Key} {ys : List V} {vs : List D}, RDs O K G ys vs → RDk O K G (ks.zip ys) (zipK ks vs)
  | [], _, _, _ => .nil
  | k :: ks, [], _, .nil => .nil
  | k :: ks, y :: ys, _, .cons r rs => .cons r (zip_rdk rs)
theorem zip_fst {α β : Type} : ∀ {ks : List α} {ys : List β}, ks.length = ys.length → (ks.zip ys).map (·.1) = ks
  | [], _, _ => rfl
  | k :: ks, y :: ys, h => by
    rw [List.zip_cons_cons, List.map_cons, zip_fst (by simpa using h)]
  | k :: ks, [], h => by simp at h
section
variable {X : Cx} {C : Ct} {fs : Rho → T (List D)}
theorem d_dictZ : ∀ σ H Q, tD C (fun ρ => (fs ρ).bind dictZ) σ H Q → tDZ C.K (tA C fs) σ H Q := by
  rintro σ H Q ⟨G, ρ, b, R, h⟩
  refine ⟨G, ρ, b, R, (Go.bind R h).mono fun ds G1 H1 c P j z vs rs => ?_⟩
  obtain ⟨R1, z⟩ := z
  unfold dictZ at z
  split at z
  · rename_i kd vd
    cases hk : keysOfD kd with
    | none => rw [hk] at z; exact z.bad.elim
    | some ks =>
      rw [hk] at z
      obtain ⟨⟨hl, nd⟩, z⟩ := Go.ask z
      cases rs with
      | cons r1 rs =>
        cases rs with
        | cons r2 rs =>
          cases rs
          cases r1 with
          | lst e1 q1 =>
            cases r2 with
            | tup e2 q2 =>
              rename_i a2 ys
              have ek := keys_rd q1 hk
              have ey := q2.len
              refine ⟨_, _, ks, ys, rfl, SqL.of (by rw [← ek]; exact R1.sub _ _ e1), (e2.mono R1.sub).T, hl.trans ey.symm, fun p n => ?_⟩
              have hf := zip_fst (ks := ks) (ys := ys) (hl.trans ey.symm)
              rw [mergeK_nd _ [] (by rw [hf]; simpa using nd), List.nil_append]
              have z' := z.mono fun d G2 H2 c2 P2 j2 q => q.2
              exact z'.newv R1 n (.dct upd_same ((zip_rdk q2).mono (Post.new (fp := C.J.fp) R1.sub n).gg))
  · exact z.bad.elim
theorem pd_dictZip {e e2 : Expr} {p q pos pos2 : Pos} (hcalm : X.calm = true) (hg : Gl X "dict") (hm : X.mg "dict" = none) (hg2 : Gl X "zip") (hm2 : X.mg "zip" = none) (ha : PDa X C [e, e2] fs) (hK : X.K = C.K := by rfl)
    (hs : starEach [e, e2] X.env = (false, eval e X.env) :: starEach [e2] X.env := by rfl) (hpl : (backTo pos2 (starEach [e2] X.env)).any (·.1) = false := by rfl)
    (hs1 : starEach [.Call (.Name "zip" q) [e, e2] [] pos2] X.env = (false, eval (.Call (.Name "zip" q) [e, e2] [] pos2) X.env) :: starEach [] X.env := by rfl) :
    PD X C (.Call (.Name "dict" p) [.Call (.Name "zip" q) [e, e2] [] pos2] [] pos) (fun ρ => (fs ρ).bind dictZ) :=
  PEto (pe_dictZip hcalm hg hm hg2 hm2 ha hs hpl hs1) (by rw [hK]; exact d_dictZ)
end
end Y
namespace Y
open PySem PySem.Spec PyProof.Rows L2
/-! ### O26: tuple * int, where the number may be 0 -/
theorem tuple_mul0 (l : Addr) (items : Array Value) (n : Nat) (dd : Option Addr) (sl : Array (Option Value)) (u : Tok) (hi : items.isEmpty = false) :
    Meets (Builtin.«tuple.__mul__» ⟨[.ref l, .int 0 u], []⟩) (fun _ R s => s.heap.get? l = some { cls := .type "tuple", dict := dd, data := .seq items n, slots := sl } ∧
      R (.ok (.ret (Value.ref s.heap.objs.size))) { s with heap := s.heap.push { cls := Value.type "tuple", data := Data.seq #[] }, toks := s.toks }) :=
  .of_wp fun prog w A R s h => by
    obtain ⟨hp, g, d, tk, os⟩ := s
    obtain ⟨hl, h⟩ := h
    have f1 := AutoSeq1.idx_int
    have c1 : (items.isEmpty || (0 : Int) == 1) = false := by rw [hi]; rfl
    wp_walk using wpAny_loadPart' hl
    repeat (first
      | (refine wpAny_ite_false (decide_eq_false (by decide)) ?_; wp_walk using wpAny_loadPart' hl)
      | (refine wpAny_ite_false (decide_eq_false (by rw [c1]; exact Bool.false_ne_true)) ?_; wp_walk using wpAny_loadPart' hl)
      | (refine wpAny_ite_true (decide_eq_true (by simp)) ?_; wp_walk using wpAny_loadPart' hl)
      | (refine wpAny_ite_true (by simp) ?_; wp_walk using wpAny_loadPart' hl))
    exact ⟨_, rfl, h⟩
def rRep0 (K : PySem.W.Frag) : R2 := fun x y H Q => ∃ l xs, x = .ref l ∧ y = .int 0 ∧ SqP K H l xs ∧ xs ≠ [] ∧ NewT H [] Q
theorem op_rep0 {X : Cx} : OpR X (binaryOp .Mult) (rRep0 X.K) := by
  intro pins s σ H x y v u Q I rx ry h
  obtain ⟨l, xs, rfl, rfl, hP, hne, q⟩ := h
  cases rx
  obtain ⟨t, rfl⟩ := ry
  obtain ⟨its, r, ⟨⟨cls, dd, data, sl⟩, ho, hc, n, hd⟩, hs⟩ := I.tuple hP.T
  simp only at hc hd
  subst hc hd
  have hle : its.length = xs.length := r.length.symm
  have hn : its ≠ [] := fun e => hne (by
    rw [e] at hle
    exact List.eq_nil_of_length_eq_zero hle.symm)
  have hi : its.toArray.isEmpty = false := by
    cases its with
    | nil => exact absurd rfl hn
    | cons a b => rfl
  refine wpAny_binaryOp_repeat_ref (T := "tuple") (U := "int") (by decide) ⟨_, ho, rfl⟩ (fun s' => typeIs_int s' 0 t) noFill_tuple_mul F.fills_int_mul F.slot_int_rmul repeat_tuple F.slot_int_index.lookup
    (call_meets F.slot_int_rmul (typeIs_int s 0 t) F.entry_int_rmul (F.args_int_rmul_2 _ _) (int_rmul_tuple 0 t l its.toArray n dd sl)
      ⟨ho, rfl, ⟨_, ho, rfl⟩, call_meets F.slot_tuple_mul ⟨_, ho, rfl⟩ F.entry_tuple_mul (F.args_tuple_mul_2 _ _) (tuple_mul0 l its.toArray n dd sl t hi) ⟨ho, ?_⟩⟩)
  exact laidT I (xs := []) (its := []) .nil (Nat.zero_le _) q
def rRep1 (K : PySem.W.Frag) : R2 := fun x y H Q => rRepP K x y H Q ∨ rRep0 K x y H Q
theorem op_rep1 {X : Cx} : OpR X (binaryOp .Mult) (rRep1 X.K) := by
  intro pins s σ H x y v u Q I rx ry h
  rcases h with h | h
  · exact op_repP pins s σ H x y v u Q I rx ry h
  · exact op_rep0 pins s σ H x y v u Q I rx ry h
section
variable {X : Cx} {C : Ct} {a b : Expr} {f g : Rho → T D} {pos : Pos}
def pyRep0 : D → D → T D
  | .tuple xs, .int k => match decide (k = 0) with
    | true => ask (xs ≠ []) (.ret (.tuple []))
    | false => pyRepT (.tuple xs) (.int k)
  | _, _ => .bad
theorem o_rep0 : Op2 C (rRep1 C.K) pyRep0 := by
  intro σ G H ρ b x y d e Q R rx ry h
  cases rx with
  | tup ea ra =>
    cases ry with
    | int k =>
      rename_i a xs ds
      have h : Go C σ G H ρ b (match decide (k = 0) with | true => Y.ask (ds ≠ []) (T.ret (PyData.tuple [])) | false => pyRepT (.tuple ds) (.int k)) _ := h
      cases hk : decide (k = 0) with
      | true =>
        rw [hk] at h
        have h : Go C σ G H ρ b (Y.ask (ds ≠ []) (T.ret (PyData.tuple []))) _ := h
        have hk := of_decide_eq_true hk
        subst hk
        obtain ⟨h3, h⟩ := Go.ask h
        refine .inr ⟨_, _, rfl, rfl, ea.mono R.sub, fun z => h3 ?_, fun p o n hc hd => ?_⟩
        · subst z
          cases ra
          rfl
        · exact h.newT R n hc hd .nil
      | false =>
        rw [hk] at h
        exact .inl (o_repT σ G H ρ b _ _ _ _ Q R (.tup ea ra) (.int k) h)
    | _ => exact h.bad.elim
  | _ => cases ry <;> exact h.bad.elim
theorem pd_rep0 (ha : PD X C a f) (hb : PD X C b g) (hK : X.K = C.K := by rfl) : PD X C (.BinOp a .Mult b pos) (op2 pyRep0 f g) := PEto (pe_op op_rep1 ha hb) (by rw [hK]; exact d_op o_rep0)
theorem rep0_z {xs : List D} (h : xs ≠ []) : pyRep0 (.tuple xs) (.int 0) = .ret (.tuple []) := ask_t h
theorem rep0_r {xs : List D} {k : Int} (h1 : 1 ≤ k) (h2 : k < 1000) (hl : xs.length ≤ 1000) (hn : xs ≠ []) : pyRep0 (.tuple xs) (.int k) = .ret (.tuple (List.replicate k.toNat xs).flatten) := by
  have e : decide (k = 0) = false := decide_eq_false (by omega)
  show (match decide (k = 0) with | true => Y.ask (xs ≠ []) (T.ret (PyData.tuple [])) | false => pyRepT (.tuple xs) (.int k)) = _
  rw [e]
  exact repT_r h1 h2 hl hn
end
end Y
namespace Y
open PySem PySem.Spec PyProof.Rows L2
section
variable {X : Cx} {C : Ct} {σ : L2.St} {G H G' H' : Hp} {ρ : Rho} {b c : Nat} {e : Expr} {es : List Expr} {pos : Pos} {f g : Rho → T D} {fs gs : Rho → T (List D)}
/-! ### O27: x = xs.pop(k), of a list of ours -/
def popAtS (i : Nat) (g : D → Rho → Option Rho) (f : Rho → T D) : Rho → T Out := atS f fun ρ d => match d, ρ[i]? with
  | .int k, some (.ow ds) => ask (0 ≤ k ∧ k < 1000000) (match ds[k.toNat]? with
    | some x => match g x (ρ.set i (.ow (ds.eraseIdx k.toNat))) with
      | some ρ' => .ret (.nx ρ')
      | none => .bad
    | none => .bad)
  | _, _ => .bad
theorem s_popAt {i : Nat} {us : List Nat} {g : D → Rho → Option Rho} {f : Rho → T D} : ∀ Dn σ H, tS C (ownS i (popAtS i g f)) Dn σ H → tAsg (tBM C.K "list" rPopAt (tVar i) (tCons (tD C f) tNil)) (gD C us g) Dn σ H := by
  rintro Dn σ H ⟨G, ρ, b, R, h⟩
  unfold ownS at h
  split at h
  · rename_i ds ei
    obtain ⟨p, xs, h1, _, _, h4, _⟩ := R.own_at ei
    refine ⟨_, h1, .inl ⟨rfl, xs, SqL.of h4⟩, G, ρ, b, R, (S_go R h).mono fun d G1 H1 c P k z v r => ?_⟩
    obtain ⟨R1, z⟩ := z
    obtain ⟨p', xs', q1, _, _, q4, q5⟩ := R1.own_at ei
    rw [h1] at q1
    cases q1
    cases r with
    | int n =>
      rw [ei] at z
      unfold Ok ask at z
      dsimp only at z
      split at z
      · rename_i hz
        obtain ⟨z0, z1⟩ := hz
        cases ek : ds[n.toNat]? with
        | none => rw [ek] at z; exact z.elim
        | some x =>
          rw [ek] at z
          dsimp only at z
          obtain ⟨y, hy, ry⟩ := q5.get ek
          have hlt := (List.getElem?_eq_some_iff.mp hy).1
          have R2 := R1.mut ei h1 (rds_erase q5 n.toNat)
          cases eg : g x (ρ.set i (.ow (ds.eraseIdx n.toNat))) with
          | none => rw [eg] at z; exact z.elim
          | some ρ' =>
            rw [eg] at z
            refine ⟨p, xs', n, n.toNat, y, rfl, rfl, q4, by omega, by omega, ?_, hy, ?_⟩
            · unfold seqIndex?
              simp
              omega
            · exact ⟨G1, _, c, x, ρ', R2, ry, eg, fun σ' R' _ => z σ' G1 _ (Gr.refl _) R'⟩
      · exact z.elim
    | _ => exact z.elim
  · exact h.elim
theorem pd1_popAt (i : Nat) {us : List Nat} {g : D → Rho → Option Rho} {x : Str} {tg e : Expr} {f : Rho → T D} {p1 apos cpos : Pos} (he : PD X C e f) (hg : PDg X C tg us g) (hi : X.N[i]? = some x := by rfl)
    (hv : Vis X.env.scope x := by first | exact Or.inl rfl | exact Or.inr (Or.inl rfl) | exact Or.inr (Or.inr rfl)) (hd : (x == ("__debug__" : Str)) = false := by decide) (hc : (x == ("__classdict__" : Str)) = false := by decide)
    (hbase : attributeBase (.Name x p1) "pop" X.env (eval (.Name x p1) X.env) = eval (.Name x p1) X.env := by rfl)
    (hfew : ((backTo cpos (starEach [e] X.env)).all (fun x => !x.1) && (backToKw cpos (keywordEach [] X.env)).all (fun x => x.1.isSome)
      && decide ([e].length + ([] : List Keyword).length + (if ([] : List Keyword).isEmpty then 0 else 1) < 30)) = true := by rfl)
    (hline : (apos.endLine == cpos.line) = true := by rfl) (hse : starEach [e] X.env = (false, eval e X.env) :: starEach [] X.env := by rfl) (hplain : (backTo cpos (starEach [] X.env)).any (·.1) = false := by rfl)
    (hs : swapsWithSole [tg] (.Call (.Attribute (.Name x p1) "pop" apos) [e] [] cpos) pos.line X.env = pure false := by rfl) (hw : swappedStores [tg] (.Call (.Attribute (.Name x p1) "pop" apos) [e] [] cpos) X.env = pure none := by rfl)
    (h1 : (assignEach [tg] X.env).map (·.2) = [assign tg X.env] := by rfl) (hK : X.K = C.K := by rfl) :
    PD1 X C (.Assign [tg] (.Call (.Attribute (.Name x p1) "pop" apos) [e] [] cpos) pos) (ownS i (popAtS i g f)) :=
  PStoD (ps_asg (pe_bm PySem.F.plainAttrs_list PySem.F.slot_list_pop PySem.F.type_list_pop mt_popAt (pv i hi hv hd hc) (pa_cons he pa_nil hse) hbase hfew hline hse hplain) hg hs hw h1) (by rw [hK]; exact s_popAt)
end
end Y
namespace Y
open PySem PySem.Spec PyProof.Rows L2
section
variable {X : Cx} {C : Ct} {σ : L2.St} {G H G' H' : Hp} {ρ : Rho} {b c : Nat} {e : Expr} {es : List Expr} {pos : Pos} {f g : Rho → T D} {fs gs : Rho → T (List D)} {a : Expr}
/-! ### O28: t.count(x); try: statements; except X as n: name = value -/
def rCountD (K : PySem.W.Frag) : V → List V → Hp → VK → Prop := fun x xs H Q => ∃ (p : Addr) (y : V) (d : PyData) (ds : List PyData), x = V.ref p ∧ xs = [y] ∧ Dp K H (V.ref p) (.tuple ds) ∧ Dp K H y d ∧
  (PyData.plainAll ds = true ∧ d.plain = true ∧ SeqAt.shaped (.tuple ds) = true ∧ SeqAt.shaped d = true) ∧ Q (.int ((ds.countP fun z => PyData.eqv z d : Nat) : Int)) H
theorem mt_countD (hu : X.A.units + 65 < cLine) : MtR X "tuple.count" (rCountD X.K) := by
  intro pins s σ H x xs v us Q I rx rxs h
  obtain ⟨p, y, d, ds, rfl, rfl, hl, hy, ⟨pl, pd, sl, sd⟩, q⟩ := h
  cases rx
  cases rxs with
  | cons ry rt =>
    rename_i uy ut
    cases rt
    obtain ⟨bs, r1⟩ := Dp.reads I d y uy hy ry
    have hroom : X.A.units + 1 + min (PyData.depthAll ds) d.depth < cLine := room_in_shaped sd hu
    cases hl with
    | tup hs ha =>
      obtain ⟨its, rv, pl', hlen⟩ := I.tuple hs
      obtain ⟨as, h4⟩ := Dp.readsAll I ds _ its ha rv
      exact SeqAt.count_tuple_data pl' (show ReadsAll s.heap its.toArray.toList ds as from h4) r1 pl pd hroom ⟨.int _, H, I.tok _, ⟨_, rfl⟩, q⟩
def tupCount (d e : D) : T D := match d with
  | .tuple ds => ask (PyData.plainAll ds = true ∧ e.plain = true ∧ SeqAt.shaped (.tuple ds) = true ∧ SeqAt.shaped e = true) (.ret (.int ((ds.countP fun z => PyData.eqv z e : Nat) : Int)))
  | _ => .bad
theorem d_tupCount : ∀ σ H Q, tD C (mOp isTup tupCount f g) σ H Q → tMP C.K (rCountD C.K) (tD C f) (tCons (tD C g) tNil) σ H Q := by
  rintro σ H Q ⟨G, ρ, b, R, h⟩
  refine ⟨G, ρ, b, R, (Go.bind R h).mono fun d G1 H1 c P j z v rv => ?_⟩
  obtain ⟨R1, z⟩ := z
  obtain ⟨hp, z⟩ := Go.ask z
  cases rv with
  | @tup p xs ds ea ra =>
    refine ⟨⟨p, xs, rfl, ea.mono R1.sub⟩, G1, ρ, c, R1, (Go.bind R1 z).mono fun e G2 H2 c2 P2 j2 z2 w rw => ?_⟩
    obtain ⟨R2, z2⟩ := z2
    obtain ⟨hs, z2⟩ := Go.ask z2
    exact ⟨p, w, e, ds, rfl, rfl, dp_mono R2.sub (dp_of (.tup (ea.mono P2.gg) (ra.mono P2.gg)) (shaped_lay hs.2.2.1)), dp_mono R2.sub (dp_of rw (shaped_lay hs.2.2.2)), hs, (z2.ret R2).2.2 _ (.int _)⟩
  | _ => cases hp
theorem pd_tupCount {apos : Pos} (hu : X.A.units + 65 < cLine) (ha : PD X C a f) (hb : PD X C e g) (hbase : attributeBase a "count" X.env (eval a X.env) = eval a X.env := by rfl)
    (hfew : ((backTo pos (starEach [e] X.env)).all (fun x => !x.1) && (backToKw pos (keywordEach [] X.env)).all (fun x => x.1.isSome)
      && decide ([e].length + ([] : List Keyword).length + (if ([] : List Keyword).isEmpty then 0 else 1) < 30)) = true := by rfl)
    (hline : (apos.endLine == pos.line) = true := by rfl) (hs : starEach [e] X.env = (false, eval e X.env) :: starEach [] X.env := by rfl) (hplain : (backTo pos (starEach [] X.env)).any (·.1) = false := by rfl) (hK : X.K = C.K := by rfl) :
    PD X C (.Call (.Attribute a "count" apos) [e] [] pos) (mOp isTup tupCount f g) :=
  PEto (pe_mP PySem.F.slot_tuple_count PySem.F.type_tuple_count (mt_countD hu) ha (pa_cons hb pa_nil hs) hbase hfew hline hs hplain) (by rw [hK]; exact d_tupCount)
/-- the clause takes errors with a field, and goes on -/
def tryH (i j : Nat) (takes : Str → Option Bool) (F : Rho → T Out) (h : Ev → Rho → T D) (ρ : Rho) : T Out := (F ρ).bind fun
  | .xc ev ρ' => match takes ev.cls with
    | some true => match ev.arg with
      | some _ => (noexc (h ev (ρ'.set i (.dt (hdl (-1)))))).bind fun d => ask (d.hasDict = false ∧ i ≠ j) (.ret (.nx ((ρ'.set j (.dt d)).set i .un)))
      | none => .bad
    | some false => .ret (.xc ev ρ')
    | none => .bad
  | .nx ρ' => .ret (.nx ρ')
  | .rt d => .ret (.rt d)
  | .bk ρ' => .ret (.bk ρ')
  | .ct ρ' => .ret (.ct ρ')
def tSuiteH (C : Ct) (j : Nat) (h : Ev → Rho → T D) (a : Addr) (cls : Value) (d : Option Addr) : TS := fun Dn σ H => ∃ ev dd v d0 G1, C.mg ev.cls = some cls ∧ ev.arg = some d0 ∧ d = some dd ∧ RD C.J.O C.K G1 v d0 ∧ tAsg (tD (C.excD a dd (.xd [(excF ev.cls, v)]) G1) (h ev)) (gName j) Dn σ H
/-- the same state, G0 later -/
theorem Rel.g0 (R : Rel C G H ρ σ b) (W : WX) : Rel { C with W := W, G0 := G } G H ρ σ b := ⟨⟨fun _ _ e => e, R.post.sub, R.post.hh, R.post.th, fun _ e => .inl e⟩, R.jar, R.jfr, R.jth, R.own, R.dat, R.len⟩
theorem Post.g0 {fp : Addr → Prop} {G0 H0 G H G' H' : Hp} (P : Post fp G0 H0 G H) (P' : Post fp G H0 G' H') : Post fp G0 H0 G' H' := ⟨fun a o e => P'.gg a o (P.gg a o e), P'.sub, P'.hh, P'.th, fun a e => (P'.fr a e).elim (P.fr a) .inr⟩
theorem Rel.back (R : Rel C G H ρ σ b) {W : WX} {ρ' : Rho} {σ' : L2.St} {c : Nat} (R' : Rel { C with W := W, G0 := G } G' H' ρ' σ' c) : Rel C G' H' ρ' σ' c := ⟨R.post.g0 R'.post, R'.jar, R'.jfr, R'.jth, R'.own, R'.dat, R'.len⟩
theorem s_tryH {i kk : Nat} {takes : Str → Option Bool} {F : Rho → T Out} {h : Ev → Rho → T D} {cv : Value}
    (hx : ∀ n Ca k, takes n = some k → C.mg n = some (.ref Ca) → PySem.W.exmOne C.K (.ref Ca) cv = some k) :
    ∀ Dn σ H, tS C (tryH i kk takes F h) Dn σ H → (fun Dn σ H => (fun (W : WX) (Dn : Ends) (σ : L2.St) (H : Hp) => ∃ G1, tS { C with W := W, G0 := G1 } F Dn σ H) (wAs C.K cv i (tSuiteH C kk h) C.W Dn) Dn σ H) Dn σ H := by
  rintro Dn σ H ⟨G, ρ, b, R, q⟩
  have q2 := T.sat_bind q
  refine ⟨G, G, ρ, b, R.g0 _, T.sat_mono (fun o c z => ?_) (fun _ _ z => z) q2⟩
  cases o with
  | nx ρ' => exact fun σ' G' H' g R' => z σ' G' H' g (R.back R')
  | rt d => exact fun v G' H' P j r => z v G' H' (R.post.g0 P) j r
  | bk ρ' => exact fun σ' G' H' g R' => z σ' G' H' g (R.back R')
  | ct ρ' => exact fun σ' G' H' g R' => z σ' G' H' g (R.back R')
  | xc ev ρ' =>
    intro cl od σ' G' H' R' x
    have gg : Gr G G' := R'.post.gg
    have R' : Rel C G' H' ρ' σ' c := R.back R'
    obtain ⟨Ca, rfl, hm, ha⟩ := x
    obtain ⟨n, ar⟩ := ev
    dsimp only at z
    cases tk : takes n with
    | none => simp only [tk] at z; exact z.elim
    | some k =>
      cases k with
      | false =>
        simp only [tk] at z
        exact ⟨false, hx n Ca false tk hm, (fun e => by cases e), fun _ => z _ _ _ _ _ R' ⟨Ca, rfl, hm, ha⟩⟩
      | true =>
        simp only [tk] at z
        cases ar with
        | none => exact z.elim
        | some d0 =>
          obtain ⟨dd, v, rfl, h1, h2, h3, h4⟩ := ha
          refine ⟨true, hx n Ca true tk hm, fun _ a ha => ?_, (fun e => by cases e)⟩
          have RD1 := R'.excD a h1 h2 h3
          have R2 : Rel (C.excD a dd (.xd [(excF n, v)]) G') G' H' (ρ'.set i (.dt (hdl (-1)))) (σ'.set i (some (.ref a))) c := RD1.set (.opq (.inr ⟨rfl, rfl⟩))
          refine ⟨⟨n, some d0⟩, dd, v, d0, G', hm, rfl, rfl, h4, G', _, c, R2, T.sat_mono (fun d c2 z2 G2 H2 P2 j2 w rw => ?_) (fun _ _ z => z.elim) (sat_noexc (T.sat_bind z))⟩
          have z2 : T.sat (ask (d.hasDict = false ∧ i ≠ kk) (.ret (.nx ((ρ'.set kk (.dt d)).set i .un)))) c2 (Fin C Dn G) fun _ _ => False := z2
          unfold ask at z2
          split at z2
          · rename_i hd
            obtain ⟨hd, hij⟩ := hd
            have P3 : Post C.J.fp G' H' G2 H2 := ⟨P2.gg, P2.sub, fun z o nf e => by
              by_cases nz : z = dd
              · subst nz
                rw [j2.2]
                rw [h1] at e
                exact e
              · exact P2.hh z o (fun q => q.elim nf nz) e, P2.th, P2.fr⟩
            have R3 : Rel C G2 H2 ρ' σ' c2 := R'.step P3 j2.1
            have R4 := (R3.set (i := kk) (rw.less hd)).setU (i := i) none
            have z2 := z2 _ G2 H2 (gg.trans P3.gg) R4
            show Dn.nx (((σ'.set i (some (.ref a))).set kk (some w)).set i none) H2
            rw [List.set_comm _ _ hij, List.set_set]
            exact z2
          · exact z2.elim
theorem pd1_tryH {i j : Nat} {n x y : Str} {cv : Value} {takes : Str → Option Bool} {F : Rho → T Out} {h : Ev → Rho → T D} {body : List Stmt} {e' : Expr} {np pos' p2 p3 : Pos} (hs : X.stack = X.env :: X.outer) (hf : X.env.frame = some X.env.locals) (hN : X.N.Nodup) (hi : X.N[i]? = some n) (hln : X.env.kindOf n = some .local) (hc : Names X x cv) (tk : Takes X C.W) (hK : X.K = C.K)
    (hx : ∀ n Ca k, takes n = some k → C.mg n = some (.ref Ca) → PySem.W.exmOne C.K (.ref Ca) cv = some k)
    (hb : ∀ (W : WX) (G1 : Hp) (pn : List (Addr × Obj)) (xe : Value → Shared → Prop), Takes (X.tr pn xe) W → PassesOwn (model X.prog X.w) X.A X.env xe → PDs (X.tr pn xe) { C with W := W, G0 := G1 } body F)
    (hsu : ∀ (a dd : Addr) (oe : Obj) (cls : Value) (ev : Ev) (v : V) (d : D) (G1 : Hp) (pn : List (Addr × Obj)), Zc cls (some dd) oe → (∃ vs, oe.data = .fields vs) → C.mg ev.cls = some cls → ev.arg = some d → RD C.J.O C.K G1 v d → PD (X.suite a ((a, oe) :: pn)) (C.excD a dd (.xd [(excF ev.cls, v)]) G1) e' (h ev))
    (hj : X.N[j]? = some y := by rfl) (hy : Loc X.env.scope y := by first | exact Or.inl rfl | exact Or.inr rfl) (hsw : ∀ a pn, swapsWith e' (some (.Name y p3)) p2.line (X.suite a pn).env = pure false := by intro a pn; rfl) (hfn : X.fn y = true ∨ X.env.scope.names.lookup y = some .local := by first | exact .inl rfl | exact .inr rfl | assumption) :
    PD1 X C (.Try body [.ExceptHandler (some (.Name x np)) (some n) [.Assign [.Name y p3] e' p2] pos'] [] [] pos) (tryH i j takes F h) := by
  refine PStoD (ps_try_as hs hf hN hi hln hc tk (tb := fun (W : WX) (Dn : Ends) (σ : L2.St) (H : Hp) => ∃ G1, tS { C with W := W, G0 := G1 } F Dn σ H) (ts := tSuiteH C j h) (fun W pn xe tkw hp => ⟨fun pins s σ H D I ⟨G1, h⟩ => (hb W G1 pn xe tkw hp).run pins s σ H D I h⟩) fun a oe cls d pn hz hd => ⟨fun pins s σ H Dn I q => ?_⟩) (by rw [hK]; exact s_tryH hx)
  obtain ⟨ev, dd, v, d0, G1, hm, hna, rfl, rv, q⟩ := q
  exact (pss_one (ps_set (X := X.suite a ((a, oe) :: pn)) hN hj hy (hsu a dd oe cls ev v d0 G1 pn hz hd hm hna rv) (hsw a _) hfn)).run pins s σ H Dn I q
end
end Y
namespace Y
open PySem PySem.Spec PyProof.Rows L2
/-! ### O29: repr of values in which dicts of plain things may lie -/
mutual
/-- tuples and dicts of plain things, no lists -/
def okT : D → Bool
  | .list _ => false
  | .tuple ds => okTs ds
  | .dict ds => isDk (.dict ds) && flatK ds
  | _ => true
def okTs : List D → Bool
  | [] => true
  | d :: ds => okT d && okTs ds
end
def okL : D → Bool
  | .list ds => okTs ds
  | d => okT d
def okX (d : D) : Bool := !d.hasDict || okL d
section
variable {X : Cx} {pins : List (Addr × Obj)} {σ : L2.St} {H G : Hp} {s : Shared} {O : V → Int → Prop}
mutual
theorem RD.readsX (I : Inv X pins σ H s) (sub : ∀ a o, G a = some o → H a = some o) : ∀ {v : V} {d : D} {u : Value}, RD O X.K G v d → okT d = true → RelV v u → ∃ as, Reads s.heap u d as ∧ ∀ b ∈ as, (b == sysModules) = false
  | _, _, _, .non, _, r => by cases r; exact ⟨_, .none, by simp⟩
  | _, _, _, .bl b, _, r => by cases r; exact ⟨_, .bool b, by simp⟩
  | _, _, _, .int i, _, r => by obtain ⟨t, rfl⟩ := r; exact ⟨_, .int i t, by simp⟩
  | _, _, _, .str x, _, r => by obtain ⟨t, rfl⟩ := r; exact ⟨_, .str x t, by simp⟩
  | _, _, _, .lst e rs, h, r => by simp [okT] at h
  | _, _, _, .tup e rs, h, r => by
    cases r
    obtain ⟨its, rv, ⟨o, ho, hc, n, hd⟩, _⟩ := I.tuple (e.mono sub).T
    obtain ⟨as, hr, ha⟩ := RDs.readsX I sub rs (by simpa only [okT] using h) rv
    exact ⟨_, .tuple ho hc hd hr, ha⟩
  | _, _, _, .dct (ds := ds) e rk, h, r => by
    cases r
    have h : (isDk (.dict ds) && flatK ds) = true := by simpa only [okT] using h
    rw [Bool.and_eq_true] at h
    obtain ⟨hs, es, n, vs, ho, kv, ps⟩ := dk_raw I (sub _ _ e)
    obtain ⟨q1, q2⟩ := flat_reads (h := s.heap) rk h.2 kv ps
    refine ⟨_, .dict ho rfl rfl q1 q2, fun b hb => ?_⟩
    simp only [List.append_nil, List.mem_singleton] at hb
    rw [hb]; exact hs
  | _, _, _, .opq o, h, _ => by simp [hdl, okT, isDk] at h
  | _, _, _, .rng e, h, _ => by simp [rgD, okT, isDk] at h
theorem RDs.readsX (I : Inv X pins σ H s) (sub : ∀ a o, G a = some o → H a = some o) : ∀ {vs : List V} {ds : List D} {us : List Value}, RDs O X.K G vs ds → okTs ds = true → Vals vs us → ∃ as, ReadsAll s.heap us ds as ∧ ∀ b ∈ as, (b == sysModules) = false
  | _, _, _, .nil, _, r => by cases r; exact ⟨_, .nil, by simp⟩
  | _, _, _, .cons (d := d) (ds := ds) r1 rs, h, r => by
    cases r with
    | cons q1 q2 =>
      have h : (okT d && okTs ds) = true := by simpa only [okTs] using h
      rw [Bool.and_eq_true] at h
      obtain ⟨as, h1, a1⟩ := RD.readsX I sub r1 h.1 q1
      obtain ⟨bs, h2, a2⟩ := RDs.readsX I sub rs h.2 q2
      refine ⟨_, .cons h1 h2, fun b hb => ?_⟩
      rcases List.mem_append.mp hb with hb | hb
      · exact a1 b hb
      · exact a2 b hb
end
end
section
variable {prog : Program} {w : World} {h₀ : Heap} {a : Addr} {A : Around} {E : Value → Shared → Prop} {s : Shared}
/-- a list whose items may be dicts of plain things -/
theorem shows_list {o : Obj} {vs : Array Value} {n : Nat} {xs : List PyData} {as : List Addr} (h1 : h₀.get? a = some o) (h2 : o.cls = .type "list") (h3 : o.data = .seq vs n) (h4 : ReadsAll h₀ vs.toList xs as) (hs : PyData.showableAll xs = true) (hsm : sysModules ∉ as)
    (hsz : (PyData.list xs).shown.length ≤ sizeLine) : ShowsBy prog w h₀ a (.list xs) "list" "list.__repr__" := by
  have hz' : (listText (PyData.shownAll xs)).length ≤ sizeLine := by simpa only [PyData.shown] using hsz
  obtain ⟨bs, hb, hk⟩ := ReprAllK.of_readsAll (prog := prog) (w := w) h4 hs (fun _ => hsm) (fun t ht => Nat.le_trans (listText_mem_le ht) hz')
  have hna : a ∉ bs := not_mem_of_deeper (.list h1 h2 h3 h4) (by simp only [PyData.depth]; omega) hb
  refine ⟨F.slot_list_repr.toG, F.slot_list_str, F.slot_list_format, fun s hk0 => ⟨o, hk0 _ _ h1, h2⟩, fun A E s Q hg hu hk0 hQ => ?_⟩
  simp only [PyData.depth] at hu
  simp only [PyData.shown] at hQ
  obtain ⟨l⟩ := vs
  cases l with
  | nil =>
    have h4' : ReadsAll h₀ [] xs _ := h4
    cases h4'
    simp only [PyData.shownAll, listText_nil] at hQ
    exact call_list_repr_empty ⟨o, hk0 _ _ h1, h2⟩ (hk0 _ _ h1) h3 (hQ s.heap _ _ fun _ _ e => e)
  | cons x l =>
    exact call_list_reprK h1 h2 h3 hna (by simpa using hk.length_eq) (fun i y e => hk.item i y (by simpa using e)) hg (fun b _ => Clear.nil b) hu hk0 hQ hz'
theorem repr_of_list {Q : Value → Shared → Prop} {o : Obj} {vs : Array Value} {n : Nat} {xs : List PyData} {as : List Addr} (h1 : h₀.get? a = some o) (h2 : o.cls = .type "list") (h3 : o.data = .seq vs n) (h4 : ReadsAll h₀ vs.toList xs as) (hs : PyData.showableAll xs = true) (hsm : sysModules ∉ as) (hg : A.guards = some []) (hu : A.units + ((PyData.list xs).depth + 1) < cLine) (hk0 : ∀ b o, h₀.get? b = some o → s.heap.get? b = some o)
    (hQ : ∀ h' u tk, (∀ b o, s.heap.get? b = some o → h'.get? b = some o) → Q (.str (PyData.list xs).shown u) { s with heap := h', toks := tk })
    (hsz : (PyData.list xs).shown.length ≤ sizeLine) : wpAny (model prog w) A (call (.builtin "repr") [.ref a]) Q E s := by
  have S := shows_list (prog := prog) (w := w) h1 h2 h3 h4 hs hsm hsz
  exact call_repr_slot (by omega) (S.typeIs s hk0) S.slotRepr (S.call A.in1 E s _ hg (by show A.units + 1 + (PyData.list xs).depth < cLine; omega) hk0 fun h' u tk hk => ⟨_, _, rfl, hQ h' u tk hk⟩)
end
def rReprX (K : PySem.W.Frag) : List V → Hp → VK → Prop := fun xs H Q => rRepr K xs H Q ∨ ∃ (O : V → Int → Prop) (G : Hp) (v : V) (d : D), xs = [v] ∧ (∀ a o, G a = some o → H a = some o) ∧ RD O K G v d ∧ okL d = true ∧ d.showable = true ∧ d.depth ≤ 100 ∧ d.shown.length ≤ sizeLine ∧ Q (.str d.shown) H
section
variable {X : Cx} {C : Ct} {e : Expr} {es : List Expr} {fs : Rho → T (List D)} {pos : Pos}
theorem cr_reprX (hg : X.A.guards = some []) (hu : X.A.units + 200 < cLine) : CallR X (.builtin "repr") (rReprX X.K) := by
  intro pins s σ H xs us Q I r h
  rcases h with h | ⟨O, G, v, d, e, sub, hd, h2, h1, h3, h4, q⟩
  · exact cr_repr hg hu pins s σ H xs us Q I r h
  subst e
  obtain ⟨u, e, ru⟩ := vals1 r
  subst e
  have fin : ∀ (t : Tok) (tk : Nat), EP X pins σ Q (.str d.shown t) { s with toks := tk } := fun t tk => ⟨.str d.shown, H, I.tok tk, ⟨t, rfl⟩, q⟩
  have nsm : ∀ as : List Addr, (∀ b ∈ as, (b == sysModules) = false) → sysModules ∉ as := fun as ha hm => by
    have := ha _ hm
    simp at this
  cases hd with
  | non => cases ru; exact P.repr_of_none (fin _ _)
  | bl b => cases ru; exact P.repr_of_bool (fin _ _)
  | int i =>
    obtain ⟨t, rfl⟩ := ru
    exact P.repr_of_int (by simpa only [PyData.showable, decide_eq_true_eq] using h1) (fin _ _)
  | str x =>
    obtain ⟨t, rfl⟩ := ru
    exact P.repr_of_str (fin _ _) (by simpa only [PyData.shown] using h4)
  | lst e ra =>
    cases ru
    obtain ⟨its, rv, ⟨o, n, ho, hc, _, hd⟩, _⟩ := I.list (SqL.of (sub _ _ e))
    obtain ⟨as, hr, ha⟩ := RDs.readsX I sub ra h2 rv
    exact repr_of_list ho hc hd (show ReadsAll s.heap its.toArray.toList _ as from hr) (by simpa only [PyData.showable] using h1) (nsm as ha) hg (by omega) (fun _ _ e => e) (fun h' t tk k => ⟨.str _, H, I.kept k, ⟨t, rfl⟩, q⟩) h4
  | tup e ra =>
    obtain ⟨as, rr, ha⟩ := RD.readsX I sub (.tup e ra) h2 ru
    cases ru
    exact repr_of_reads' rr h1 (fun _ => nsm as ha) hg (by omega) (fun _ _ e => e) (fun h' t tk k => ⟨.str _, H, I.kept k, ⟨t, rfl⟩, q⟩) h4
  | dct e ra =>
    obtain ⟨as, rr, ha⟩ := RD.readsX I sub (.dct e ra) h2 ru
    cases ru
    exact repr_of_reads' rr h1 (fun _ => nsm as ha) hg (by omega) (fun _ _ e => e) (fun h' t tk k => ⟨.str _, H, I.kept k, ⟨t, rfl⟩, q⟩) h4
  | opq o => simp [hdl, okL, okT, isDk] at h2
  | rng e => simp [rgD, okL, okT, isDk] at h2
def reprX1 (d : D) : T D := ask (okX d = true ∧ d.showable = true ∧ d.depth ≤ 100 ∧ d.shown.length ≤ sizeLine) (.ret (.str d.shown))
theorem c_reprX : CallD C (rReprX C.K) (only reprX1) := by
  refine one_arg reprX1 (fun _ => rfl) rfl (fun _ _ _ => rfl) fun σ G H ρ b v d Q R rv q => ?_
  obtain ⟨⟨h1, h2, h3, h4⟩, q⟩ := Go.ask q
  unfold okX at h1
  cases hd : d.hasDict with
  | false => exact .inl ⟨v, d, rfl, dp_mono R.sub (dpn_of rv hd), h2, hd, h3, h4, q.retv R (.str _)⟩
  | true =>
    rw [hd] at h1
    exact .inr ⟨_, G, v, d, rfl, R.sub, rv, h1, h2, h3, h4, q.retv R (.str _)⟩
theorem pd_reprX {p : Pos} (hgu : X.A.guards = some []) (hu : X.A.units + 200 < cLine) (hg : Gl X "repr") (hm : X.mg "repr" = none) (ha : PDa X C (e :: es) fs) (hK : X.K = C.K := by rfl) (he : starEach (e :: es) X.env = (false, eval e X.env) :: starEach es X.env := by rfl) (hpl : (backTo pos (starEach es X.env)).any (·.1) = false := by rfl) :
    PD X C (.Call (.Name "repr" p) (e :: es) [] pos) (fun ρ => (fs ρ).bind (only reprX1)) := pd_cb (cr_reprX hgu hu) (by rw [hK]; exact c_reprX) hg hm (by decide +kernel) ha (by decide) (by decide) he hpl
end
/-- what may be shown: of n signs at most, k deep at most; dicts of plain things may lie in it, where no list lies -/
structure Rx (n k : Nat) (d : D) : Prop where
  sh : d.showable = true
  ok : d.hasDict = false ∨ okT d = true
  dp : d.depth ≤ k
  gd : Gd n d.shown
theorem Rx.mono {m n j k : Nat} {d : D} (h : Rx m j d) (l : m ≤ n) (lk : j ≤ k) : Rx n k d := ⟨h.sh, h.ok, Nat.le_trans h.dp lk, h.gd.mono l⟩
theorem okL_T : ∀ {d : D}, okT d = true → okL d = true
  | .none, _ => rfl
  | .bool _, _ => rfl
  | .int _, _ => rfl
  | .str _, _ => rfl
  | .list ds, h => by simp [okT] at h
  | .tuple ds, h => h
  | .dict ds, h => h
theorem reprX_of {n k : Nat} {d : D} (ok : okX d = true) (sh : d.showable = true) (dp : d.depth ≤ k) (gd : Gd n d.shown) (hn : n ≤ 16000000) (hk : k ≤ 100) : reprX1 d = .ret (.str d.shown) := ask_t ⟨ok, sh, Nat.le_trans dp hk, Nat.le_trans gd.1 (Nat.le_trans hn (by rw [sizeLine_eq]; decide))⟩
theorem Rx.x {n k : Nat} {d : D} (h : Rx n k d) : okX d = true := by
  unfold okX
  rcases h.ok with q | q
  · rw [q]; rfl
  · rw [okL_T q, Bool.or_true]
theorem Rx.repr {n k : Nat} {d : D} (h : Rx n k d) (hn : n ≤ 16000000) (hk : k ≤ 100) : reprX1 d = .ret (.str d.shown) := reprX_of h.x h.sh h.dp h.gd hn hk
theorem Rp.x {n k : Nat} {d : D} (h : Rp n k d) : Rx n k d := ⟨h.sh, .inl h.nd, h.dp, h.gd⟩
theorem rx_all {n k : Nat} : ∀ {ds : List D}, (∀ d ∈ ds, Rx n k d) → PyData.showableAll ds = true ∧ PyData.depthAll ds ≤ k
  | [], _ => ⟨rfl, Nat.zero_le _⟩
  | d :: ds, h => by
    obtain ⟨h1, h3⟩ := rx_all (ds := ds) fun e he => h e (List.mem_cons_of_mem _ he)
    have hd := h d List.mem_cons_self
    have := hd.dp
    exact ⟨by simp only [PyData.showableAll, h1, hd.sh]; rfl, by simp only [PyData.depthAll]; omega⟩
theorem rx_tup {n k : Nat} {ds : List D} (h : ∀ d ∈ ds, Rx n k d) (ok : PyData.hasDictAll ds = false ∨ okTs ds = true) : Rx (3 + ds.length * (n + 2)) (k + 1) (.tuple ds) := by
  obtain ⟨h1, h3⟩ := rx_all h
  refine ⟨by simp only [PyData.showable]; exact h1, ?_, by simp only [PyData.depth]; omega, gd_shown_tuple fun d hd => (h d hd).gd⟩
  rcases ok with q | q
  · left; simp only [PyData.hasDict]; exact q
  · right; simp only [okT]; exact q
/-- two things in a list, the second odd -/
theorem rx_pair {n k : Nat} {a d : D} (ha : Rp n k a) (ta : okT a = true) (hd : Rx n k d) (hn : 3 + 2 * (n + 2) ≤ 16000000) (hk : k + 1 ≤ 100) : reprX1 (.list [a, d]) = .ret (.str (PyData.list [a, d]).shown) ∧ PyData.strOk (PyData.list [a, d]).shown = true := by
  have h : ∀ x ∈ [a, d], Rx n k x := fun x hx => by
    rcases List.mem_cons.mp hx with rfl | hx
    · exact ha.x
    · rw [List.mem_singleton.mp hx]; exact hd
  obtain ⟨h1, h3⟩ := rx_all h
  have gd : Gd (3 + 2 * (n + 2)) (PyData.list [a, d]).shown := (gd_shown_list fun d hd => (h d hd).gd).mono (by simp)
  refine ⟨reprX_of (k := k + 1) ?_ (by simp only [PyData.showable]; exact h1) (by simp only [PyData.depth]; omega) gd hn hk, gd.2⟩
  unfold okX
  rcases hd.ok with q | q
  · have : (PyData.list [a, d]).hasDict = false := by simp [PyData.hasDict, PyData.hasDictAll, ha.nd, q]
    rw [this]; rfl
  · have : okL (.list [a, d]) = true := by simp [okL, okTs, ta, q]
    rw [this, Bool.or_true]
theorem rx_e : Rx 2 1 (.dict []) := ⟨by decide +kernel, .inr rfl, by decide +kernel, ⟨by decide +kernel, by decide +kernel⟩⟩
end Y
namespace Y
open PySem PySem.Spec PyProof.Rows L2
section
variable {X : Cx} {C : Ct} {σ : L2.St} {G H G' H' : Hp} {ρ : Rho} {b c : Nat} {e a : Expr} {es : List Expr} {pos : Pos} {f g : Rho → T D} {fs gs : Rho → T (List D)}
/-! ### O30: a list some times, as a list of ours; how often one of a list of ours is there -/
def repLT : D → D → T (List D)
  | .list xs, .int k => ask (0 ≤ k ∧ k < 1000 ∧ xs.length ≤ 1000) (.ret (List.replicate k.toNat xs).flatten)
  | _, _ => .bad
def repL (f g : Rho → T D) (ρ : Rho) : T (List D) := (f ρ).bind fun x => (g ρ).bind fun y => repLT x y
theorem t_repL : ∀ σ H Q, tL C (repL f g) σ H Q → tOp rRep (tD C f) (tD C g) σ H Q := by
  rintro σ H Q ⟨G, ρ, b, R, h⟩
  refine ⟨G, ρ, b, R, (Go.bind R h).mono fun d G1 H1 c P j z v rv => ?_⟩
  obtain ⟨R1, z⟩ := z
  refine ⟨G1, ρ, c, R1, (Go.bind R1 z).mono fun e G2 H2 c2 P2 j2 z2 w rw => ?_⟩
  have z := z2.2.mono fun _ _ _ _ _ _ q => q.2.2
  have R2 := z2.1
  have rv := rv.mono P2.gg
  have back : ∀ l, H2 l = none → H l = none := fun l n => by
    cases q : H l with
    | none => rfl
    | some o => exact absurd n (P2.th l (P.th l (by rw [q]; simp)))
  cases rv with
  | lst ea ra =>
    cases rw with
    | int k =>
      obtain ⟨⟨h0, h1, h2⟩, z⟩ := Go.ask z
      refine ⟨_, k, _, rfl, rfl, R2.sub _ _ ea, by omega, by omega, ?_, fun p n => Go.newO z R2 n (back p n) (rds_rep ra _)⟩
      rw [ra.len]
      exact Nat.le_trans (Nat.mul_le_mul h2 (by omega : k.toNat ≤ 1000)) (by rw [sizeLine_eq]; decide)
    | _ => exact z.bad.elim
  | _ => cases rw <;> exact z.bad.elim
theorem pdL_rep (ha : PD X C a f) (hb : PD X C e g) : PDL X C (.BinOp a .Mult e pos) (repL f g) := PEto (pe_op op_rep ha hb) t_repL
end
end Y
namespace Y
open PySem PySem.Spec PyProof.Rows L2
section
variable {X : Cx} {C : Ct} {σ : L2.St} {G H G' H' : Hp} {ρ : Rho} {b c : Nat} {e a : Expr} {es : List Expr} {pos : Pos} {f g : Rho → T D} {fs gs : Rho → T (List D)}
/-! ### O31: text[lo:hi]; text * number -/
def pySlS : D → Option Int → Option Int → T D
  | .str z, lo, hi => ask (z.length ≤ sizeLine) (.ret (.str (cutS z lo hi)))
  | _, _, _ => .bad
theorem d_sliceS {l u : Rho → T (Option Int)} : ∀ σ H Q, tD C (fun ρ => (f ρ).bind fun x => (l ρ).bind fun lo => (u ρ).bind fun hi => pySlS x lo hi) σ H Q → tSl rSlS (tD C f) (tO C l) (tO C u) σ H Q := by
  rintro σ H Q ⟨G, ρ, b, R, h⟩
  refine ⟨G, ρ, b, R, (Go.bind R h).mono fun d G1 H1 c P j z v rv => ?_⟩
  obtain ⟨R1, z⟩ := z
  refine ⟨G1, ρ, c, R1, (Go.bind R1 z).mono fun lo G2 H2 c2 P2 j2 z2 => ?_⟩
  obtain ⟨R2, z2⟩ := z2
  refine ⟨G2, ρ, c2, R2, (Go.bind R2 z2).mono fun hi G3 H3 c3 P3 j3 z3 => ?_⟩
  obtain ⟨R3, z3⟩ := z3
  have rv := (rv.mono P2.gg).mono P3.gg
  have z3 := z3.mono (Q' := fun d G' H' _ => ∀ v, RD C.J.O C.K G' v d → Q v H') fun _ _ _ _ _ _ q => q.2.2.2
  cases rv with
  | str x =>
    obtain ⟨hz, z3⟩ := Go.ask z3
    exact ⟨x, rfl, hz, z3.retv R3 (.str _)⟩
  | _ => exact z3.bad.elim
theorem pd_slS {lo hi : Option Expr} {l u : Rho → T (Option Int)} {p2 : Pos} (ha : PD X C a f) (hl : PO X lo (tO C l)) (hu : PO X hi (tO C u)) : PD X C (.Subscript a (.Slice lo hi none p2) pos) (fun ρ => (f ρ).bind fun x => (l ρ).bind fun lo => (u ρ).bind fun hi => pySlS x lo hi) :=
  PEto (pe_slice sl_str ha hl hu) d_sliceS
def repS (n : Nat) (x : Str) : Str := ⟨(List.replicate n x.cps).foldl (· ++ ·) #[]⟩
def rMulS : R2 := fun x y H Q => ∃ z n, x = .str z ∧ y = .int n ∧ 2 ≤ n ∧ n < 100000 ∧ z.length ≠ 0 ∧ z.length * n.toNat ≤ 100000 ∧ Q (.str (repS n.toNat z)) H
theorem op_mulS : OpR X (binaryOp .Mult) rMulS := by
  intro pins s σ H x y v u Q I rx ry h
  obtain ⟨z, n, rfl, rfl, h1, h2, h3, h4, q⟩ := h
  obtain ⟨t, rfl⟩ := rx
  obtain ⟨t2, rfl⟩ := ry
  have e1 : decide (n < -(2 ^ 63 : Int)) = false := decide_eq_false (by omega)
  have e2 : decide (n ≥ 2 ^ 63) = false := decide_eq_false (by omega)
  have hn : ((z.length * n.toNat : Nat) : Int) = (z.length : Int) * n := by
    rw [Int.natCast_mul, Int.toNat_of_nonneg (by omega)]
  refine P.mul_str (by rw [e1, e2]; rfl) (fun _ _ => ?_) (fun _ _ => ?_) ?_
  · have : (z.length : Int) ≤ (2 ^ 63 - 1) / n := Int.le_ediv_of_mul_le (by omega) (by omega)
    omega
  · unfold Builtin.Str.tooLong
    exact decide_eq_false (by
      have : sizeLine = sizeLine := rfl
      rw [sizeLine_eq] at *
      omega)
  · rw [if_neg (by omega), if_neg (by simp; exact ⟨by omega, by intro q; exact h3 q⟩)]
    exact ⟨by
      have : (repS n.toNat z).length ≤ sizeLine := by
        show (List.foldl (· ++ ·) #[] (List.replicate n.toNat z.cps)).size ≤ sizeLine
        have hz : ∀ (k : Nat) (acc : Array Nat), (List.foldl (· ++ ·) acc (List.replicate k z.cps)).size = acc.size + z.length * k := by
          intro k
          induction k with
          | zero => intro acc; simp
          | succ k ih =>
            intro acc
            rw [List.replicate_succ, List.foldl_cons, ih, Array.size_append]
            have : z.cps.size = z.length := rfl
            rw [this, Nat.mul_succ]
            omega
        rw [hz]
        rw [sizeLine_eq]
        simp
        omega
      exact this, .str _, H, I.tok _, ⟨_, rfl⟩, q⟩
def pyMulS : D → D → T D
  | .str z, .int n => ask (2 ≤ n ∧ n < 100000 ∧ z.length ≠ 0 ∧ z.length * n.toNat ≤ 100000) (.ret (.str (repS n.toNat z)))
  | _, _ => .bad
theorem o_mulS : Op2 C rMulS pyMulS := by
  intro σ G H ρ b x y d e Q R rx ry h
  cases rx with
  | str z =>
    cases ry with
    | int n =>
      obtain ⟨⟨h1, h2, h3, h4⟩, h⟩ := Go.ask h
      exact ⟨z, n, rfl, rfl, h1, h2, h3, h4, h.retv R (.str _)⟩
    | _ => exact h.bad.elim
  | _ => cases ry <;> exact h.bad.elim
theorem pd_mulS (ha : PD X C a f) (hb : PD X C e g) : PD X C (.BinOp a .Mult e pos) (op2 pyMulS f g) := PEto (pe_op op_mulS ha hb) (d_op o_mulS)
end
end Y
namespace Zk27
open PySem PySem.Spec PyProof.Rows L2 Y
abbrev tops (i : Nat) : Stmt := PySem.Challenge.pw_leftasleep_k27_whole_spoilt_texts_of_run.main.body.getD i (.Pass ⟨0, 0, 0, 0⟩)
def K_MAX_HANDS : D := .int 5
def K_MAX_MOVES : D := .int 400
def K_MOVE_WORDS : D := .tuple [.str "on", .str "away", .str "call"]
abbrev si_BadText : Stmt := clsDef (tops 4) 0
theorem sci_BadText : FnScope ["self", "place"] ["self", "place"] (defScope si_BadText) := ⟨rfl, rfl, rfl, by decide +kernel, rfl, by decide +kernel, by decide +kernel⟩
theorem init_BadText {P : Program} {w : World} {K : PySem.W.Frag} {mg : Str → Option Value} {base : Heap} {f : Addr} {fd : FuncData} (F : Fun K "__init__" "BadText.__init__" si_BadText f fd) : FnOk P w K mg base CX0 1 f fd ["self", "place"] (spInit K "place") :=
  F.ok sci_BadText (fun vs H Q E h => by obtain ⟨_, _, _, rfl, _⟩ := h; rfl) fun cdv A outer s H vs Q E hr h => ⟨_, pss_one (ps_ost (pv 0) (pv 1)), init_read h⟩
/-! is_within -/
abbrev s_is_within : Stmt := tops 6
theorem sc_is_within : FnScope ["value", "least", "most"] ["value", "least", "most"] (defScope s_is_within) := ⟨rfl, rfl, rfl, by decide +kernel, rfl, by decide +kernel, by decide +kernel⟩
def D_is_within : Rho → T Out :=
    (retS (andD (op1 (isi1 "int") (gv 0)) (andD (notD (op1 (isi1 "bool") (gv 0))) (chainD pyLe pyLe (gv 1) (gv 0) (gv 2)))))
def F_is_within : List D → T D := run 3 (D_is_within)
theorem ok_is_within {P : Program} {w : World} {J : Jr} {K : PySem.W.Frag} {mg : Str → Option Value} {base : Heap} {f : Addr} {fd : FuncData} (z_isinstance : mg "isinstance" = none) (z_int : mg "int" = none) (z_bool : mg "bool" = none) (F : Fun K "is_within" "is_within" s_is_within f fd) : FnD P w J K mg base 1 f fd ["value", "least", "most"] (F_is_within) :=
  fnD_of F sc_is_within (D_is_within) fun G cdv A l s H E hr hg tk =>
    (pds_one (pd1_ret (pd_and (pd_isi (ty := "int") kit_int (by rfl) z_isinstance (by rfl) z_int (by decide +kernel) (pd_var 0)) (pd_and (pd_not (pd_isi (ty := "bool") kit_bool (by rfl) z_isinstance (by rfl) z_bool (by decide +kernel) (pd_var 0))) (pd_one (pd_chainLeLe (pd_var 1) (pd_var 0) (pd_var 2)))))))
/-! _law_pot -/
abbrev s__law_pot : Stmt := tops 14
theorem sc__law_pot : FnScope ["script", "stirred", "cell"] ["script"] (defScope s__law_pot) := ⟨rfl, rfl, rfl, by decide +kernel, rfl, by decide +kernel, by decide +kernel⟩
def B__law_pot_1 (ns : List Int) : Rho → T Out :=
    (asgS 1 (op2 pyMod (fun ρ => ((consT (op2 pyAdd (op2 pyAdd (op2 pyMul (gv 1) (cD (.int 69621))) (op2 pyMul (cD (.int 13)) (gv 2))) (cD (.int 5))) nilA) ρ).bind (only int1)) (cD (.int 2147483629))))
def E__law_pot_2 (ns : List Int) : Rho → T D := (fun ρ => ((consT (gv 2) nilA) ρ).bind (only abs1))
def C__law_pot_2 (ns : List Int) : Rho → T Bool := (opT pyGt (fun ρ => ((consT (gv 2) nilA) ρ).bind (only abs1)) (op2 pyPow (cD (.int 10)) (cD (.int 12))))
def D__law_pot (ns : List Int) : Rho → T Out :=
    (seqS (asgS 1 (op2 pyAdd (cD (.int 15782)) (op2 pyMul (cD (.int 61)) (fun ρ => ((consT (fun ρ => ((gv 0) ρ).bind fun x => (noP ρ).bind fun lo => ((fun ρ => ((cD (.int 60)) ρ).bind asInt) ρ).bind fun hi => (scrSl ns) x lo hi) nilA) ρ).bind (only len1)))))
    (seqS (forD (fun ρ => ((fun ρ => ((gv 0) ρ).bind fun x => (noP ρ).bind fun lo => ((fun ρ => ((cD (.int 60)) ρ).bind asInt) ρ).bind fun hi => (scrSl ns) x lo hi) ρ).bind seqOf) (toSlot 2) (B__law_pot_1 ns))
    (retS (dispD ((.inr "far", (op1 pyRevL (asData (lcD [2] (fun ρ => ((fun ρ => ((gv 0) ρ).bind fun x => (noP ρ).bind fun lo => ((fun ρ => ((cD (.int 60)) ρ).bind asInt) ρ).bind fun hi => (scrSl ns) x lo hi) ρ).bind seqOf) (toSlot 2) (C__law_pot_2 ns) (E__law_pot_2 ns))))) :: (.inr "stirred", (gv 1)) :: (.inr "turn", (cD (.int 0))) :: [])))))
def F__law_pot (ns : List Int) : List D → T D := run 3 (D__law_pot ns)
theorem ok__law_pot {P : Program} {w : World} {K : PySem.W.Frag} {mg : Str → Option Value} {base : Heap} {f : Addr} {fd : FuncData} {sa : Addr} {ns : List Int} {zz : Prop} (z_len : mg "len" = none) (z_int : mg "int" = none) (z_abs : mg "abs" = none) (F : Fun K "_law_pot" "_law_pot" s__law_pot f fd) : FnD P w (scrJ K sa ns zz) K mg base 1 f fd ["script"] (F__law_pot ns) :=
  fnD_of F sc__law_pot (D__law_pot ns) fun G cdv A l s H E hr hg tk =>
    (pds_cons (pd1_set 1 (pd_add pd_int (pd_mul pd_int (pd_len (by rfl) z_len (pda_cons (pd_scrSl rfl (pd_var 0) pdo_none (pdo_some pd_int)) pda_nil)))) sc__law_pot.nd)
    (pds_cons (pd1_for (passes_of rfl) rfl (pdi_seq (us := [2]) (pd_scrSl rfl (pd_var 0) pdo_none (pdo_some pd_int))) (pdg_name 2 sc__law_pot.nd) (pds_one (pd1_set 1 (pd_mod (pd_intf (by rfl) z_int (pda_cons (pd_add (pd_add (pd_mul (pd_var 1) pd_int) (pd_mul pd_int (pd_var 2))) pd_int) pda_nil)) pd_int) sc__law_pot.nd)))
    (pds_one (pd1_ret (pd_disp (js := [.inr "far", .inr "stirred", .inr "turn"]) (pdp_str (pd_rev (pd_L (pdL_lc (own := [("cell", 2)]) rfl sc__law_pot.nd (pdi_seq (us := [2]) (pd_scrSl rfl (pd_var 0) pdo_none (pdo_some pd_int))) (blkOk_by (by rfl)) (fun s1 H9 D1 l1 p1 => (pdg_name 2 sc__law_pot.nd)) (fun s1 H9 D1 l1 p1 => (PTsto (pts_one (pt_gt (pd_abs (by rfl) z_abs (pda_cons (pd_var 2) pda_nil)) (pd_pow pd_int pd_int))) (fun _ _ _ q => q))) (fun s1 H9 D1 l1 p1 => (pd_abs (by rfl) z_abs (pda_cons (pd_var 2) pda_nil)))))) (pdp_str (pd_var 1) (pdp_str pd_int pdp_nil))))))))
/-! _law_draw -/
abbrev s__law_draw : Stmt := tops 15
theorem sc__law_draw : FnScope ["pot", "many", "one", "whole"] ["pot", "many"] (defScope s__law_draw) := ⟨rfl, rfl, rfl, by decide +kernel, rfl, by decide +kernel, by decide +kernel⟩
def F__law_draw : List D → T D := drawF
/-! _law_move_of -/
abbrev s__law_move_of : Stmt := tops 17
theorem sc__law_move_of : FnScope ["text", "pieces", "called", "own", "spot"] ["text"] (defScope s__law_move_of) := ⟨rfl, rfl, rfl, by decide +kernel, rfl, by decide +kernel, by decide +kernel⟩
def E__law_move_of_1 : Rho → T D := (gv 3)
def C__law_move_of_1 : Rho → T Bool := (opT (inD true) (gv 3) (tupD (consT (cD (.str "0")) (consT (cD (.str "1")) (consT (cD (.str "2")) (consT (cD (.str "3")) (consT (cD (.str "4")) nilA)))))))
def E__law_move_of_2 : Rho → T D := (gv 4)
def C__law_move_of_2 : Rho → T Bool := (opT (inD false) (gv 3) (fun ρ => ((gv 2) ρ).bind fun x => (noP ρ).bind fun lo => ((fun ρ => ((gv 4) ρ).bind asInt) ρ).bind fun hi => pySl x lo hi))
def E__law_move_of_3 : Rho → T D := (fun ρ => ((consT (gv 3) nilA) ρ).bind (only int2))
def D__law_move_of : Rho → T Out :=
    (seqS (asgS 1 (mOp isStr splitD (gv 0) (cD (.str " "))))
    (seqS (ifS (orT (opT pyLt (fun ρ => ((consT (gv 1) nilA) ρ).bind (only len1)) (cD (.int 2))) (orT (opT (inD true) (op2 pyIx (gv 1) (cD (.int 0))) (tupD (consT (cD (.str "0")) (consT (cD (.str "1")) (consT (cD (.str "2")) (consT (cD (.str "3")) (consT (cD (.str "4")) nilA))))))) (opT (inD true) (op2 pyIx (gv 1) (cD (.int 1))) (tupD (consT (cD (.str "on")) (consT (cD (.str "away")) (consT (cD (.str "call")) nilA))))))) (retS (cD (.none))) skipS)
    (seqS (asgS 2 (fun ρ => ((gv 1) ρ).bind fun x => ((fun ρ => ((cD (.int 2)) ρ).bind asInt) ρ).bind fun lo => (noP ρ).bind fun hi => pySl x lo hi))
    (seqS (ifS (orT (andT (opT pyNe (gv 2) (lstD nilA)) (opT pyNe (op2 pyIx (gv 1) (cD (.int 1))) (cD (.str "call")))) (opT pyNe (asData (lcD [3] (fun ρ => ((gv 2) ρ).bind seqOf) (toSlot 3) (C__law_move_of_1) (E__law_move_of_1))) (lstD nilA))) (retS (cD (.none))) skipS)
    (seqS (ifS (opT pyNe (asData (lcD [4, 3] (fun ρ => ((gv 2) ρ).bind enumT) (fun p => (toCons (toSlot 4) (toCons (toSlot 3) toNil)) [p.1, p.2]) (C__law_move_of_2) (E__law_move_of_2))) (lstD nilA)) (retS (cD (.none))) skipS)
    (retS (op2 pyAdd (tupD (consT (fun ρ => ((consT (op2 pyIx (gv 1) (cD (.int 0))) nilA) ρ).bind (only int2)) (consT (op2 pyIx (gv 1) (cD (.int 1))) nilA))) (fun ρ => ((consT (asData (lcD [3] (fun ρ => ((gv 2) ρ).bind seqOf) (toSlot 3) yesT (E__law_move_of_3))) nilA) ρ).bind (only tup1)))))))))
def F__law_move_of : List D → T D := run 5 (D__law_move_of)
theorem ok__law_move_of {P : Program} {w : World} {J : Jr} {K : PySem.W.Frag} {mg : Str → Option Value} {base : Heap} {f : Addr} {fd : FuncData} (z_len : mg "len" = none) (z_enumerate : mg "enumerate" = none) (z_int : mg "int" = none) (z_tuple : mg "tuple" = none) (F : Fun K "_law_move_of" "_law_move_of" s__law_move_of f fd) : FnD P w J K mg base 1 f fd ["text"] (F__law_move_of) :=
  fnD_of F sc__law_move_of (D__law_move_of) fun G cdv A l s H E hr hg tk =>
    (pds_cons (pd1_set 1 (pd_split (pd_var 0) pd_str) sc__law_move_of.nd)
    (pds_cons (pd1_if (PW.pt (pt_or2 (pt_lt (pd_len (by rfl) z_len (pda_cons (pd_var 1) pda_nil)) pd_int) (pt_or2 (pt_notIn (by exact room65 hr) (pd_ix (pd_var 1) pd_int) (pd_tup (pda_cons pd_str (pda_cons pd_str (pda_cons pd_str (pda_cons pd_str (pda_cons pd_str pda_nil))))))) (pw_or1 (pt_notIn (by exact room65 hr) (pd_ix (pd_var 1) pd_int) (pd_tup (pda_cons pd_str (pda_cons pd_str (pda_cons pd_str pda_nil))))))))) (pds_one (pd1_ret pd_non)) pds_nil)
    (pds_cons (pd1_set 2 (pd_sl (pd_var 1) (pdo_some pd_int) pdo_none) sc__law_move_of.nd)
    (pds_cons (pd1_if (PW.pt (pt_or2 (PW.pt (pt_and2 (pt_ne (by exact room64 hr) (pd_var 2) (pd_lst pda_nil)) (pw_and1 (pt_ne (by exact room64 hr) (pd_ix (pd_var 1) pd_int) pd_str)))) (pw_or1 (pt_ne (by exact room64 hr) (pd_L (pdL_lc (own := [("own", 3)]) rfl sc__law_move_of.nd (pdi_seq (us := [3]) (pd_var 2)) (blkOk_by (by rfl)) (fun s1 H9 D1 l1 p1 => (pdg_name 3 sc__law_move_of.nd)) (fun s1 H9 D1 l1 p1 => (PTsto (pts_one (pt_notIn (by exact room65 hr) (pd_var 3) (pd_tup (pda_cons pd_str (pda_cons pd_str (pda_cons pd_str (pda_cons pd_str (pda_cons pd_str pda_nil)))))))) (fun _ _ _ q => q))) (fun s1 H9 D1 l1 p1 => (pd_var 3)))) (pd_lst pda_nil))))) (pds_one (pd1_ret pd_non)) pds_nil)
    (pds_cons (pd1_if (pt_ne (by exact room64 hr) (pd_L (pdL_lc (own := [("spot", 4), ("own", 3)]) rfl sc__law_move_of.nd (pdi_enumB (us := [4, 3]) (pd_var 2) (by rfl) z_enumerate) (blkOk_by (by rfl)) (fun s1 H9 D1 l1 p1 => (pg_zipW rfl (pdgs_cons (pdg_name 4 sc__law_move_of.nd) (pdgs_cons (pdg_name 3 sc__law_move_of.nd) pdgs_nil)))) (fun s1 H9 D1 l1 p1 => (PTsto (pts_one (pt_in (by exact room65 hr) (pd_var 3) (pd_sl (pd_var 2) pdo_none (pdo_some (pd_var 4))))) (fun _ _ _ q => q))) (fun s1 H9 D1 l1 p1 => (pd_var 4)))) (pd_lst pda_nil)) (pds_one (pd1_ret pd_non)) pds_nil)
    (pds_one (pd1_ret (pd_add (pd_tup (pda_cons (pd_intf2 (by rfl) z_int (pda_cons (pd_ix (pd_var 1) pd_int) pda_nil)) (pda_cons (pd_ix (pd_var 1) pd_int) pda_nil))) (pd_tuple (by rfl) z_tuple (pda_cons (pd_L (pdL_lc (own := [("own", 3)]) rfl sc__law_move_of.nd (pdi_seq (us := [3]) (pd_var 2)) (blkOk_by (by rfl)) (fun s1 H9 D1 l1 p1 => (pdg_name 3 sc__law_move_of.nd)) (fun s1 H9 D1 l1 p1 => pts_nil') (fun s1 H9 D1 l1 p1 => (pd_intf2 (by rfl) z_int (pda_cons (pd_var 3) pda_nil))))) pda_nil))))))))))
/-! is_formed -/
abbrev s_is_formed : Stmt := tops 9
theorem sc_is_formed : FnScope ["value", "many", "called", "hand"] ["value", "many"] (defScope s_is_formed) := ⟨rfl, rfl, rfl, by decide +kernel, rfl, by decide +kernel, by decide +kernel⟩
def E_is_formed_1 : Rho → T D := (callD 3 F_is_within (consT (gv 3) (consT (cD (.int 0)) (consT (op2 pySub (gv 1) (cD (.int 1))) nilA))))
def D_is_formed : Rho → T Out :=
    (seqS (ifS (orT (notT (fun ρ => ((op1 (isi1 "tuple") (gv 0)) ρ).bind truth)) (orT (opT pyLt (fun ρ => ((consT (gv 0) nilA) ρ).bind (only len1)) (cD (.int 2))) (opT (inD true) (op2 pyIx (gv 0) (cD (.int 1))) (cD K_MOVE_WORDS)))) (retS (cD (.bool false))) skipS)
    (seqS (asgS 2 (fun ρ => ((gv 0) ρ).bind fun x => ((fun ρ => ((cD (.int 2)) ρ).bind asInt) ρ).bind fun lo => (noP ρ).bind fun hi => pySl x lo hi))
    (seqS (ifS (notT (fun ρ => ((fun ρ => ((consT (asData (lcD [3] (fun ρ => ((op2 pyAdd (fun ρ => ((gv 0) ρ).bind fun x => (noP ρ).bind fun lo => ((fun ρ => ((cD (.int 1)) ρ).bind asInt) ρ).bind fun hi => pySl x lo hi) (gv 2)) ρ).bind seqOf) (toSlot 3) yesT (E_is_formed_1))) nilA) ρ).bind (only allD)) ρ).bind truth)) (retS (cD (.bool false))) skipS)
    (seqS (ifS (opT pyNe (op2 pyIx (gv 0) (cD (.int 1))) (cD (.str "call"))) (retS (op2 pyEq (gv 2) (tupD nilA))) skipS)
    (retS (op2 pyEq (fun ρ => ((gv 2) ρ).bind lenSet1) (fun ρ => ((consT (gv 2) nilA) ρ).bind (only len1))))))))
def F_is_formed : List D → T D := run 4 (D_is_formed)
theorem ok_is_formed {P : Program} {w : World} {J : Jr} {K : PySem.W.Frag} {mg : Str → Option Value} {base : Heap} {f : Addr} {fd : FuncData} {u_MOVE_WORDS : Value} {f_is_within : Addr} {fd_is_within : FuncData} (z_isinstance : mg "isinstance" = none) (z_tuple : mg "tuple" = none) (z_len : mg "len" = none) (v_MOVE_WORDS : mg "MOVE_WORDS" = some u_MOVE_WORDS ∧ kD K K_MOVE_WORDS u_MOVE_WORDS = true) (c_is_within : Cal P w J K mg base 1 "is_within" s_is_within ["value", "least", "most"] F_is_within f_is_within fd_is_within) (z_all : mg "all" = none) (z_set : mg "set" = none) (F : Fun K "is_formed" "is_formed" s_is_formed f fd) : FnD P w J K mg base 2 f fd ["value", "many"] (F_is_formed) :=
  fnD_of F sc_is_formed (D_is_formed) fun G cdv A l s H E hr hg tk =>
    (pds_cons (pd1_if (PW.pt (pt_or2 (ptd_not (ptd_truth (pd_isi (ty := "tuple") kit_tuple (by rfl) z_isinstance (by rfl) z_tuple (by decide +kernel) (pd_var 0)))) (pt_or2 (pt_lt (pd_len (by rfl) z_len (pda_cons (pd_var 0) pda_nil)) pd_int) (pw_or1 (pt_notIn (by exact room65 hr) (pd_ix (pd_var 0) pd_int) (pd_const (by rfl) v_MOVE_WORDS.1 v_MOVE_WORDS.2)))))) (pds_one (pd1_ret pd_bl)) pds_nil)
    (pds_cons (pd1_set 2 (pd_sl (pd_var 0) (pdo_some pd_int) pdo_none) sc_is_formed.nd)
    (pds_cons (pd1_if (ptd_not (ptd_truth (pd_all rfl (by rfl) z_all (pda_cons (pd_L (pdL_lc (own := [("hand", 3)]) rfl sc_is_formed.nd (pdi_seq (us := [3]) (pd_add (pd_sl (pd_var 0) pdo_none (pdo_some pd_int)) (pd_var 2))) (blkOk_by (by rfl)) (fun s1 H9 D1 l1 p1 => (pdg_name 3 sc_is_formed.nd)) (fun s1 H9 D1 l1 p1 => pts_nil') (fun s1 H9 D1 l1 p1 => (pd_call (X := (Cx.blk (cxOf (L2.CX P w) P w K mg base ["value", "many", "called", "hand"] "is_formed" (defScope s_is_formed) f cdv A l s H E) s1 H9 _ (compEnvC _ l1 D1 (Cx.env (cxOf (L2.CX P w) P w K mg base ["value", "many", "called", "hand"] "is_formed" (defScope s_is_formed) f cdv A l s H E))) p1)) (C := (Ct.nox (ctOf J K mg G H E))) (c_is_within.fn.up (k := 1) (by decide)) (by exact hr) (by exact hg) (by rfl) c_is_within.mg c_is_within.kp c_is_within.bi (by exact takes_blk) (pda_cons (pd_var 3) (pda_cons pd_int (pda_cons (pd_sub (pd_var 1) pd_int) pda_nil))))))) pda_nil)))) (pds_one (pd1_ret pd_bl)) pds_nil)
    (pds_cons (pd1_if (pt_ne (by exact room64 hr) (pd_ix (pd_var 0) pd_int) pd_str) (pds_one (pd1_ret (pd_eq (by exact room64 hr) (pd_var 2) (pd_tup pda_nil)))) pds_nil)
    (pds_one (pd1_ret (pd_eq (by exact room64 hr) (pd_lenSet (by rfl) z_len (by rfl) z_set (pd_var 2) rfl) (pd_len (by rfl) z_len (pda_cons (pd_var 2) pda_nil)))))))))
/-! _law_pick -/
abbrev s__law_pick : Stmt := tops 16
theorem sc__law_pick : FnScope ["pot", "items"] ["pot", "items"] (defScope s__law_pick) := ⟨rfl, rfl, rfl, by decide +kernel, rfl, by decide +kernel, by decide +kernel⟩
def D__law_pick : Rho → T Out :=
    (retS (op2 pyIx (gv 1) (callD 2 F__law_draw (consT (gv 0) (consT (fun ρ => ((consT (gv 1) nilA) ρ).bind (only len1)) nilA)))))
def F__law_pick : List D → T D := run 2 (D__law_pick)
theorem ok__law_pick {P : Program} {w : World} {J : Jr} {K : PySem.W.Frag} {mg : Str → Option Value} {base : Heap} {f : Addr} {fd : FuncData} {f__law_draw : Addr} {fd__law_draw : FuncData} (c__law_draw : Cal P w J K mg base 1 "_law_draw" s__law_draw ["pot", "many"] F__law_draw f__law_draw fd__law_draw) (z_len : mg "len" = none) (F : Fun K "_law_pick" "_law_pick" s__law_pick f fd) : FnD P w J K mg base 2 f fd ["pot", "items"] (F__law_pick) :=
  fnD_of F sc__law_pick (D__law_pick) fun G cdv A l s H E hr hg tk =>
    (pds_one (pd1_ret (pd_ix (pd_var 1) (pd_call (c__law_draw.fn.up (k := 1) (by decide)) (by exact hr) (by exact hg) (by rfl) c__law_draw.mg c__law_draw.kp c__law_draw.bi tk (pda_cons (pd_var 0) (pda_cons (pd_len (by rfl) z_len (pda_cons (pd_var 1) pda_nil)) pda_nil))))))
/-! _law_due -/
abbrev s__law_due : Stmt := tops 18
theorem sc__law_due : FnScope ["value", "found", "spot", "part", "move"] ["value"] (defScope s__law_due) := ⟨rfl, rfl, rfl, by decide +kernel, rfl, by decide +kernel, by decide +kernel⟩
def B__law_due_1 : Rho → T Out :=
    (seqS (asgS 4 (ifT (opT pyLt (gv 2) (cD (.int 400))) (callD 1 F__law_move_of (consT (gv 3) nilA)) (cD (.none))))
    (seqS (ifS (opT pyIs (gv 4) (cD (.none))) (retS (lstD (consT (cD (.str "text")) (consT (gv 2) (consT (cD (.bool true)) nilA))))) skipS)
    (ownS 1 (appS 1 (gv 4)))))
def D__law_due : Rho → T Out :=
    (seqS (ifS (notT (fun ρ => ((op1 (isi1 "str") (gv 0)) ρ).bind truth)) (retS (lstD (consT (cD (.str "text")) (consT (cD (.int 0)) (consT (cD (.bool true)) nilA))))) skipS)
    (seqS (asgO 1 (lstO nilA))
    (seqS (forD (fun ρ => ((ifT (opT pyNe (gv 0) (cD (.str ""))) (mOp isStr splitD (gv 0) (cD (.str "; "))) (lstD nilA)) ρ).bind enumT) (fun p => (toCons (toSlot 2) (toCons (toSlot 3) toNil)) [p.1, p.2]) (B__law_due_1))
    (frzS 1 (retS (lstD (consT (cD (.str "told")) (consT (fun ρ => ((consT (gv 1) nilA) ρ).bind (only tup1)) nilA))))))))
def F__law_due : List D → T D := run 5 (D__law_due)
theorem ok__law_due {P : Program} {w : World} {J : Jr} {K : PySem.W.Frag} {mg : Str → Option Value} {base : Heap} {f : Addr} {fd : FuncData} {f__law_move_of : Addr} {fd__law_move_of : FuncData} (z_isinstance : mg "isinstance" = none) (z_str : mg "str" = none) (z_enumerate : mg "enumerate" = none) (c__law_move_of : Cal P w J K mg base 1 "_law_move_of" s__law_move_of ["text"] F__law_move_of f__law_move_of fd__law_move_of) (z_tuple : mg "tuple" = none) (F : Fun K "_law_due" "_law_due" s__law_due f fd) : FnD P w J K mg base 2 f fd ["value"] (F__law_due) :=
  fnD_of F sc__law_due (D__law_due) fun G cdv A l s H E hr hg tk =>
    (pds_cons (pd1_if (ptd_not (ptd_truth (pd_isi (ty := "str") kit_str (by rfl) z_isinstance (by rfl) z_str (by decide +kernel) (pd_var 0)))) (pds_one (pd1_ret (pd_lst (pda_cons pd_str (pda_cons pd_int (pda_cons pd_bl pda_nil)))))) pds_nil)
    (pds_cons (pd1_setO 1 (pdL_lst pda_nil) sc__law_due.nd)
    (pds_cons (pd1_for (passes_of rfl) rfl (pdi_enumB (us := [2, 3]) (pd_ifx (pt_ne (by exact room64 hr) (pd_var 0) pd_str) (pd_split (pd_var 0) pd_str) (pd_lst pda_nil)) (by rfl) z_enumerate) (pg_zipW rfl (pdgs_cons (pdg_name 2 sc__law_due.nd) (pdgs_cons (pdg_name 3 sc__law_due.nd) pdgs_nil))) (pds_cons (pd1_set 4 (pd_ifx (pt_lt (pd_var 2) pd_int) (pd_call (c__law_move_of.fn.up (k := 1) (by decide)) (by exact hr) (by exact hg) (by rfl) c__law_move_of.mg c__law_move_of.kp c__law_move_of.bi tk (pda_cons (pd_var 3) pda_nil)) pd_non) sc__law_due.nd)
    (pds_cons (pd1_if (pt_is (pd_var 4) pd_non) (pds_one (pd1_ret (pd_lst (pda_cons pd_str (pda_cons (pd_var 2) (pda_cons pd_bl pda_nil)))))) pds_nil)
    (pds_one (pd1_app 1 (pd_var 4))))))
    (pds_one (pd1_frz 1 (pd1_ret (pd_lst (pda_cons pd_str (pda_cons (pd_tuple (by rfl) z_tuple (pda_cons (pd_var 1) pda_nil)) pda_nil)))))))))
/-! _read_move -/
abbrev s__read_move : Stmt := tops 11
theorem sc__read_move : FnScope ["part", "hands", "words", "move", "word"] ["part", "hands"] (defScope s__read_move) := ⟨rfl, rfl, rfl, by decide +kernel, rfl, by decide +kernel, by decide +kernel⟩
def E__read_move_1 : Rho → T D := (getS (gv 1) (gv 4) (gv 4))
def D__read_move : Rho → T Out :=
    (seqS (asgS 2 (mOp isStr splitD (gv 0) (cD (.str " "))))
    (seqS (asgS 3 (fun ρ => ((consT (asData (lcD [4] (fun ρ => ((gv 2) ρ).bind seqOf) (toSlot 4) yesT (E__read_move_1))) nilA) ρ).bind (only tup1)))
    (retS (ifT (fun ρ => ((callD 2 F_is_formed (consT (gv 3) (consT (cD K_MAX_HANDS) nilA))) ρ).bind truth) (gv 3) (cD (.none))))))
def F__read_move : List D → T D := run 5 (D__read_move)
theorem ok__read_move {P : Program} {w : World} {J : Jr} {K : PySem.W.Frag} {mg : Str → Option Value} {base : Heap} {f : Addr} {fd : FuncData} {f_is_formed : Addr} {fd_is_formed : FuncData} {u_MAX_HANDS : Value} (z_tuple : mg "tuple" = none) (c_is_formed : Cal P w J K mg base 2 "is_formed" s_is_formed ["value", "many"] F_is_formed f_is_formed fd_is_formed) (v_MAX_HANDS : mg "MAX_HANDS" = some u_MAX_HANDS ∧ kD K K_MAX_HANDS u_MAX_HANDS = true) (F : Fun K "_read_move" "_read_move" s__read_move f fd) : FnD P w J K mg base 3 f fd ["part", "hands"] (F__read_move) :=
  fnD_of F sc__read_move (D__read_move) fun G cdv A l s H E hr hg tk =>
    (pds_cons (pd1_set 2 (pd_split (pd_var 0) pd_str) sc__read_move.nd)
    (pds_cons (pd1_set 3 (pd_tuple (by rfl) z_tuple (pda_cons (pd_L (pdL_lc (own := [("word", 4)]) rfl sc__read_move.nd (pdi_seq (us := [4]) (pd_var 2)) (blkOk_by (by rfl)) (fun s1 H9 D1 l1 p1 => (pdg_name 4 sc__read_move.nd)) (fun s1 H9 D1 l1 p1 => pts_nil') (fun s1 H9 D1 l1 p1 => (pd_getS (by exact room1 hr) (pd_var 1) (pd_var 4) (pd_var 4))))) pda_nil)) sc__read_move.nd)
    (pds_one (pd1_ret (pd_ifx (ptd_truth (pd_call (c_is_formed.fn.up (k := 2) (by decide)) (by exact hr) (by exact hg) (by rfl) c_is_formed.mg c_is_formed.kp c_is_formed.bi tk (pda_cons (pd_var 3) (pda_cons (pd_const (by rfl) v_MAX_HANDS.1 v_MAX_HANDS.2) pda_nil)))) (pd_var 3) pd_non)))))
/-! _law_right -/
abbrev s__law_right : Stmt := tops 20
theorem sc__law_right : FnScope ["pot", "parts", "turn"] ["pot"] (defScope s__law_right) := ⟨rfl, rfl, rfl, by decide +kernel, rfl, by decide +kernel, by decide +kernel⟩
def E__law_right_1 : Rho → T D := (callD 2 F__law_pick (consT (gv 0) (consT (gv 1) nilA)))
def D__law_right : Rho → T Out :=
    (seqS (asgS 1 (lstD (consT (cD (.str "0 on")) (consT (cD (.str "4 away")) (consT (cD (.str "3 call")) (consT (cD (.str "1 call 0")) (consT (cD (.str "2 call 4 3 0")) (consT (cD (.str "0 call 0 1 2 3 4")) (consT (cD (.str "1 on")) (consT (cD (.str "2 on")) nilA))))))))))
    (retS (mOp isStr joinD (cD (.str "; ")) (asData (lcD [2] (fun ρ => ((op2 pyAdd (cD (.int 1)) (callD 2 F__law_draw (consT (gv 0) (consT (cD (.int 7)) nilA)))) ρ).bind range1) (toSlot 2) yesT (E__law_right_1))))))
def F__law_right : List D → T D := run 3 (D__law_right)
theorem ok__law_right {P : Program} {w : World} {J : Jr} {K : PySem.W.Frag} {mg : Str → Option Value} {base : Heap} {f : Addr} {fd : FuncData} {f__law_draw : Addr} {fd__law_draw : FuncData} {f__law_pick : Addr} {fd__law_pick : FuncData} (c__law_draw : Cal P w J K mg base 1 "_law_draw" s__law_draw ["pot", "many"] F__law_draw f__law_draw fd__law_draw) (z_range : mg "range" = none) (c__law_pick : Cal P w J K mg base 2 "_law_pick" s__law_pick ["pot", "items"] F__law_pick f__law_pick fd__law_pick) (F : Fun K "_law_right" "_law_right" s__law_right f fd) : FnD P w J K mg base 3 f fd ["pot"] (F__law_right) :=
  fnD_of F sc__law_right (D__law_right) fun G cdv A l s H E hr hg tk =>
    (pds_cons (pd1_set 1 (pd_lst (pda_cons pd_str (pda_cons pd_str (pda_cons pd_str (pda_cons pd_str (pda_cons pd_str (pda_cons pd_str (pda_cons pd_str (pda_cons pd_str pda_nil))))))))) sc__law_right.nd)
    (pds_one (pd1_ret (pd_join pd_str (pd_L (pdL_lc (own := [("turn", 2)]) rfl sc__law_right.nd (pdi_rng1 (us := [2]) (pd_add pd_int (pd_call (c__law_draw.fn.up (k := 2) (by decide)) (by exact hr) (by exact hg) (by rfl) c__law_draw.mg c__law_draw.kp c__law_draw.bi tk (pda_cons (pd_var 0) (pda_cons pd_int pda_nil)))) (by rfl) z_range) (blkOk_by (by rfl)) (fun s1 H9 D1 l1 p1 => (pdg_name 2 sc__law_right.nd)) (fun s1 H9 D1 l1 p1 => pts_nil') (fun s1 H9 D1 l1 p1 => (pd_call (X := (Cx.blk (cxOf (L2.CX P w) P w K mg base ["pot", "parts", "turn"] "_law_right" (defScope s__law_right) f cdv A l s H E) s1 H9 _ (compEnvC _ l1 D1 (Cx.env (cxOf (L2.CX P w) P w K mg base ["pot", "parts", "turn"] "_law_right" (defScope s__law_right) f cdv A l s H E))) p1)) (C := (Ct.nox (ctOf J K mg G H E))) (c__law_pick.fn.up (k := 2) (by decide)) (by exact hr) (by exact hg) (by rfl) c__law_pick.mg c__law_pick.kp c__law_pick.bi (by exact takes_blk) (pda_cons (pd_var 0) (pda_cons (pd_var 1) pda_nil))))))))))
/-! _law_bent -/
abbrev s__law_bent : Stmt := tops 21
theorem sc__law_bent : FnScope ["pot", "text", "signs", "way", "at"] ["pot", "text"] (defScope s__law_bent) := ⟨rfl, rfl, rfl, by decide +kernel, rfl, by decide +kernel, by decide +kernel⟩
def D__law_bent : Rho → T Out :=
    (seqS (parS 3 4 (consT (callD 2 F__law_draw (consT (gv 0) (consT (cD (.int 6)) nilA))) (consT (callD 2 F__law_draw (consT (gv 0) (consT (op2 pyAdd (fun ρ => ((consT (gv 1) nilA) ρ).bind (only len1)) (cD (.int 1))) nilA))) nilA)))
    (seqS (asgS 2 (lstD (consT (cD (.str "0")) (consT (cD (.str "4")) (consT (cD (.str "5")) (consT (cD (.str " ")) (consT (cD (.str "  ")) (consT (cD (.str ";")) (consT (cD (.str "; ")) (consT (cD (.str "on")) (consT (cD (.str "call")) (consT (cD (.str "away")) (consT (cD (.str " 0")) (consT (cD (.str "x")) (consT (cD (.str "\n")) (consT (cD (.str "-")) (consT (cD (.str ",")) (consT (cD (.str " call 1 1")) nilA))))))))))))))))))
    (seqS (asgS 2 (op2 pyAdd (gv 2) (lstD (consT (cD (.str "; 1 on")) nilA))))
    (seqS (ifS (opT pyLt (gv 3) (cD (.int 4))) (retS (op2 pyAdd (op2 pyAdd (fun ρ => ((gv 1) ρ).bind fun x => (noP ρ).bind fun lo => ((fun ρ => ((gv 4) ρ).bind asInt) ρ).bind fun hi => pySlS x lo hi) (ifT (opT pyGt (gv 3) (cD (.int 0))) (callD 2 F__law_pick (consT (gv 0) (consT (gv 2) nilA))) (cD (.str "")))) (fun ρ => ((gv 1) ρ).bind fun x => ((fun ρ => ((op2 pyAdd (gv 4) (fun ρ => ((consT (op2 pyEq (op2 pyMod (gv 3) (cD (.int 2))) (cD (.int 0))) nilA) ρ).bind (only int1))) ρ).bind asInt) ρ).bind fun lo => (noP ρ).bind fun hi => pySlS x lo hi))) skipS)
    (seqS (ifS (opT pyEq (gv 3) (cD (.int 4))) (retS (op2 pyAdd (callD 2 F__law_pick (consT (gv 0) (consT (lstD (consT (cD (.str " ")) (consT (cD (.str "; ")) (consT (cD (.str "5 on; ")) nilA)))) nilA))) (gv 1))) skipS)
    (retS (op2 pyAdd (gv 1) (callD 2 F__law_pick (consT (gv 0) (consT (lstD (consT (cD (.str "; ")) (consT (cD (.str " ")) (consT (cD (.str ";")) (consT (cD (.str " 0")) (consT (cD (.str "; 0")) nilA)))))) nilA))))))))))
def F__law_bent : List D → T D := run 5 (D__law_bent)
theorem ok__law_bent {P : Program} {w : World} {J : Jr} {K : PySem.W.Frag} {mg : Str → Option Value} {base : Heap} {f : Addr} {fd : FuncData} {f__law_draw : Addr} {fd__law_draw : FuncData} {f__law_pick : Addr} {fd__law_pick : FuncData} (c__law_draw : Cal P w J K mg base 1 "_law_draw" s__law_draw ["pot", "many"] F__law_draw f__law_draw fd__law_draw) (z_len : mg "len" = none) (c__law_pick : Cal P w J K mg base 2 "_law_pick" s__law_pick ["pot", "items"] F__law_pick f__law_pick fd__law_pick) (z_int : mg "int" = none) (F : Fun K "_law_bent" "_law_bent" s__law_bent f fd) : FnD P w J K mg base 3 f fd ["pot", "text"] (F__law_bent) :=
  fnD_of F sc__law_bent (D__law_bent) fun G cdv A l s H E hr hg tk =>
    (pds_cons (pd1_par 3 4 rfl sc__law_bent.nd (pda_cons (pd_call (c__law_draw.fn.up (k := 2) (by decide)) (by exact hr) (by exact hg) (by rfl) c__law_draw.mg c__law_draw.kp c__law_draw.bi tk (pda_cons (pd_var 0) (pda_cons pd_int pda_nil))) (pda_cons (pd_call (c__law_draw.fn.up (k := 2) (by decide)) (by exact hr) (by exact hg) (by rfl) c__law_draw.mg c__law_draw.kp c__law_draw.bi tk (pda_cons (pd_var 0) (pda_cons (pd_add (pd_len (by rfl) z_len (pda_cons (pd_var 1) pda_nil)) pd_int) pda_nil))) pda_nil)))
    (pds_cons (pd1_set 2 (pd_lst (pda_cons pd_str (pda_cons pd_str (pda_cons pd_str (pda_cons pd_str (pda_cons pd_str (pda_cons pd_str (pda_cons pd_str (pda_cons pd_str (pda_cons pd_str (pda_cons pd_str (pda_cons pd_str (pda_cons pd_str (pda_cons pd_str (pda_cons pd_str (pda_cons pd_str (pda_cons pd_str pda_nil))))))))))))))))) sc__law_bent.nd)
    (pds_cons (pd1_set 2 (pd_add (pd_var 2) (pd_lst (pda_cons pd_str pda_nil))) sc__law_bent.nd)
    (pds_cons (pd1_if (pt_lt (pd_var 3) pd_int) (pds_one (pd1_ret (pd_add (pd_add (pd_slS (pd_var 1) pdo_none (pdo_some (pd_var 4))) (pd_ifx (pt_gt (pd_var 3) pd_int) (pd_call (c__law_pick.fn.up (k := 2) (by decide)) (by exact hr) (by exact hg) (by rfl) c__law_pick.mg c__law_pick.kp c__law_pick.bi tk (pda_cons (pd_var 0) (pda_cons (pd_var 2) pda_nil))) pd_str)) (pd_slS (pd_var 1) (pdo_some (pd_add (pd_var 4) (pd_intf (by rfl) z_int (pda_cons (pd_eq (by exact room64 hr) (pd_mod (pd_var 3) pd_int) pd_int) pda_nil)))) pdo_none)))) pds_nil)
    (pds_cons (pd1_if (pt_eq (by exact room64 hr) (pd_var 3) pd_int) (pds_one (pd1_ret (pd_add (pd_call (c__law_pick.fn.up (k := 2) (by decide)) (by exact hr) (by exact hg) (by rfl) c__law_pick.mg c__law_pick.kp c__law_pick.bi tk (pda_cons (pd_var 0) (pda_cons (pd_lst (pda_cons pd_str (pda_cons pd_str (pda_cons pd_str pda_nil)))) pda_nil))) (pd_var 1)))) pds_nil)
    (pds_one (pd1_ret (pd_add (pd_var 1) (pd_call (c__law_pick.fn.up (k := 2) (by decide)) (by exact hr) (by exact hg) (by rfl) c__law_pick.mg c__law_pick.kp c__law_pick.bi tk (pda_cons (pd_var 0) (pda_cons (pd_lst (pda_cons pd_str (pda_cons pd_str (pda_cons pd_str (pda_cons pd_str (pda_cons pd_str pda_nil)))))) pda_nil)))))))))))
/-! read_run -/
abbrev s_read_run : Stmt := tops 12
theorem sc_read_run : FnScope ["value", "hands", "parts", "run", "place", "part", "move", "hand"] ["value"] (defScope s_read_run) := ⟨rfl, rfl, rfl, by decide +kernel, rfl, by decide +kernel, by decide +kernel⟩
def E_read_run_1k : Rho → T D := (fun ρ => ((consT (gv 7) nilA) ρ).bind (only str2))
def E_read_run_1v : Rho → T D := (gv 7)
def B_read_run_2 : Rho → T Out :=
    (seqS (asgS 6 (callD 2 F__read_move (consT (gv 5) (consT (gv 1) nilA))))
    (seqS (ifS (orT (opT pyIs (gv 6) (cD (.none))) (opT pyEq (gv 4) (cD K_MAX_MOVES))) (raise1 "BadText" (consT (gv 4) nilA)) skipS)
    (ownS 3 (appS 3 (gv 6)))))
def D_read_run : Rho → T Out :=
    (seqS (ifS (notT (fun ρ => ((op1 (isi1 "str") (gv 0)) ρ).bind truth)) (raise1 "BadText" (consT (cD (.int 0)) nilA)) skipS)
    (seqS (asgS 1 (dcD [7] (fun ρ => ((cD K_MAX_HANDS) ρ).bind range1) (toSlot 7) yesT (E_read_run_1k) (E_read_run_1v)))
    (seqS (asgS 2 (ifT (fun ρ => ((gv 0) ρ).bind truth) (mOp isStr splitD (gv 0) (cD (.str "; "))) (lstD nilA)))
    (seqS (asgO 3 (lstO nilA))
    (seqS (forD (fun ρ => ((gv 2) ρ).bind enumT) (fun p => (toCons (toSlot 4) (toCons (toSlot 5) toNil)) [p.1, p.2]) (B_read_run_2))
    (frzS 3 (retS (fun ρ => ((consT (gv 3) nilA) ρ).bind (only tup1)))))))))
def F_read_run : List D → T D := run 8 (D_read_run)
theorem ok_read_run {P : Program} {w : World} {J : Jr} {K : PySem.W.Frag} {mg : Str → Option Value} {base : Heap} {f : Addr} {fd : FuncData} {a_BadText fi_BadText : Addr} {fdi_BadText : FuncData} {u_MAX_HANDS : Value} {f__read_move : Addr} {fd__read_move : FuncData} {u_MAX_MOVES : Value} (z_isinstance : mg "isinstance" = none) (z_str : mg "str" = none) (i_BadText : ErrI P w K mg base "BadText" "place" a_BadText fi_BadText fdi_BadText) (v_MAX_HANDS : mg "MAX_HANDS" = some u_MAX_HANDS ∧ kD K K_MAX_HANDS u_MAX_HANDS = true) (z_range : mg "range" = none) (z_enumerate : mg "enumerate" = none) (c__read_move : Cal P w J K mg base 3 "_read_move" s__read_move ["part", "hands"] F__read_move f__read_move fd__read_move) (v_MAX_MOVES : mg "MAX_MOVES" = some u_MAX_MOVES ∧ kD K K_MAX_MOVES u_MAX_MOVES = true) (z_tuple : mg "tuple" = none) (F : Fun K "read_run" "read_run" s_read_run f fd) : FnD P w J K mg base 4 f fd ["value"] (F_read_run) :=
  fnD_of F sc_read_run (D_read_run) fun G cdv A l s H E hr hg tk =>
    (pds_cons (pd1_if (ptd_not (ptd_truth (pd_isi (ty := "str") kit_str (by rfl) z_isinstance (by rfl) z_str (by decide +kernel) (pd_var 0)))) (pds_one (pd1_raise1 i_BadText rfl tk (by exact hr.mono (by decide)) (by rfl) (pda_cons pd_int pda_nil) i_BadText.gm)) pds_nil)
    (pds_cons (pd1_setDc 1 (own := [("hand", 7)]) rfl sc_read_run.nd (pdi_rng1 (us := [7]) (pd_const (by rfl) v_MAX_HANDS.1 v_MAX_HANDS.2) (by rfl) z_range) (blkOk_by (by rfl)) (fun s1 H9 D1 l1 p1 => (pdg_name 7 sc_read_run.nd)) (fun s1 H9 D1 l1 p1 => pts_nil') (fun s1 H9 D1 l1 p1 => (pd_strf2 (by rfl) z_str (pda_cons (pd_var 7) pda_nil))) (fun s1 H9 D1 l1 p1 => (pd_var 7)))
    (pds_cons (pd1_set 2 (pd_ifx (ptd_truth (pd_var 0)) (pd_split (pd_var 0) pd_str) (pd_lst pda_nil)) sc_read_run.nd)
    (pds_cons (pd1_setO 3 (pdL_lst pda_nil) sc_read_run.nd)
    (pds_cons (pd1_for (passes_of rfl) rfl (pdi_enumB (us := [4, 5]) (pd_var 2) (by rfl) z_enumerate) (pg_zipW rfl (pdgs_cons (pdg_name 4 sc_read_run.nd) (pdgs_cons (pdg_name 5 sc_read_run.nd) pdgs_nil))) (pds_cons (pd1_set 6 (pd_call (c__read_move.fn.up (k := 3) (by decide)) (by exact hr) (by exact hg) (by rfl) c__read_move.mg c__read_move.kp c__read_move.bi tk (pda_cons (pd_var 5) (pda_cons (pd_var 1) pda_nil))) sc_read_run.nd)
    (pds_cons (pd1_if (PW.pt (pt_or2 (pt_is (pd_var 6) pd_non) (pw_or1 (pt_eq (by exact room64 hr) (pd_var 4) (pd_const (by rfl) v_MAX_MOVES.1 v_MAX_MOVES.2))))) (pds_one (pd1_raise1 i_BadText rfl tk (by exact hr.mono (by decide)) (by rfl) (pda_cons (pd_var 4) pda_nil) i_BadText.gm)) pds_nil)
    (pds_one (pd1_app 3 (pd_var 6))))))
    (pds_one (pd1_frz 3 (pd1_ret (pd_tuple (by rfl) z_tuple (pda_cons (pd_var 3) pda_nil))))))))))
/-! _law_heard -/
abbrev s__law_heard : Stmt := tops 19
theorem sc__law_heard : FnScope ["value", "is_named", "slip"] ["value", "is_named"] (defScope s__law_heard) := ⟨rfl, rfl, rfl, by decide +kernel, rfl, by decide +kernel, by decide +kernel⟩
def D__law_heard : Rho → T Out :=
    (tryG 2 (tkOf "BadText") (retS (lstD (consT (cD (.str "told")) (consT (ifT (fun ρ => ((gv 1) ρ).bind truth) (callK0 1 1 [0] F_read_run (consT (gv 0) nilA)) (callD 1 F_read_run (consT (gv 0) nilA))) nilA)))) (fun ev ρ => if ev.cls = "BadText" then (lstD (consT (cD (.str "text")) (consT (fldD ev "place" 2) (consT (isExcG 2 true) nilA)))) ρ else .bad))
def F__law_heard : List D → T D := run 3 (D__law_heard)
theorem ok__law_heard {P : Program} {w : World} {J : Jr} {K : PySem.W.Frag} {mg : Str → Option Value} {base : Heap} {f : Addr} {fd : FuncData} {a_BadText fi_BadText : Addr} {fdi_BadText : FuncData} {f_read_run : Addr} {fd_read_run : FuncData} {a_SleepError : Addr} (i_BadText : ErrI P w K mg base "BadText" "place" a_BadText fi_BadText fdi_BadText) (c_read_run : Cal P w J K mg base 4 "read_run" s_read_run ["value"] F_read_run f_read_run fd_read_run) (k_BadText_SleepError : PySem.W.kitOne K (.ref a_BadText) (.ref a_SleepError) = some true) (hO : ∀ v, ¬ J.O v (-1)) (z_isinstance : mg "isinstance" = none) (e_SleepError : OwnE K mg "SleepError" a_SleepError) (F : Fun K "_law_heard" "_law_heard" s__law_heard f fd) : FnD P w J K mg base 5 f fd ["value", "is_named"] (F__law_heard) :=
  fnD_of F sc__law_heard (D__law_heard) fun G cdv A l s H E hr hg tk =>
    (pds_one (pd1_tryG (cv := .ref a_BadText) rfl rfl sc__law_heard.nd (by rfl) (by rfl) ⟨by rfl, by decide, .inl i_BadText.gm⟩ tk rfl (tkI_ok i_BadText) (fun W1 pn1 xe1 tkw _ => (pds_one (pd1_ret (pd_lst (pda_cons pd_str (pda_cons (pd_ifx (ptd_truth (pd_var 1)) (pd_callK0 (X := Cx.tr (cxOf (L2.CX P w) P w K mg base ["value", "is_named", "slip"] "_law_heard" (defScope s__law_heard) f cdv A l s H E) pn1 xe1) (C := { (ctOf J K mg G H E) with W := W1 }) (c_read_run.fn.up (k := 4) (by decide)) (by exact hr) (by exact hg) (by rfl) c_read_run.mg c_read_run.kp (c_read_run.kb (ks := ["value"]) (m := 0) (is := [0]) (by decide) fun _ _ _ _ _ _ us ws h1 h2 => match us, ws, h1, h2 with | [], [_], _, _ => rfl) tkw (pdk_cons (pd_var 0) pdk_nil)) (pd_call (X := Cx.tr (cxOf (L2.CX P w) P w K mg base ["value", "is_named", "slip"] "_law_heard" (defScope s__law_heard) f cdv A l s H E) pn1 xe1) (C := { (ctOf J K mg G H E) with W := W1 }) (c_read_run.fn.up (k := 4) (by decide)) (by exact hr) (by exact hg) (by rfl) c_read_run.mg c_read_run.kp c_read_run.bi tkw (pda_cons (pd_var 0) pda_nil))) pda_nil)))))) (fun _ _ _ _ _ _ _ _ _ hz hd hm ha1 rv1 => pd_if fun he => by
      rw [he] at hm; cases hm.symm.trans i_BadText.gm; exact (pd_lst (pda_cons pd_str (pda_cons (pd_fld hO i_BadText.fx i_BadText.nf hz hd ha1 rv1 (by rfl) (by first | exact Or.inl rfl | exact Or.inr (Or.inl rfl))) (pda_cons (pd_isG rfl hO k_BadText_SleepError i_BadText.ec hz hd (by rfl) (by first | exact Or.inl rfl | exact Or.inr (Or.inl rfl)) (by rfl) z_isinstance (by rfl) e_SleepError.mg) pda_nil)))))))
/-! law -/
abbrev s_law : Stmt := tops 22
theorem sc_law : FnScope ["script", "pot", "turn", "odd", "value", "many", "text", "nth", "own"] ["script"] (defScope s_law) := ⟨rfl, rfl, rfl, by decide +kernel, rfl, by decide +kernel, by decide +kernel⟩
def B_law_1 : Rho → T Out :=
    (ifS (opT pyNe (fun ρ => ((consT (callD 2 F__law_heard (consT (gv 8) (consT (op2 pyEq (gv 7) (op2 pyMod (gv 2) (cD (.int 5)))) nilA))) nilA) ρ).bind (only repr1)) (fun ρ => ((consT (callD 1 F__law_due (consT (gv 8) nilA)) nilA) ρ).bind (only repr1))) (retS (cD (.bool false))) skipS)
def B_law_2 : Rho → T Out :=
    (seqS (asgS 6 (callD 1 F__law_right (consT (gv 1) nilA)))
    (seqS (asgS 4 (ifT (opT pyEq (op2 pyMod (gv 2) (cD (.int 4))) (cD (.int 3))) (callD 2 F__law_bent (consT (gv 1) (consT (callD 2 F__law_bent (consT (gv 1) (consT (gv 6) nilA))) nilA))) (callD 2 F__law_bent (consT (gv 1) (consT (gv 6) nilA)))))
    (forD (fun ρ => ((lstD (consT (gv 4) (consT (gv 6) nilA))) ρ).bind enumT) (fun p => (toCons (toSlot 7) (toCons (toSlot 8) toNil)) [p.1, p.2]) (B_law_1))))
def B_law_3 : Rho → T Out :=
    (ifS (opT pyNe (fun ρ => ((consT (callD 2 F__law_heard (consT (gv 4) (consT (cD (.bool false)) nilA))) nilA) ρ).bind (only repr1)) (fun ρ => ((consT (callD 1 F__law_due (consT (gv 4) nilA)) nilA) ρ).bind (only repr1))) (retS (cD (.bool false))) skipS)
def D_law : Rho → T Out :=
    (seqS (forD (fun ρ => ((cD (.int 14)) ρ).bind range1) (toSlot 2) (B_law_2))
    (seqS (asgS 3 (lstD (consT (cD (.none)) (consT (cD (.int 0)) (consT (cD (.bool true)) (consT (tupD nilA) (consT (lstD nilA) (consT (cD (.dict [])) (consT (tupD (consT (tupD (consT (cD (.int 0)) (consT (cD (.str "on")) nilA))) nilA)) (consT (lstD (consT (cD (.str "0 on")) nilA)) (consT (cD (.str "")) (consT (cD (.str " ")) (consT (cD (.str ";")) (consT (cD (.str "0 ON")) (consT (cD (.str "0  on")) (consT (cD (.str "00 on")) (consT (cD (.str "0 on;1 on")) nilA)))))))))))))))))
    (seqS (asgS 3 (op2 pyAdd (gv 3) (lstD (consT (cD (.str "on 0")) nilA))))
    (seqS (asgS 3 (op2 pyAdd (gv 3) (lstD (consT (cD (.str "0 call 00")) (consT (cD (.str "5 on")) (consT (cD (.str "0 call 5")) (consT (cD (.str "0 on ")) (consT (cD (.str "call")) (consT (cD (.str "0")) (consT (cD (.str "0 on; ; 1 on")) (consT (op2 pyMulS (cD (.str "9")) (cD (.int 3000))) (consT (op2 pyMulS (cD (.str "; ")) (cD (.int 3000))) nilA))))))))))))
    (seqS (asgS 3 (op2 pyAdd (gv 3) (lstD (consT (op2 pyAdd (op2 pyMulS (cD (.str "1")) (cD (.int 5000))) (cD (.str " on"))) (consT (op2 pyAdd (cD (.str "0 call ")) (op2 pyMulS (cD (.str "1")) (cD (.int 5000)))) (consT (op2 pyAdd (op2 pyAdd (cD (.str "0 on; ")) (op2 pyMulS (cD (.str "0")) (cD (.int 5000)))) (cD (.str " away"))) nilA))))))
    (seqS (forD (fun ρ => ((lstD (consT (callD 2 F__law_pick (consT (gv 1) (consT (gv 3) nilA))) (consT (callD 2 F__law_pick (consT (gv 1) (consT (gv 3) nilA))) (consT (callD 2 F__law_pick (consT (gv 1) (consT (gv 3) nilA))) nilA)))) ρ).bind seqOf) (toSlot 4) (B_law_3))
    (seqS (ifS (opT pyGt (callD 2 F__law_draw (consT (gv 1) (consT (cD (.int 6)) nilA))) (cD (.int 0))) (retS (cD (.bool true))) skipS)
    (seqS (asgS 5 (callD 2 F__law_pick (consT (gv 1) (consT (lstD (consT (cD (.int 399)) (consT (cD (.int 400)) (consT (cD (.int 401)) (consT (cD (.int 700)) nilA))))) nilA))))
    (seqS (asgS 6 (mOp isStr joinD (cD (.str "; ")) (op2 pyRep (lstD (consT (cD (.str "0 on")) (consT (callD 2 F__law_pick (consT (gv 1) (consT (lstD (consT (cD (.str "1 call 0")) (consT (cD (.str "2 away")) (consT (cD (.str "3 call")) nilA)))) nilA))) nilA))) (cD (.int 350)))))
    (seqS (asgS 6 (mOp isStr joinD (cD (.str "; ")) (op2 pyAdd (fun ρ => ((mOp isStr splitD (gv 6) (cD (.str "; "))) ρ).bind fun x => (noP ρ).bind fun lo => ((fun ρ => ((op2 pySub (gv 5) (cD (.int 1))) ρ).bind asInt) ρ).bind fun hi => pySl x lo hi) (lstD (consT (callD 2 F__law_pick (consT (gv 1) (consT (lstD (consT (cD (.str "0 on")) (consT (cD (.str "x")) (consT (cD (.str "")) nilA)))) nilA))) nilA)))))
    (retS (op2 pyEq (fun ρ => ((consT (callD 2 F__law_heard (consT (gv 6) (consT (cD (.bool false)) nilA))) nilA) ρ).bind (only repr1)) (fun ρ => ((consT (callD 1 F__law_due (consT (gv 6) nilA)) nilA) ρ).bind (only repr1))))))))))))))
theorem body_law {P : Program} {w : World} {J : Jr} {K : PySem.W.Frag} {mg : Str → Option Value} {base : Heap} {f : Addr} {f__law_right : Addr} {fd__law_right : FuncData} {f__law_bent : Addr} {fd__law_bent : FuncData} {f__law_heard : Addr} {fd__law_heard : FuncData} {f__law_due : Addr} {fd__law_due : FuncData} {f__law_pick : Addr} {fd__law_pick : FuncData} {f__law_draw : Addr} {fd__law_draw : FuncData} (z_range : mg "range" = none) (c__law_right : Cal P w J K mg base 3 "_law_right" s__law_right ["pot"] F__law_right f__law_right fd__law_right) (c__law_bent : Cal P w J K mg base 3 "_law_bent" s__law_bent ["pot", "text"] F__law_bent f__law_bent fd__law_bent) (z_enumerate : mg "enumerate" = none) (c__law_heard : Cal P w J K mg base 5 "_law_heard" s__law_heard ["value", "is_named"] F__law_heard f__law_heard fd__law_heard) (z_repr : mg "repr" = none) (c__law_due : Cal P w J K mg base 2 "_law_due" s__law_due ["value"] F__law_due f__law_due fd__law_due) (c__law_pick : Cal P w J K mg base 2 "_law_pick" s__law_pick ["pot", "items"] F__law_pick f__law_pick fd__law_pick) (c__law_draw : Cal P w J K mg base 1 "_law_draw" s__law_draw ["pot", "many"] F__law_draw f__law_draw fd__law_draw) {cdv : Value} {A : Around} {l : List Env} {s : Shared} {H G HC : Hp} {E : XK} (hr : Room 5 (Cx.A (cxOf (L2.CX P w) P w K mg base ["script", "pot", "turn", "odd", "value", "many", "text", "nth", "own"] "law" (defScope s_law) f cdv A l s H E))) (hg : (Cx.A (cxOf (L2.CX P w) P w K mg base ["script", "pot", "turn", "odd", "value", "many", "text", "nth", "own"] "law" (defScope s_law) f cdv A l s H E)).guards = some []) (tk : Takes (cxOf (L2.CX P w) P w K mg base ["script", "pot", "turn", "odd", "value", "many", "text", "nth", "own"] "law" (defScope s_law) f cdv A l s H E) (ctOf J K mg G HC E).W) : PDs (cxOf (L2.CX P w) P w K mg base ["script", "pot", "turn", "odd", "value", "many", "text", "nth", "own"] "law" (defScope s_law) f cdv A l s H E) (ctOf J K mg G HC E) (defBody s_law).tail D_law :=
    (pds_cons (pd1_for (passes_of rfl) rfl (pdi_rng1 (us := [2]) pd_int (by rfl) z_range) (pdg_name 2 sc_law.nd) (pds_cons (pd1_set 6 (pd_call (c__law_right.fn.up (k := 5) (by decide)) (by exact hr) (by exact hg) (by rfl) c__law_right.mg c__law_right.kp c__law_right.bi tk (pda_cons (pd_var 1) pda_nil)) sc_law.nd)
    (pds_cons (pd1_set 4 (pd_ifx (pt_eq (by exact room64 hr) (pd_mod (pd_var 2) pd_int) pd_int) (pd_call (c__law_bent.fn.up (k := 5) (by decide)) (by exact hr) (by exact hg) (by rfl) c__law_bent.mg c__law_bent.kp c__law_bent.bi tk (pda_cons (pd_var 1) (pda_cons (pd_call (c__law_bent.fn.up (k := 5) (by decide)) (by exact hr) (by exact hg) (by rfl) c__law_bent.mg c__law_bent.kp c__law_bent.bi tk (pda_cons (pd_var 1) (pda_cons (pd_var 6) pda_nil))) pda_nil))) (pd_call (c__law_bent.fn.up (k := 5) (by decide)) (by exact hr) (by exact hg) (by rfl) c__law_bent.mg c__law_bent.kp c__law_bent.bi tk (pda_cons (pd_var 1) (pda_cons (pd_var 6) pda_nil)))) sc_law.nd)
    (pds_one (pd1_for (passes_of rfl) rfl (pdi_enumB (us := [7, 8]) (pd_lst (pda_cons (pd_var 4) (pda_cons (pd_var 6) pda_nil))) (by rfl) z_enumerate) (pg_zipW rfl (pdgs_cons (pdg_name 7 sc_law.nd) (pdgs_cons (pdg_name 8 sc_law.nd) pdgs_nil))) (pds_one (pd1_if (pt_ne (by exact room64 hr) (pd_repr (by exact hg) (by exact room200 hr) (by rfl) z_repr (pda_cons (pd_call (c__law_heard.fn.up (k := 5) (by decide)) (by exact hr) (by exact hg) (by rfl) c__law_heard.mg c__law_heard.kp c__law_heard.bi tk (pda_cons (pd_var 8) (pda_cons (pd_eq (by exact room64 hr) (pd_var 7) (pd_mod (pd_var 2) pd_int)) pda_nil))) pda_nil)) (pd_repr (by exact hg) (by exact room200 hr) (by rfl) z_repr (pda_cons (pd_call (c__law_due.fn.up (k := 5) (by decide)) (by exact hr) (by exact hg) (by rfl) c__law_due.mg c__law_due.kp c__law_due.bi tk (pda_cons (pd_var 8) pda_nil)) pda_nil))) (pds_one (pd1_ret pd_bl)) pds_nil)))))))
    (pds_cons (pd1_set 3 (pd_lst (pda_cons pd_non (pda_cons pd_int (pda_cons pd_bl (pda_cons (pd_tup pda_nil) (pda_cons (pd_lst pda_nil) (pda_cons pd_dnew (pda_cons (pd_tup (pda_cons (pd_tup (pda_cons pd_int (pda_cons pd_str pda_nil))) pda_nil)) (pda_cons (pd_lst (pda_cons pd_str pda_nil)) (pda_cons pd_str (pda_cons pd_str (pda_cons pd_str (pda_cons pd_str (pda_cons pd_str (pda_cons pd_str (pda_cons pd_str pda_nil)))))))))))))))) sc_law.nd)
    (pds_cons (pd1_set 3 (pd_add (pd_var 3) (pd_lst (pda_cons pd_str pda_nil))) sc_law.nd)
    (pds_cons (pd1_set 3 (pd_add (pd_var 3) (pd_lst (pda_cons pd_str (pda_cons pd_str (pda_cons pd_str (pda_cons pd_str (pda_cons pd_str (pda_cons pd_str (pda_cons pd_str (pda_cons (pd_mulS pd_str pd_int) (pda_cons (pd_mulS pd_str pd_int) pda_nil))))))))))) sc_law.nd)
    (pds_cons (pd1_set 3 (pd_add (pd_var 3) (pd_lst (pda_cons (pd_add (pd_mulS pd_str pd_int) pd_str) (pda_cons (pd_add pd_str (pd_mulS pd_str pd_int)) (pda_cons (pd_add (pd_add pd_str (pd_mulS pd_str pd_int)) pd_str) pda_nil))))) sc_law.nd)
    (pds_cons (pd1_for (passes_of rfl) rfl (pdi_seq (us := [4]) (pd_lst (pda_cons (pd_call (c__law_pick.fn.up (k := 5) (by decide)) (by exact hr) (by exact hg) (by rfl) c__law_pick.mg c__law_pick.kp c__law_pick.bi tk (pda_cons (pd_var 1) (pda_cons (pd_var 3) pda_nil))) (pda_cons (pd_call (c__law_pick.fn.up (k := 5) (by decide)) (by exact hr) (by exact hg) (by rfl) c__law_pick.mg c__law_pick.kp c__law_pick.bi tk (pda_cons (pd_var 1) (pda_cons (pd_var 3) pda_nil))) (pda_cons (pd_call (c__law_pick.fn.up (k := 5) (by decide)) (by exact hr) (by exact hg) (by rfl) c__law_pick.mg c__law_pick.kp c__law_pick.bi tk (pda_cons (pd_var 1) (pda_cons (pd_var 3) pda_nil))) pda_nil))))) (pdg_name 4 sc_law.nd) (pds_one (pd1_if (pt_ne (by exact room64 hr) (pd_repr (by exact hg) (by exact room200 hr) (by rfl) z_repr (pda_cons (pd_call (c__law_heard.fn.up (k := 5) (by decide)) (by exact hr) (by exact hg) (by rfl) c__law_heard.mg c__law_heard.kp c__law_heard.bi tk (pda_cons (pd_var 4) (pda_cons pd_bl pda_nil))) pda_nil)) (pd_repr (by exact hg) (by exact room200 hr) (by rfl) z_repr (pda_cons (pd_call (c__law_due.fn.up (k := 5) (by decide)) (by exact hr) (by exact hg) (by rfl) c__law_due.mg c__law_due.kp c__law_due.bi tk (pda_cons (pd_var 4) pda_nil)) pda_nil))) (pds_one (pd1_ret pd_bl)) pds_nil)))
    (pds_cons (pd1_if (pt_gt (pd_call (c__law_draw.fn.up (k := 5) (by decide)) (by exact hr) (by exact hg) (by rfl) c__law_draw.mg c__law_draw.kp c__law_draw.bi tk (pda_cons (pd_var 1) (pda_cons pd_int pda_nil))) pd_int) (pds_one (pd1_ret pd_bl)) pds_nil)
    (pds_cons (pd1_set 5 (pd_call (c__law_pick.fn.up (k := 5) (by decide)) (by exact hr) (by exact hg) (by rfl) c__law_pick.mg c__law_pick.kp c__law_pick.bi tk (pda_cons (pd_var 1) (pda_cons (pd_lst (pda_cons pd_int (pda_cons pd_int (pda_cons pd_int (pda_cons pd_int pda_nil))))) pda_nil))) sc_law.nd)
    (pds_cons (pd1_set 6 (pd_join pd_str (pd_rep (pd_lst (pda_cons pd_str (pda_cons (pd_call (c__law_pick.fn.up (k := 5) (by decide)) (by exact hr) (by exact hg) (by rfl) c__law_pick.mg c__law_pick.kp c__law_pick.bi tk (pda_cons (pd_var 1) (pda_cons (pd_lst (pda_cons pd_str (pda_cons pd_str (pda_cons pd_str pda_nil)))) pda_nil))) pda_nil))) pd_int)) sc_law.nd)
    (pds_cons (pd1_set 6 (pd_join pd_str (pd_add (pd_sl (pd_split (pd_var 6) pd_str) pdo_none (pdo_some (pd_sub (pd_var 5) pd_int))) (pd_lst (pda_cons (pd_call (c__law_pick.fn.up (k := 5) (by decide)) (by exact hr) (by exact hg) (by rfl) c__law_pick.mg c__law_pick.kp c__law_pick.bi tk (pda_cons (pd_var 1) (pda_cons (pd_lst (pda_cons pd_str (pda_cons pd_str (pda_cons pd_str pda_nil)))) pda_nil))) pda_nil)))) sc_law.nd)
    (pds_one (pd1_ret (pd_eq (by exact room64 hr) (pd_repr (by exact hg) (by exact room200 hr) (by rfl) z_repr (pda_cons (pd_call (c__law_heard.fn.up (k := 5) (by decide)) (by exact hr) (by exact hg) (by rfl) c__law_heard.mg c__law_heard.kp c__law_heard.bi tk (pda_cons (pd_var 6) (pda_cons pd_bl pda_nil))) pda_nil)) (pd_repr (by exact hg) (by exact room200 hr) (by rfl) z_repr (pda_cons (pd_call (c__law_due.fn.up (k := 5) (by decide)) (by exact hr) (by exact hg) (by rfl) c__law_due.mg c__law_due.kp c__law_due.bi tk (pda_cons (pd_var 6) pda_nil)) pda_nil)))))))))))))))

def LawMath : Prop := (D_law (rho0 9)).sat (2 ^ 40) (fun o _ => o = .rt (.bool true)) fun _ _ => False
theorem ok_law {P : Program} {w : World} {K : PySem.W.Frag} {mg : Str → Option Value} {base : Heap} {f fj : Addr} {fd fdj : FuncData} (jm : ∀ ns : List Int, ns.length ≤ 63 → PotMath (F__law_pot ns)) (lm : LawMath) (F : Fun K "law" "law" s_law f fd)
    (cj : ∀ sa ns zz, Cal P w (scrJ K sa ns zz) K mg base 1 "_law_pot" s__law_pot ["script"] (F__law_pot ns) fj fdj)
    (rest : ∀ (j : PotP), j.Ok → ∀ (cdv : Value) (A : Around) (l : List Env) (s : Shared) (H G HC : Hp) (E : XK), Room 5 (Cx.A (cxOf (L2.CX P w) P w K mg base ["script", "pot", "turn", "odd", "value", "many", "text", "nth", "own"] "law" (defScope s_law) f cdv A l s H E)) → (Cx.A (cxOf (L2.CX P w) P w K mg base ["script", "pot", "turn", "odd", "value", "many", "text", "nth", "own"] "law" (defScope s_law) f cdv A l s H E)).guards = some [] → Takes (cxOf (L2.CX P w) P w K mg base ["script", "pot", "turn", "odd", "value", "many", "text", "nth", "own"] "law" (defScope s_law) f cdv A l s H E) (ctOf j.J K mg G HC E).W → PDs (cxOf (L2.CX P w) P w K mg base ["script", "pot", "turn", "odd", "value", "many", "text", "nth", "own"] "law" (defScope s_law) f cdv A l s H E) (ctOf j.J K mg G HC E) (defBody s_law).tail D_law) :
    FnG P w K mg base 6 f fd ["script"] (spLaw K 63) := by
  refine fnG_of F sc_law (fun vs H Q E h => by obtain ⟨a, ns, zz, rfl, _⟩ := h; rfl) fun cdv A l s H vs Q E hr hg h => ?_
  obtain ⟨a, ns, zz, rfl, hns, hok, hz, q⟩ := h
  obtain ⟨far, sl, ej, f1, s0, s1⟩ := jm ns hns
  have tk : Takes (cxOf (L2.CX P w) P w K mg base ["script", "pot", "turn", "odd", "value", "many", "text", "nth", "own"] "law" (defScope s_law) f cdv A l s H E) (ctOf noJar K mg H H E).W := takes_of rfl rfl rfl rfl
  refine ⟨_, pss_cons (ps_set (i := 1) sc_law.nd rfl (by first | exact Or.inl rfl | exact Or.inr rfl) (pe_callG ((cj a ns zz).fn.up (k := 5) (by decide)) hr hg (by rfl) (cj a ns zz).mg (cj a ns zz).kp (cj a ns zz).bi tk (pa_cons (pv 0) pa_nil))) (psP_rest (K := K) (mg := mg) (E := E) fun j G HC jo => rest j jo cdv A l s H G HC E hr hg (takes_of rfl rfl rfl rfl)), ?_⟩
  refine ⟨.ref a, rfl, rfl, fun _ => none, 0, [hdl 0], (fun _ _ e => nomatch e), hok, fun b hb => ⟨rfl, ?_⟩, .cons (.opq ⟨rfl, rfl⟩) .nil, ?_⟩
  · obtain ⟨rfl, hb⟩ := hb
    exact hz hb
  rw [ej]
  intro v G' H' P1 _ rd
  obtain ⟨j, jo, hv, jh⟩ := pot_of P1.sub rd rfl f1 s0 s1
  exact restP_ok jo hv jh rfl q lm

end Zk27
namespace Zk27
open PySem PySem.Spec PyProof.Rows L2 Y
theorem whileI {c : TT} {tb : TS} {D : Ends} {σ : L2.St} {H : Hp} (I J : Nat → Hp → Prop) {m : Nat} (h0 : I m H) (hc : ∀ m H, I m H → ∀ Q : Bool → Hp → Prop, (∀ H1, J m H1 → Q true H1) → (∀ H1, I m H1 → Q false H1) → c σ H Q)
    (hb : ∀ m H1, J m H1 → ∀ N : L2.St → Hp → Prop, (∀ m' H', m' < m → I m' H' → N σ H') → tb { D with nx := N, ct := N, bk := D.nx } σ H1) (hd : ∀ m H1, I m H1 → D.nx σ H1) : tWhile c tb D σ H := by
  refine ⟨fun m σ' H' => σ' = σ ∧ I m H', ⟨m, rfl, h0⟩, ?_⟩
  rintro m σ' H' ⟨rfl, h⟩
  refine hc m H' h _ (fun H1 hj => ?_) fun H1 hi => ?_
  · rw [if_pos rfl]
    refine ⟨fun σ2 H2 => σ2 = σ' ∧ ∃ m', m' < m ∧ I m' H2, fun σ2 H2 ⟨e, m', l, i⟩ => ⟨m', l, e, i⟩, hb m H1 hj _ fun m' H2 l i => ⟨rfl, m', l, i⟩⟩
  · rw [if_neg (by decide)]
    exact hd m H1 hi
theorem ok__law_draw {P : Program} {w : World} {j : PotP} (jo : j.Ok) {K : PySem.W.Frag} {mg : Str → Option Value} {base : Heap} {f : Addr} {fd : FuncData} (z_int : mg "int" = none) (F : Fun K "_law_draw" "_law_draw" s__law_draw f fd) : FnD P w j.J K mg base 1 f fd ["pot", "many"] F__law_draw := by
  refine fnG_of F sc__law_draw (fun vs H Q E h => h.1) fun cdv A l s H vs Q E hr hg h => ?_
  obtain ⟨n, c, rfl, n0, n1, ⟨far, turn, h1, h2, c0, c1, hf⟩, fin⟩ := drawP_in h
  have hu : (A.deeper (envOfC "_law_draw" (defScope s__law_draw) s.heap.objs.size f cdv)).units + 1 < cLine := by have := room200 hr; omega
  have hu64 := room64 hr
  refine ⟨_, pss_cons (ps_while (passes_of rfl) ((pw_and (pt_cmpR (op_neD hu64) (pe_dget hu (pv 0) pe_str (fun _ _ => rfl)) (pe_lst pa_nil) (nomark _)) (pw_and1 (pt_cmpR (op_eqD hu64) (pe_ix ix_list (pe_dget hu (pv 0) pe_str (fun _ _ => rfl)) (pe_un un_neg pe_int) (fun _ _ => rfl)) pe_int (nomark _)))).pt) (pss_one (ps_expr (pe_bm0 PySem.F.plainAttrs_list PySem.F.slot_list_pop PySem.F.type_list_pop mt_pop (pe_dget hu (pv 0) pe_str (fun _ _ => rfl)) rfl rfl))))
    (pss_cons (ps_if (pt_cmpR (op_neD hu64) (pe_dget hu (pv 0) pe_str (fun _ _ => rfl)) (pe_lst pa_nil) (nomark _))
      (pss_cons (ps_set (i := 3) sc__law_draw.nd rfl (.inl rfl) (pe_bm0 PySem.F.plainAttrs_list PySem.F.slot_list_pop PySem.F.type_list_pop mt_pop (pe_dget hu (pv 0) pe_str (fun _ _ => rfl)) rfl rfl))
      (pss_cons (ps_expr (pe_bm PySem.F.plainAttrs_list PySem.F.slot_list_append PySem.F.type_list_append mt_append (pe_dget hu (pv 0) pe_str (fun _ _ => rfl)) (pa_cons (pe_op op_fdiv (pv 3) (pv 1)) pa_nil)))
      (pss_one (ps_ret (pe_callTy call_int1 (by rfl) z_int (by decide +kernel) (pa_cons (pe_op op_mod (pv 3) (pv 1)) pa_nil))))))
      pss_nil)
    (pss_cons (ps_dput hu (pv 0) pe_str (pe_op op_add (pe_dget hu (pv 0) pe_str (fun _ _ => rfl)) pe_int) rfl)
    (pss_cons (ps_set (i := 2) sc__law_draw.nd rfl (.inl rfl) (pe_op op_mod (pe_callTy call_int1 (by rfl) z_int (by decide +kernel) (pa_cons (pe_op op_add (pe_dget hu (pv 0) pe_str (fun _ _ => rfl)) (pe_op op_mul (pe_dget hu (pv 0) pe_str (fun _ _ => rfl)) pe_int)) pa_nil)) pe_int))
    (pss_cons (ps_set (i := 2) sc__law_draw.nd rfl (.inl rfl) (pe_op op_mod (pe_callTy call_int1 (by rfl) z_int (by decide +kernel) (pa_cons (pe_op op_add (pe_op op_add (pe_op op_mul (pv 2) (pv 2)) (pe_op op_mul (pe_dget hu (pv 0) pe_str (fun _ _ => rfl)) pe_int)) pe_int) pa_nil)) pe_int))
    (pss_one (ps_ret (pe_op op_mod (pe_callTy call_int1 (by rfl) z_int (by decide +kernel) (pa_cons (pe_op op_fdiv (pe_op op_mod (pe_callTy call_int1 (by rfl) z_int (by decide +kernel) (pa_cons (pe_op op_add (pe_op op_mul (pv 2) pe_int) (pe_dget hu (pv 0) pe_str (fun _ _ => rfl))) pa_nil)) pe_int) pe_int) pa_nil)) (pv 1)))))))), ?_⟩
  have eqz : ∀ y : Int, PyData.eqv (.int y) (.int 0) = (y == 0) := fun y => by simp [PyData.eqv]
  refine whileI (fun m H' => Kp j.J.fp H H' ∧ ∃ fr : List Int, fr.length = m ∧ H' j.p = some (.dK (potK j.a1 j.st turn)) ∧ H' j.a1 = some (.lst (fr.map .int)) ∧ fr.length ≤ 100)
    (fun m H' => Kp j.J.fp H H' ∧ ∃ fr : List Int, fr.length = m ∧ H' j.p = some (.dK (potK j.a1 j.st turn)) ∧ H' j.a1 = some (.lst (fr.map .int)) ∧ fr.length ≤ 100 ∧ fr ≠ []) (m := far.length) ⟨Kp.refl _ _, far, rfl, h1, h2, hf⟩ ?_ ?_ ?_
  · rintro m H' ⟨k0, fr, hm, h1', h2', hf'⟩ Q' qt qf
    refine ⟨_, rfl, j.p, .ref j.a1, rfl, .inl ⟨_, .inr "far", .inl h1', rfl, rfl⟩, ?_⟩
    refine ⟨by decide, fun q nq => ?_⟩
    have q1 : j.a1 ≠ q := ne_of_none h2' nq
    have q0 : j.p ≠ q := ne_of_none h1' nq
    have k1 : Kp j.J.fp H (upd H' q (.lst [])) := k0.upd (.inr nq)
    have g1 : (upd H' q (.lst [])) j.p = some (.dK (potK j.a1 j.st turn)) := by rw [upd_ne q0]; exact h1'
    have g2 : (upd H' q (.lst [])) j.a1 = some (.lst (fr.map .int)) := by rw [upd_ne q1]; exact h2'
    refine ⟨.list (fr.map .int), .list [], .lst (SqL.of g2) (ints_dp fr), .lst (SqL.of upd_same) .nil, ints_shaped fr, rfl, _, rfl, ?_⟩
    rw [far_ne]
    generalize upd H' q (.lst []) = H1 at *
    cases fr with
    | nil =>
      rw [if_neg (by simp)]
      exact qf H1 ⟨k1, [], hm, g1, g2, by simp⟩
    | cons x r =>
      rw [show (!(x :: r).isEmpty) = true from rfl, if_pos rfl]
      obtain ⟨y, hy⟩ : ∃ y, (x :: r)[r.length]? = some y := ⟨_, List.getElem?_eq_getElem (by simp)⟩
      refine ⟨_, rfl, j.p, .ref j.a1, rfl, .inl ⟨_, .inr "far", .inl g1, rfl, rfl⟩, 1, rfl, j.a1, _, -1, .int y, rfl, rfl, SqL.of g2, ?_, ?_⟩
      · have q : L2.ixN ((x :: r).map V.int).length (-1) = some r.length := by
          rw [List.length_map, List.length_cons]
          unfold L2.ixN; simp; omega
        have q2 : ((x :: r).map V.int)[r.length]? = some (V.int y) := by rw [List.getElem?_map, hy]; rfl
        unfold L2.atI
        simp only [q, Option.bind_some]
        exact q2
      · refine ⟨.int y, .int 0, .int y, .int 0, rfl, rfl, _, rfl, ?_⟩
        · rw [eqz]
          cases y == 0
          · exact qf H1 ⟨k1, x :: r, hm, g1, g2, hf'⟩
          · exact qt H1 ⟨k1, x :: r, hm, g1, g2, hf', by simp⟩
  · rintro m H' ⟨k0, fr, hm, h1', h2', hf', hne⟩ N hN
    obtain ⟨y, hy⟩ : ∃ y, fr[fr.length - 1]? = some y := ⟨_, List.getElem?_eq_getElem (by have := List.length_pos_iff.mpr hne; omega)⟩
    refine ⟨_, rfl, j.p, .ref j.a1, rfl, .inl ⟨_, .inr "far", .inl h1', rfl, rfl⟩, .inl ⟨rfl, _, SqL.of h2'⟩, j.a1, fr.map .int, .int y, rfl, rfl, h2', by rw [List.length_map, List.getElem?_map, hy]; rfl, ?_⟩
    refine hN (fr.length - 1) _ (by have := List.length_pos_iff.mpr hne; omega) ⟨k0.upd (.inl (.inr rfl)), fr.dropLast, by simp, by rw [upd_ne jo.p1]; exact h1', by rw [upd_same, List.map_dropLast], by simp; omega⟩
  · rintro m H' ⟨k0, fr, hm, h1', h2', hf'⟩
    refine ⟨_, rfl, j.p, .ref j.a1, rfl, .inl ⟨_, .inr "far", .inl h1', rfl, rfl⟩, ?_⟩
    refine ⟨by decide, fun q nq => ?_⟩
    have q1 : j.a1 ≠ q := ne_of_none h2' nq
    have q0 : j.p ≠ q := ne_of_none h1' nq
    have k1 : Kp j.J.fp H (upd H' q (.lst [])) := k0.upd (.inr nq)
    have g1 : (upd H' q (.lst [])) j.p = some (.dK (potK j.a1 j.st turn)) := by rw [upd_ne q0]; exact h1'
    have g2 : (upd H' q (.lst [])) j.a1 = some (.lst (fr.map .int)) := by rw [upd_ne q1]; exact h2'
    refine ⟨.list (fr.map .int), .list [], .lst (SqL.of g2) (ints_dp fr), .lst (SqL.of upd_same) .nil, ints_shaped fr, rfl, _, rfl, ?_⟩
    rw [far_ne]
    generalize upd H' q (.lst []) = H1 at *
    by_cases hne : fr = []
    · subst hne
      rw [show (!([] : List Int).isEmpty) = false from rfl]
      -- pot['turn'] = pot['turn'] + 1
      refine ⟨_, rfl, j.p, _, rfl, .inl ⟨_, .inr "turn", .inl g1, rfl, rfl⟩, turn, 1, rfl, rfl, _, rfl, j.p, _, rfl, .inl ⟨_, .inr "turn", g1, rfl, (by show 3 < sizeLine; decide), rfl⟩, ?_⟩
      rw [pot_put]
      have k3 : Kp j.J.fp H (upd H1 j.p (.dK (potK j.a1 j.st (turn + 1)))) := k1.upd (.inl (.inl rfl))
      have e0 : (upd H1 j.p (.dK (potK j.a1 j.st (turn + 1)))) j.p = some (.dK (potK j.a1 j.st (turn + 1))) := upd_same
      have e1 : (upd H1 j.p (.dK (potK j.a1 j.st (turn + 1)))) j.a1 = some (.lst (([] : List Int).map .int)) := by rw [upd_ne (Ne.symm jo.p1)]; exact g2
      generalize (upd H1 j.p (.dK (potK j.a1 j.st (turn + 1)))) = H3 at *
      have jc : j.holds c H3 := ⟨[], turn + 1, e0, e1, by omega, by omega, by decide⟩
      -- one = int(..) % 2147483587
      refine ⟨_, rfl, j.p, _, rfl, .inl ⟨_, .inr "stirred", .inl e0, rfl, rfl⟩, _, rfl, j.p, _, rfl, .inl ⟨_, .inr "turn", .inl e0, rfl, rfl⟩, turn + 1, 40692, rfl, rfl, .inr ⟨by decide, by decide⟩, j.st, _, rfl, rfl, .inl ⟨_, rfl, _, 2147483587, rfl, rfl, (by decide : (0 : Int) < 2147483587), ?_⟩⟩
      dsimp only
      generalize hm1 : (j.st + (turn + 1) * 40692) % 2147483587 = mix
      have b0 : 0 ≤ mix := by rw [← hm1]; exact Int.emod_nonneg _ (by decide)
      have b1 : mix < 2147483587 := by rw [← hm1]; exact Int.emod_lt_of_pos _ (by decide)
      -- one = int(one * one + pot['turn'] * 69621 + 31) % 2147483629
      refine ⟨_, rfl, _, rfl, mix, mix, rfl, rfl, .inl ⟨by omega, by omega⟩, _, rfl, j.p, _, rfl, .inl ⟨_, .inr "turn", .inl e0, rfl, rfl⟩, turn + 1, 69621, rfl, rfl, .inr ⟨by decide, by decide⟩, _, _, rfl, rfl, _, 31, rfl, rfl, .inl ⟨_, rfl, _, 2147483629, rfl, rfl, (by decide : (0 : Int) < 2147483629), ?_⟩⟩
      dsimp only
      generalize hm2 : (mix * mix + (turn + 1) * 69621 + 31) % 2147483629 = mix2
      have d0 : 0 ≤ mix2 := by rw [← hm2]; exact Int.emod_nonneg _ (by decide)
      have d1 : mix2 < 2147483629 := by rw [← hm2]; exact Int.emod_lt_of_pos _ (by decide)
      -- return int(int(one * 16807 + pot['stirred']) % 2147483563 // 256) % many
      refine ⟨_, rfl, mix2, 16807, rfl, rfl, .inr ⟨by decide, by decide⟩, _, rfl, j.p, _, rfl, .inl ⟨_, .inr "stirred", .inl e0, rfl, rfl⟩, _, j.st, rfl, rfl, .inl ⟨_, rfl, _, 2147483563, rfl, rfl, (by decide : (0 : Int) < 2147483563), ?_⟩⟩
      exact ⟨_, 256, rfl, rfl, ⟨by decide, by decide⟩, .inl ⟨_, rfl, _, rfl, _, n, rfl, rfl, n0, fin _ H3 (Int.emod_nonneg _ (by omega)) (Int.emod_lt_of_pos _ n0) k3 jc⟩⟩
    · obtain ⟨y, hy⟩ : ∃ y, fr[fr.length - 1]? = some y := ⟨_, List.getElem?_eq_getElem (by have := List.length_pos_iff.mpr hne; omega)⟩
      rw [show (!fr.isEmpty) = true by simp [hne]]
      -- whole = far.pop()
      refine ⟨_, rfl, j.p, .ref j.a1, rfl, .inl ⟨_, .inr "far", .inl g1, rfl, rfl⟩, .inl ⟨rfl, _, SqL.of g2⟩, j.a1, fr.map .int, .int y, rfl, rfl, g2, by rw [List.length_map, List.getElem?_map, hy]; rfl, ?_⟩
      have k2 : Kp j.J.fp H (upd H1 j.a1 (.lst (fr.map V.int).dropLast)) := k1.upd (.inl (.inr rfl))
      have e0 : (upd H1 j.a1 (.lst (fr.map V.int).dropLast)) j.p = some (.dK (potK j.a1 j.st turn)) := by rw [upd_ne jo.p1]; exact g1
      have e1 : (upd H1 j.a1 (.lst (fr.map V.int).dropLast)) j.a1 = some (.lst (fr.dropLast.map .int)) := by rw [upd_same, List.map_dropLast]
      generalize upd H1 j.a1 (.lst (fr.map V.int).dropLast) = H2 at *
      -- far.append(whole // many)
      refine ⟨_, rfl, j.p, .ref j.a1, rfl, .inl ⟨_, .inr "far", .inl e0, rfl, rfl⟩, .inl ⟨rfl, _, SqL.of e1⟩, _, rfl, _, rfl, y, n, rfl, rfl, ⟨n0, by omega⟩, j.a1, _, _, rfl, rfl, e1, by rw [List.length_map, List.length_dropLast, sizeLine_eq]; omega, ?_⟩
      refine ⟨_, rfl, _, rfl, y, n, rfl, rfl, n0, .inl ⟨_, rfl, ?_⟩⟩
      refine fin _ _ (Int.emod_nonneg _ (by omega)) (Int.emod_lt_of_pos _ n0) (k2.upd (.inl (.inr rfl))) ⟨fr.dropLast ++ [y / n], turn, by rw [upd_ne jo.p1]; exact e0, ?_, c0, by omega, by have := List.length_pos_iff.mpr hne; simp; omega⟩
      rw [upd_same]; simp
end Zk27
namespace Zk27
open PySem PySem.Spec PyProof.Rows L2 Y
/-! ### the pot's mathematics -/
theorem pot_loop (ns : List Int) : ∀ (cs : List Int) (a o : S) (s : Int), 0 ≤ s → s < 2 ^ 33 → ∃ o' s', 0 ≤ s' ∧ s' < 2 ^ 33 ∧ forL (toSlot 2) (B__law_pot_1 ns) (cs.map .int) [a, .dt (.int s), o] = .ret (.nx [a, .dt (.int s'), o'])
  | [], a, o, s, h0, h1 => ⟨o, s, h0, h1, rfl⟩
  | x :: r, a, o, s, h0, h1 => by
    have m1 : pyMul (.int s) (.int 69621) = .ret (.int (s * 69621)) := mul_r (by decide)
    have m2 : pyMul (.int 13) (.int x) = .ret (.int (13 * x)) := mul_l (by decide)
    have e : B__law_pot_1 ns [a, .dt (.int s), .dt (.int x)] = .ret (.nx [a, .dt (.int ((s * 69621 + 13 * x + 5) % 2147483629)), .dt (.int x)]) := by
      simp [B__law_pot_1, m1, m2]
    obtain ⟨o', s', q0, q1, q⟩ := pot_loop ns r a (.dt (.int x)) ((s * 69621 + 13 * x + 5) % 2147483629) (Int.emod_nonneg _ (by decide)) (by have := Int.emod_lt_of_pos (s * 69621 + 13 * x + 5) (show (0 : Int) < 2147483629 by decide); omega)
    exact ⟨o', s', q0, q1, (forL_step rfl e).trans q⟩
def absI (x : Int) : Int := if x < 0 then -x else x
theorem cut60 (ns : List Int) : Y.cutD (ns.map PyData.int) none (some 60) = (ns.take 60).map .int := by
  have := cut_hd (ns.map PyData.int) 60
  rw [List.map_take]
  exact this
theorem jar_math (ns : List Int) (h : ns.length ≤ 63) : PotMath (F__law_pot ns) := by
  have hc := cut60 ns
  have hl : (ns.take 60).length ≤ 60 := by simp; omega
  generalize ns.take 60 = cs at *
  obtain ⟨o', s', s0, s1, lp⟩ := pot_loop ns cs (.dt (hdl 0)) .un (15782 + 61 * cs.length) (by omega) (by omega)
  have c2 : lcL (toSlot 2) (C__law_pot_2 ns) (E__law_pot_2 ns) (cs.map .int) [.dt (hdl 0), .dt (.int s'), .un] = .ret ((((cs.filter fun x => decide (10 ^ 12 < absI x))).map absI).map .int) := by
    refine (lcL_pure (fun d => match d with | .int x => decide (10 ^ 12 < absI x) | _ => false) (fun d => match d with | .int x => .int (absI x) | d => d) fun d hd => ?_).trans ?_
    · obtain ⟨x, _, rfl⟩ := List.mem_map.mp hd
      have e : pyPow (.int 10) (.int 12) = .ret (.int (10 ^ 12)) := by rfl
      exact ⟨_, rfl, by simp [C__law_pot_2, e, absI]; congr, fun _ => by simp [E__law_pot_2, absI]⟩
    · rw [List.filter_map, List.map_map, List.map_map]
      rfl
  refine ⟨(((cs.filter fun x => decide (10 ^ 12 < absI x))).map absI).reverse, s', run_rt ?_, ?_, s0, s1⟩
  · have e0 : ini 3 [hdl 0] = [.dt (hdl 0), .un, .un] := rfl
    have hs : isScr (hdl 0) = true := rfl
    have hz : cs.length ≤ sizeLine := size15 (by omega)
    have hm : pyMul (.int 61) (.int cs.length) = .ret (.int (61 * cs.length)) := mul_l (by decide)
    rw [e0]
    simp [D__law_pot, lcD, wipeR, hs, scrSl, hc, hz, hm, noP, asInt, asData, pyRevL] at c2 lp ⊢
    simp [c2, lp, potD, keyD, hz, dispD, dispT, pyRevL, asData, hs]
  · rw [List.length_reverse, List.length_map]
    exact Nat.le_trans (List.length_filter_le _ _) (by omega)
end Zk27
namespace Zk27
open PySem PySem.Spec PyProof.Rows L2 Y
theorem pick_eq {ds : List D} : F__law_pick [hdl 0, .list ds] = .draw ds.length fun r => pyIx (.list ds) (.int r) := by
  show Y.run 2 D__law_pick [hdl 0, .list ds] = _
  unfold D__law_pick
  rw [run_retS]
  have e0 : ini 2 [hdl 0, .list ds] = [.dt (hdl 0), .dt (.list ds)] := rfl
  rw [e0]
  simp [F__law_draw]
theorem pick_ok {ds : List D} (h0 : 0 < ds.length) (h1 : ds.length < 1000) : Tl (F__law_pick [hdl 0, .list ds]) 1 fun d => d ∈ ds := by
  rw [pick_eq]
  refine Tl.dr (by omega) (by omega) (by decide) fun r r0 r1 => ?_
  obtain ⟨d, hd, e⟩ := ix_in r0 r1
  rw [e]
  exact .ret hd
end Zk27
namespace Zk27
open PySem PySem.Spec PyProof.Rows L2 Y
/-! ### standings -/
structure Hs where
  left : List (Str × Int)
  ph : Str
  mr : Str
structure Sg where
  tok : Int
  row : List Nat
  sts : List Hs
def deD (d : Str × Int) : D := .tuple [.str d.1, .int d.2]
def leD (l : List (Str × Int)) : D := .tuple (l.map deD)
def stD (s : Hs) : D := .tuple [leD s.left, .str s.ph, .str s.mr]
def roL (r : List Nat) : List D := r.map fun i : Nat => .int (i : Int)
def roD (r : List Nat) : D := .tuple (roL r)
def ssD (l : List Hs) : D := .tuple (l.map stD)
def sgD (g : Sg) : D := .tuple [.int g.tok, roD g.row, ssD g.sts]
/-- a book, as the law reads it -/
structure BkW (b : D) (w : Nat → Str) : Prop where
  ix : ∀ i : Nat, i < 10 → pyIx b (.int (i : Int)) = .ret (.str (w i))
  ok : ∀ i, PyData.strOk (w i) = true
  m3 : w 3 = "one" ∨ w 3 = "each" ∨ w 3 = "all"
/-! pieces -/
theorem ss_ix {ss : List Hs} {h : Nat} {s : Hs} (e : ss[h]? = some s) : pyIx (ssD ss) (.int (h : Int)) = .ret (stD s) := ix_t (by rw [List.getElem?_map, e]; rfl)
theorem st_0 (s : Hs) : pyIx (stD s) (.int 0) = .ret (leD s.left) := rfl
theorem st_1 (s : Hs) : pyIx (stD s) (.int 1) = .ret (.str s.ph) := rfl
theorem st_2 (s : Hs) : pyIx (stD s) (.int 2) = .ret (.str s.mr) := rfl
theorem le_0 (d : Str × Int) (l : List (Str × Int)) : pyIx (leD (d :: l)) (.int 0) = .ret (deD d) := ix_t (i := 0) rfl
theorem de_0 (d : Str × Int) : pyIx (deD d) (.int 0) = .ret (.str d.1) := rfl
theorem de_1 (d : Str × Int) : pyIx (deD d) (.int 1) = .ret (.int d.2) := rfl
theorem sg_0 (g : Sg) : pyIx (sgD g) (.int 0) = .ret (.int g.tok) := rfl
theorem sg_1 (g : Sg) : pyIx (sgD g) (.int 1) = .ret (roD g.row) := rfl
theorem sg_2 (g : Sg) : pyIx (sgD g) (.int 2) = .ret (ssD g.sts) := rfl
theorem ss_hd (ss : List Hs) (h : Nat) : pySl (ssD ss) none (some (h : Int)) = .ret (.tuple ((ss.take h).map stD)) := by
  have := sl_hd (ds := ss.map stD) (i := h)
  rw [List.map_take]; exact this
theorem ss_tl (ss : List Hs) (h : Nat) : pySl (ssD ss) (some ((h : Int) + 1)) none = .ret (.tuple ((ss.drop (h + 1)).map stD)) := by
  have := sl_tl (ds := ss.map stD) (i := h + 1)
  rw [List.map_drop]; exact this
theorem le_tl (l : List (Str × Int)) : pySl (leD l) (some 1) none = .ret (leD l.tail) := by
  have := sl_tl (ds := l.map deD) (i := 1)
  have e : leD l.tail = .tuple ((l.map deD).drop 1) := by unfold leD; rw [List.drop_one, List.map_tail]
  rw [e]; exact this
def overS (t : Int) (r : List Nat) (ss : List Hs) (h : Nat) (s : Hs) : Sg := ⟨t, r, ss.set h ⟨s.left.tail, "free", "no"⟩⟩
theorem ro_ne (r : List Nat) : pyNe (roD r) (.tuple []) = .ret (.bool (!r.isEmpty)) := by
  unfold pyNe
  have sh : SeqAt.shaped (roD r) = true := by
    have hl : PyData.canLayAll0 (roL r) = true := by
      unfold roL
      induction r with
      | nil => rfl
      | cons a r ih => exact ih
    have hd : PyData.depthAll (roL r) ≤ 1 := by
      clear hl
      unfold roL
      induction r with
      | nil => simp [PyData.depthAll]
      | cons a r ih =>
        simp [PyData.depthAll, PyData.depth] at ih ⊢
        exact ih
    unfold SeqAt.shaped
    rw [Bool.and_eq_true]
    exact ⟨hl, decide_eq_true (by simp only [roD, PyData.depth]; omega)⟩
  rw [ask_t ⟨sh, rfl⟩]
  cases r with
  | nil => rfl
  | cons a r => simp [roD, roL, PyData.eqv, PyData.eqvAll]
end Zk27
namespace Zk27
open PySem PySem.Spec PyProof.Rows L2 Y
def gotS (w : Nat → Str) (t : Int) (r : List Nat) (ss : List Hs) (h : Nat) (s : Hs) : Sg :=
  if !(w 6 == "never") && (decide (0 < t) && !r.isEmpty) then ⟨t, r, ss.set h ⟨s.left, "passing", "no"⟩⟩ else overS t r ss h s
theorem ok_w {x : Str} (h : PyData.strOk x = true) (y : Str) (hy : PyData.strOk y = true := by decide +kernel) : pyEq (.str x) (.str y) = .ret (.bool (x == y)) := eq_s h hy
theorem nok_w {x : Str} (h : PyData.strOk x = true) (y : Str) (hy : PyData.strOk y = true := by decide +kernel) : pyNe (.str x) (.str y) = .ret (.bool (!(x == y))) := ne_s h hy
def rowB (w : Nat → Str) (r : List Nat) (h : Nat) : List Nat := if w 5 == "back" then r ++ [h] else h :: r
def phB (w : Nat → Str) : Str := if w 0 == "ahead" then "noted" else "asleep"
def backS (w : Nat → Str) (t : Int) (r : List Nat) (ss : List Hs) (h : Nat) (s : Hs) : Sg := ⟨t, rowB w r h, ss.set h ⟨s.left, phB w, "no"⟩⟩
theorem ro_app {r : List Nat} {h : Nat} (h5 : r.length ≤ 100) : pyAdd (roD r) (.tuple [.int (h : Int)]) = .ret (roD (r ++ [h])) := by
  have := add_t (xs := roL r) (ys := [.int (h : Int)]) (by unfold roL; simp; omega)
  have e : roD (r ++ [h]) = .tuple (roL r ++ [.int (h : Int)]) := by unfold roD roL; simp
  rw [e]; exact this
theorem ro_cons {r : List Nat} {h : Nat} (h5 : r.length ≤ 100) : pyAdd (.tuple [.int (h : Int)]) (roD r) = .ret (roD (h :: r)) := by
  have := add_t (xs := [.int (h : Int)]) (ys := roL r) (by unfold roL; simp; omega)
  exact this
theorem ro_seq (r : List Nat) : seqOf (roD r) = .ret (roL r) := rfl
end Zk27
namespace Zk27
open PySem PySem.Spec PyProof.Rows L2 Y
def onS (w : Nat → Str) (g : Sg) (h : Nat) (s : Hs) (d : Str × Int) : Sg :=
  if s.ph == "free" && d.1 == "put" then ⟨g.tok + (if w 2 == "first" then d.2 else 0), g.row, g.sts.set h ⟨s.left, "calling", "no"⟩⟩
  else if s.ph == "free" then (if decide (d.2 ≤ g.tok) && (w 8 == "free" || g.row.isEmpty) then overS (g.tok - d.2) g.row g.sts h s else ⟨g.tok, g.row, g.sts.set h ⟨s.left, "late", "no"⟩⟩)
  else if s.ph == "late" then ⟨g.tok, g.row ++ [h], g.sts.set h ⟨s.left, phB w, "no"⟩⟩
  else if s.ph == "storing" then overS (g.tok + d.2) g.row g.sts h s
  else if s.ph == "lying" then ⟨g.tok, g.row, g.sts.set h ⟨s.left, if !(s.mr == "no") && w 1 == "kept" then "woken" else "asleep", s.mr⟩⟩
  else if s.mr == "given" then gotS w g.tok g.row g.sts h s
  else if s.ph == "noted" then
    (if decide (d.2 ≤ g.tok) && (w 8 == "free" || (!g.row.contains h || g.row.head? == some h)) then
      (if s.mr == "called" then gotS w (g.tok - d.2) (g.row.filter fun i => !(i == h)) g.sts h s else overS (g.tok - d.2) (g.row.filter fun i => !(i == h)) g.sts h s)
    else ⟨g.tok, g.row, g.sts.set h ⟨s.left, "lying", s.mr⟩⟩)
  else if w 4 == "takes" || decide (d.2 ≤ g.tok) then gotS w (g.tok - d.2) g.row g.sts h s
  else if w 6 == "always" && (decide (0 < g.tok) && !g.row.isEmpty) then ⟨g.tok, g.row, g.sts.set h ⟨s.left, "yielding", "no"⟩⟩
  else backS w g.tok g.row g.sts h s
theorem ro_lay (r : List Nat) : PyData.canLayAll0 (roL r) = true := by
  unfold roL
  induction r with
  | nil => rfl
  | cons a r ih => exact ih
theorem in_ro (neg : Bool) (r : List Nat) (h : Nat) : inD neg (.int (h : Int)) (roD r) = .ret (.bool (r.contains h != neg)) := by
  show Y.ask (SeqAt.shaped (.int (h : Int)) = true ∧ PyData.canLayAll0 (roL r) = true) _ = _
  rw [ask_t ⟨rfl, ro_lay r⟩]
  congr 2
  have e : ((roL r).any fun z => PyData.eqv z (.int (h : Int))) = r.contains h := by
    unfold roL
    induction r with
    | nil => rfl
    | cons a r ih =>
      rw [List.map_cons, List.any_cons, ih, List.contains_cons]
      congr 1
      simp [PyData.eqv]
      rw [Bool.eq_iff_iff]; simp; omega
  rw [e]
theorem ro_eq (r : List Nat) : pyEq (roD r) (.tuple []) = .ret (.bool r.isEmpty) := by
  have h := ro_ne r
  unfold pyNe at h
  unfold pyEq
  by_cases q : SeqAt.shaped (roD r) = true ∧ SeqAt.shaped (.tuple []) = true
  · rw [ask_t q] at h ⊢
    simp only [T.ret.injEq, PyData.bool.injEq] at h
    congr 2
    cases h1 : PyData.eqv (roD r) (.tuple []) <;> rw [h1] at h <;> cases h2 : r.isEmpty <;> rw [h2] at h <;> simp_all
  · unfold Y.ask at h
    rw [if_neg q] at h
    cases h
theorem ro_hd {r : List Nat} {h : Nat} (hc : r.contains h = true) : ∃ a, r.head? = some a ∧ pyIx (roD r) (.int 0) = .ret (.int (a : Int)) := by
  cases r with
  | nil => cases hc
  | cons a r => exact ⟨a, rfl, ix_t (i := 0) rfl⟩
/-- a hand that has a deed -/
structure At (g : Sg) (h : Nat) (s : Hs) (d : Str × Int) : Prop where
  e : g.sts[h]? = some s
  l : ∃ r, s.left = d :: r
  ps : PyData.strOk s.ph = true
  ms : PyData.strOk s.mr = true
  ds : PyData.strOk d.1 = true
  n5 : g.sts.length ≤ 10
  nr : g.row.length ≤ 100
end Zk27
namespace Zk27
open PySem PySem.Spec PyProof.Rows L2 Y
def awayS (w : Nat → Str) (g : Sg) (h : Nat) (s : Hs) (d : Str × Int) : Sg :=
  if !(s.mr == "no") && (w 7 == "passes" && !(g.row.filter fun i => !(i == h)).isEmpty) then ⟨g.tok + (if s.mr == "given" then d.2 else 0), g.row.filter fun i => !(i == h), g.sts.set h ⟨s.left, "passing", "no"⟩⟩
  else overS (g.tok + (if s.mr == "given" then d.2 else 0)) (g.row.filter fun i => !(i == h)) g.sts h s
def wantOf (s : Hs) : Int := (s.left.head?.map (·.2)).getD 0
def calledS (w : Nat → Str) (s : Hs) : Hs := ⟨s.left, if s.ph == "asleep" then "woken" else s.ph, if w 4 == "given" then "given" else "called"⟩
def callOne (w : Nat → Str) (g : Sg) (o : Nat) : Sg := match g.sts[o]? with
  | some s => ⟨g.tok - (if w 4 == "given" then wantOf s else 0), g.row.filter fun i => !(i == o), g.sts.set o (calledS w s)⟩
  | none => g
def callsS (w : Nat → Str) (g : Sg) (lot : List Nat) : Sg := lot.foldl (callOne w) g
def endS (w : Nat → Str) (g : Sg) (h : Nat) (s : Hs) : Sg :=
  if s.ph == "yielding" then backS w g.tok g.row g.sts h s
  else if s.ph == "calling" && w 2 == "last" then ⟨g.tok, g.row, g.sts.set h ⟨s.left, "storing", "no"⟩⟩
  else overS g.tok g.row g.sts h s
inductive Mv where
  | on (h : Nat)
  | away (h : Nat)
  | call (h : Nat) (lot : List Nat)
def mvD : Mv → D
  | .on h => .tuple [.int (h : Int), .str "on"]
  | .away h => .tuple [.int (h : Int), .str "away"]
  | .call h lot => .tuple ([.int (h : Int), .str "call"] ++ roL lot)
theorem on_x : pyEq (.str "on") (.str "on") = .ret (.bool true) := eq_s (by decide +kernel) (by decide +kernel)
theorem aw_on : pyEq (.str "away") (.str "on") = .ret (.bool false) := (eq_s (by decide +kernel) (by decide +kernel)).trans (by rfl)
theorem aw_aw : pyEq (.str "away") (.str "away") = .ret (.bool true) := eq_s (by decide +kernel) (by decide +kernel)
theorem ca_on : pyEq (.str "call") (.str "on") = .ret (.bool false) := (eq_s (by decide +kernel) (by decide +kernel)).trans (by rfl)
theorem ca_aw : pyEq (.str "call") (.str "away") = .ret (.bool false) := (eq_s (by decide +kernel) (by decide +kernel)).trans (by rfl)
end Zk27
namespace Zk27
open PySem PySem.Spec PyProof.Rows L2 Y
theorem asgG_l {gg : D → Rho → Option Rho} {f : Rho → T D} {ρ : Rho} : asgG gg f ρ = atT (f ρ) (fun d => match gg d ρ with | some ρ' => .ret (.nx ρ') | none => .bad) ρ := by
  unfold asgG
  rw [atS_eq] <;> congr 1
/-- what holds of a standing: bounds and plain texts -/
structure Gs (g : Sg) : Prop where
  n5 : g.sts.length ≤ 10
  nr : g.row.length ≤ 100
  so : ∀ s ∈ g.sts, PyData.strOk s.ph = true ∧ PyData.strOk s.mr = true ∧ ∀ d ∈ s.left, PyData.strOk d.1 = true
def Lv (g : Sg) (o : Nat) : Prop := ∃ s d l, g.sts[o]? = some s ∧ s.left = d :: l
theorem Gs.at {g : Sg} (G : Gs g) {h : Nat} {s : Hs} {d : Str × Int} {l : List (Str × Int)} (e : g.sts[h]? = some s) (hl : s.left = d :: l) : At g h s d := by
  obtain ⟨p, m, q⟩ := G.so s (List.mem_of_getElem? e)
  exact ⟨e, ⟨l, hl⟩, p, m, q d (by rw [hl]; exact List.mem_cons_self), G.n5, G.nr⟩
theorem strOk_c : PyData.strOk "woken" = true ∧ PyData.strOk "given" = true ∧ PyData.strOk "called" = true := by decide +kernel
theorem called_ok {w : Nat → Str} {s : Hs} (h : PyData.strOk s.ph = true) : PyData.strOk (calledS w s).ph = true ∧ PyData.strOk (calledS w s).mr = true := by
  unfold calledS
  obtain ⟨a, b, c⟩ := strOk_c
  refine ⟨?_, ?_⟩
  · show PyData.strOk (if s.ph == "asleep" then _ else _) = true
    split
    · exact a
    · exact h
  · show PyData.strOk (if w 4 == "given" then _ else _) = true
    split
    · exact b
    · exact c
theorem callOne_gs {w : Nat → Str} {g : Sg} {o : Nat} (G : Gs g) : Gs (callOne w g o) := by
  unfold callOne
  cases e : g.sts[o]? with
  | none => exact G
  | some s =>
    refine ⟨by simp; exact G.n5, Nat.le_trans (List.length_filter_le _ _) G.nr, fun x hx => ?_⟩
    rcases List.mem_or_eq_of_mem_set hx with h | rfl
    · exact G.so x h
    · obtain ⟨p, _, q⟩ := G.so s (List.mem_of_getElem? e)
      exact ⟨(called_ok p).1, (called_ok p).2, q⟩
theorem callOne_lv {w : Nat → Str} {g : Sg} {o i : Nat} (h : Lv g i) : Lv (callOne w g o) i := by
  unfold callOne
  cases e : g.sts[o]? with
  | none => exact h
  | some s =>
    obtain ⟨s', d, l, e1, e2⟩ := h
    by_cases hio : o = i
    · subst hio
      rw [e] at e1
      cases e1
      refine ⟨calledS w s, d, l, ?_, e2⟩
      exact (List.getElem?_set_self (List.getElem?_eq_some_iff.mp e).1)
    · exact ⟨s', d, l, by show (g.sts.set o _)[i]? = _; rw [List.getElem?_set_ne hio]; exact e1, e2⟩
end Zk27
namespace Zk27
open PySem PySem.Spec PyProof.Rows L2 Y
theorem callOne_other {w : Nat → Str} {g : Sg} {o i : Nat} (h : o ≠ i) : (callOne w g o).sts[i]? = g.sts[i]? := by
  unfold callOne
  cases e : g.sts[o]? with
  | none => rfl
  | some s => exact List.getElem?_set_ne h
theorem callOne_row {w : Nat → Str} {g : Sg} {o i : Nat} (h : i ∈ (callOne w g o).row) : i ∈ g.row := by
  unfold callOne at h
  cases e : g.sts[o]? with
  | none => rw [e] at h; exact h
  | some s => rw [e] at h; exact (List.mem_filter.mp h).1
theorem calls_gs {w : Nat → Str} : ∀ (lot : List Nat) {g : Sg}, Gs g → Gs (callsS w g lot)
  | [], _, G => G
  | o :: lot, _, G => calls_gs lot (callOne_gs G)
theorem calls_other {w : Nat → Str} : ∀ (lot : List Nat) {g : Sg} {i : Nat}, i ∉ lot → (callsS w g lot).sts[i]? = g.sts[i]?
  | [], _, _, _ => rfl
  | o :: lot, g, i, h => by
    rw [List.mem_cons, not_or] at h
    exact (calls_other lot h.2).trans (callOne_other fun z => h.1 z.symm)
end Zk27
namespace Zk27
open PySem PySem.Spec PyProof.Rows L2 Y
theorem roL_len (r : List Nat) : (roL r).length = r.length := List.length_map _
/-- the first ones of a row that can be given what they want -/
def fitP (wt : Nat → Int) : Int → List Nat → List Nat
  | _, [] => []
  | tk, o :: os => if tk < wt o then [] else o :: fitP wt (tk - wt o) os
/-- each can be given what it wants, one behind another -/
def AffP (wt : Nat → Int) : Int → List Nat → Prop
  | _, [] => True
  | tk, o :: os => wt o ≤ tk ∧ AffP wt (tk - wt o) os
theorem fit_aff (wt : Nat → Int) : ∀ (os : List Nat) (tk : Int), AffP wt tk (fitP wt tk os)
  | [], _ => trivial
  | o :: os, tk => by
    unfold fitP
    split
    · trivial
    · exact ⟨by omega, fit_aff wt os _⟩
theorem fit_pre (wt : Nat → Int) : ∀ (os : List Nat) (tk : Int), fitP wt tk os = os.take (fitP wt tk os).length
  | [], _ => rfl
  | o :: os, tk => by
    unfold fitP
    split
    · rfl
    · rw [List.length_cons, List.take_succ_cons, ← fit_pre wt os _]
theorem fit_len (wt : Nat → Int) (os : List Nat) (tk : Int) : (fitP wt tk os).length ≤ os.length := by
  rw [fit_pre wt os tk, List.length_take]
  omega
theorem fit_stop (wt : Nat → Int) : ∀ (os : List Nat) (tk : Int), (fitP wt tk os).length = os.length ∨ ∃ x, os[(fitP wt tk os).length]? = some x ∧ tk - ((fitP wt tk os).map wt).sum < wt x
  | [], _ => .inl rfl
  | o :: os, tk => by
    unfold fitP
    split
    · exact .inr ⟨o, rfl, by simpa using ‹_›⟩
    · rcases fit_stop wt os (tk - wt o) with h | ⟨x, h1, h2⟩
      · exact .inl (by rw [List.length_cons, List.length_cons, h])
      · exact .inr ⟨x, by rw [List.length_cons, List.getElem?_cons_succ]; exact h1, by rw [List.map_cons, List.sum_cons]; omega⟩
end Zk27
namespace Zk27
open PySem PySem.Spec PyProof.Rows L2 Y
theorem alike_ro : ∀ (r r' : List Nat), PySem.W.alikeAll (roL r) (roL r') = true
  | [], r' => by show PySem.W.alikeAll [] (roL r') = true; simp [PySem.W.alikeAll]
  | _ :: _, [] => rfl
  | a :: r, b :: r' => by
    show (PySem.W.alike (.int (a : Int)) (.int (b : Int)) && PySem.W.alikeAll (roL r) (roL r')) = true
    rw [alike_ro r r']
    rfl
theorem nd_ro (r : List Nat) : PyData.hasDictAll (roL r) = false := by
  unfold roL
  induction r with
  | nil => rfl
  | cons a r ih => show (false || PyData.hasDictAll (r.map _)) = false; rw [ih]; rfl
theorem dp_ro (r : List Nat) : PyData.depthAll (roL r) ≤ 1 := by
  unfold roL
  induction r with
  | nil => simp [PyData.depthAll]
  | cons a r ih =>
    simp [PyData.depthAll, PyData.depth] at ih ⊢
    exact ih
theorem of_roD {ls : List (List Nat)} : ∀ {ds : List D}, (∀ d ∈ ds, ∃ l ∈ ls, d = roD l) → ∃ ls' : List (List Nat), ds = ls'.map roD ∧ ∀ l ∈ ls', l ∈ ls
  | [], _ => ⟨[], rfl, fun _ h => nomatch h⟩
  | d :: ds, h => by
    obtain ⟨l, hl, rfl⟩ := h d List.mem_cons_self
    obtain ⟨ls', e, q⟩ := of_roD fun d hd => h d (List.mem_cons_of_mem _ hd)
    refine ⟨l :: ls', by rw [e]; rfl, fun x hx => ?_⟩
    rcases List.mem_cons.mp hx with rfl | hx
    · exact hl
    · exact q x hx
theorem of_ints {r : List Nat} : ∀ {ds : List D}, (∀ d ∈ ds, ∃ i ∈ r, d = .int ((i : Nat) : Int)) → ∃ r' : List Nat, ds = roL r' ∧ ∀ i ∈ r', i ∈ r
  | [], _ => ⟨[], rfl, fun _ h => nomatch h⟩
  | d :: ds, h => by
    obtain ⟨i, hi, rfl⟩ := h d List.mem_cons_self
    obtain ⟨r', e, q⟩ := of_ints fun d hd => h d (List.mem_cons_of_mem _ hd)
    refine ⟨i :: r', by rw [e]; rfl, fun x hx => ?_⟩
    rcases List.mem_cons.mp hx with rfl | hx
    · exact hi
    · exact q x hx
theorem le_nat (a b : Nat) : PySem.W.dataLe false id (PyData.int (a : Int)) (PyData.int (b : Int)) = decide (a ≤ b) := by
  show (!PySem.W.dataLt (.int (b : Int)) (.int (a : Int))) = _
  rw [PySem.W.dataLt_int, PySem.W.not_lt_int]
  by_cases h : a ≤ b
  · rw [decide_eq_true h, decide_eq_true (by omega)]
  · rw [decide_eq_false h, decide_eq_false (by omega)]
def srtN (r : List Nat) : List Nat := r.mergeSort fun a b => decide (a ≤ b)
theorem srtN_perm (r : List Nat) : (srtN r).Perm r := List.mergeSort_perm _ _
theorem srtN_le (r : List Nat) : (srtN r).Pairwise (· ≤ ·) := by
  have h := List.pairwise_mergeSort (le := fun a b : Nat => decide (a ≤ b)) (fun a b c h1 h2 => by simp at h1 h2 ⊢; omega) (fun a b => by simp; omega) r
  exact h.imp fun h => by simpa using h
theorem srtN_lt {r : List Nat} (nd : r.Nodup) : (srtN r).Pairwise (· < ·) := by
  have h1 := srtN_le r
  have h2 : (srtN r).Nodup := (srtN_perm r).nodup_iff.mpr nd
  exact (List.Pairwise.and h1 h2).imp fun ⟨a, b⟩ => Nat.lt_of_le_of_ne a b
theorem sort_ints (r : List Nat) : sortedX (roD r) = .ret (.list (roL (srtN r))) := by
  have e : sortL (roL r) = roL (srtN r) := by
    unfold sortL roL srtN
    exact (List.map_mergeSort fun a _ b _ => (le_nat a b).symm).symm
  have h1 : alikeL (roL r) = true := by
    unfold alikeL
    rw [List.all_eq_true]
    intro d hd
    rw [List.all_eq_true]
    intro d' hd'
    obtain ⟨i, _, rfl⟩ := List.mem_map.mp hd
    obtain ⟨j, _, rfl⟩ := List.mem_map.mp hd'
    rfl
  have h2 : sortB (roL r) = true := by
    unfold sortB
    rw [Bool.or_eq_true]
    refine .inr ?_
    rw [List.all_eq_true]
    intro d hd
    obtain ⟨i, _, rfl⟩ := List.mem_map.mp hd
    rfl
  show Y.ask _ _ = _
  rw [ask_t ⟨h1, h2, nd_ro r, Nat.le_trans (dp_ro r) (by decide)⟩, e]
theorem sort_ros {ls : List (List Nat)} (h : (∀ l ∈ ls, l ≠ []) ∨ ls.length ≤ 1) : ∃ ls' : List (List Nat), sortedX (.list (ls.map roD)) = .ret (.list (ls'.map roD)) ∧ (∀ l ∈ ls', l ∈ ls) ∧ ls'.length = ls.length ∧ ls'.map roD = sortL (ls.map roD) := by
  have pm : (sortL (ls.map roD)).Perm (ls.map roD) := List.mergeSort_perm _ _
  obtain ⟨ls', e, q⟩ := of_roD (ls := ls) (ds := sortL (ls.map roD)) fun d hd => by
    obtain ⟨l, hl, rfl⟩ := List.mem_map.mp (pm.mem_iff.mp hd)
    exact ⟨l, hl, rfl⟩
  have al : alikeL (ls.map roD) = true := by
    unfold alikeL
    rw [List.all_eq_true]
    intro d hd
    rw [List.all_eq_true]
    intro d' hd'
    obtain ⟨i, _, rfl⟩ := List.mem_map.mp hd
    obtain ⟨j, _, rfl⟩ := List.mem_map.mp hd'
    exact alike_ro i j
  have nd : PyData.hasDictAll (ls.map roD) = false := by
    clear h pm e q al
    induction ls with
    | nil => rfl
    | cons a r ih =>
      show (PyData.hasDictAll (roL a) || PyData.hasDictAll (r.map roD)) = false
      rw [nd_ro, ih]; rfl
  have dp : PyData.depthAll (ls.map roD) ≤ 50 := by
    clear h pm e q al nd
    induction ls with
    | nil => simp [PyData.depthAll]
    | cons a r ih =>
      have := dp_ro a
      show max (PyData.depthAll (roL a) + 1) (PyData.depthAll (r.map roD)) ≤ 50
      omega
  refine ⟨ls', ?_, q, ?_, e.symm⟩
  · by_cases h1 : oneB (ls.map roD) = true
    · show (if oneB (ls.map roD) then _ else _) = _
      rw [if_pos h1, ask_t ⟨al, nd, dp⟩, e]
    · show (if oneB (ls.map roD) then _ else _) = _
      rw [if_neg h1]
      show Y.ask _ _ = _
      have h2 : ∀ l ∈ ls, l ≠ [] := by
        rcases h with h | h
        · exact h
        · exfalso
          apply h1
          unfold oneB
          rw [Bool.and_eq_true, List.all_eq_true]
          refine ⟨decide_eq_true (by rw [List.length_map]; exact h), fun d hd => ?_⟩
          obtain ⟨l, _, rfl⟩ := List.mem_map.mp hd
          rfl
      have h3 : sortB (ls.map roD) = true := by
        unfold sortB
        rw [Bool.or_eq_true]
        refine .inl ?_
        rw [List.all_eq_true]
        intro d hd
        obtain ⟨l, hl, rfl⟩ := List.mem_map.mp hd
        cases l with
        | nil => exact absurd rfl (h2 _ hl)
        | cons a r => rfl
      rw [ask_t ⟨al, h3, nd, dp⟩, e]
  · have := pm.length_eq
    rw [e, List.length_map, List.length_map] at this
    exact this
/-! rounds in any order, by marks -/
/-- all lots of some hands, those without the last one first -/
def lotsF : List (List Nat) → List Nat → List (List Nat)
  | ls, [] => ls
  | ls, o :: os => lotsF (ls ++ ls.map fun l => l ++ [o]) os
theorem lots_mem : ∀ (os : List Nat) {ls : List (List Nat)} {l : List Nat}, l ∈ lotsF ls os → ∃ l0 ∈ ls, ∃ t, t.Sublist os ∧ l = l0 ++ t
  | [], _, l, h => ⟨l, h, [], List.Sublist.refl _, by simp⟩
  | o :: os, ls, l, h => by
    obtain ⟨l0, h0, t, ht, rfl⟩ := lots_mem os h
    rcases List.mem_append.mp h0 with h1 | h1
    · exact ⟨l0, h1, t, ht.cons o, rfl⟩
    · obtain ⟨l1, h2, rfl⟩ := List.mem_map.mp h1
      exact ⟨l1, h2, o :: t, ht.cons_cons o, by simp⟩
theorem mem_lots : ∀ (os : List Nat) {ls : List (List Nat)} {l0 t : List Nat}, l0 ∈ ls → t.Sublist os → l0 ++ t ∈ lotsF ls os
  | [], ls, l0, t, h, ht => by
    have : t = [] := List.sublist_nil.mp ht
    subst this
    simpa [lotsF] using h
  | o :: os, ls, l0, t, h, ht => by
    cases ht with
    | cons _ ht => exact mem_lots os (List.mem_append_left _ h) ht
    | cons_cons _ ht =>
      rename_i t
      have q := mem_lots os (ls := ls ++ ls.map fun l => l ++ [o]) (l0 := l0 ++ [o]) (List.mem_append_right _ (List.mem_map.mpr ⟨l0, h, rfl⟩)) ht
      rw [List.append_assoc] at q
      exact q
theorem lots_len : ∀ (os : List Nat) (ls : List (List Nat)), (lotsF ls os).length = ls.length * 2 ^ os.length
  | [], ls => by simp [lotsF]
  | o :: os, ls => by
    show (lotsF (ls ++ ls.map fun l => l ++ [o]) os).length = _
    rw [lots_len os, List.length_append, List.length_map, List.length_cons, Nat.pow_succ]
    rw [show ls.length + ls.length = ls.length * 2 by omega, Nat.mul_assoc, Nat.mul_comm 2]
end Zk27
namespace Zk27
open PySem PySem.Spec PyProof.Rows L2 Y
theorem q_pop {i : Nat} {gg : D → Rho → Option Rho} {K : Rho → T Out} {ρ ρ' : Rho} {ds : List D} {d : D} (h : ρ[i]? = some (.ow (ds ++ [d]))) (hg : gg d (ρ.set i (.ow ds)) = some ρ') : seqS (popS i gg) K ρ = K ρ' := by
  rw [seqS_nxt]
  unfold popS
  rw [h]
  have e : (ds ++ [d])[(ds ++ [d]).length - 1]? = some d := by simp
  simp only [e, List.dropLast_concat, hg]
  rfl
def fW : Nat → Nat
  | 0 => 1
  | k + 1 => 1 + (k + 1) * fW k
theorem fW_mono : ∀ {a b : Nat}, a ≤ b → fW a ≤ fW b
  | 0, 0, _ => Nat.le_refl _
  | 0, b + 1, _ => by show 1 ≤ 1 + _; omega
  | a + 1, 0, h => by omega
  | a + 1, b + 1, h => by
    have ih := fW_mono (a := a) (b := b) (by omega)
    show 1 + (a + 1) * fW a ≤ 1 + (b + 1) * fW b
    have := Nat.mul_le_mul h ih
    omega
theorem fW_pos (a : Nat) : 1 ≤ fW a := by cases a <;> (unfold fW; omega)
/-- how many of the row are left to be called -/
def kR (R r : List Nat) : Nat := (R.filter fun h => !r.contains h).length
theorem filt_le (p : Nat → Bool) (h : Nat) : ∀ R : List Nat, (R.filter fun x => p x && !(x == h)).length ≤ (R.filter p).length
  | [] => Nat.le_refl _
  | a :: R => by
    have ih := filt_le p h R
    rw [List.filter_cons, List.filter_cons]
    generalize (R.filter fun x => p x && !(x == h)) = A at *
    generalize R.filter p = B at *
    cases p a <;> cases (a == h) <;> simp <;> omega
theorem filt_lt (p : Nat → Bool) (h : Nat) (hp : p h = true) : ∀ R : List Nat, h ∈ R → (R.filter fun x => p x && !(x == h)).length + 1 ≤ (R.filter p).length
  | a :: R, hm => by
    have le := filt_le p h R
    rw [List.filter_cons, List.filter_cons]
    by_cases e : a = h
    · subst e
      generalize (R.filter fun x => p x && !(x == a)) = A at *
      generalize R.filter p = B at *
      simp [hp]
      omega
    · have hm' : h ∈ R := by
        rcases List.mem_cons.mp hm with q | q
        · exact absurd q.symm e
        · exact q
      have ih := filt_lt p h hp R hm'
      have e2 : (a == h) = false := by simp [e]
      generalize (R.filter fun x => p x && !(x == h)) = A at *
      generalize R.filter p = B at *
      rw [e2]
      cases p a <;> simp <;> omega
theorem kR_lt {R r : List Nat} {h : Nat} (hm : h ∈ R) (hr : r.contains h = false) : kR R (r ++ [h]) + 1 ≤ kR R r := by
  have q := filt_lt (fun x => !r.contains x) h (by rw [hr]; rfl) R hm
  have e : (fun x => !(r ++ [h]).contains x) = fun x => !r.contains x && !(x == h) := by
    funext x
    have : (r ++ [h]).contains x = (r.contains x || (x == h)) := by rw [Bool.eq_iff_iff]; simp
    rw [this, Bool.not_or]
  unfold kR
  rw [e]
  exact q
def rwD (p : List Nat × Int) : D := .tuple [roD p.1, .int p.2]
def muS (R : List Nat) (rows : List (List Nat × Int)) : Nat := (rows.map fun p => fW (kR R p.1)).sum
def moreL (g : Sg) (r : List Nat) (t : Int) (wt : Nat → Int) : List Nat := g.row.filter fun h => !r.contains h && decide (wt h ≤ t)
end Zk27
namespace Zk27
open PySem PySem.Spec PyProof.Rows L2 Y
theorem ls_eqn (r : List Nat) : pyEq (.list (roL r)) (.list []) = .ret (.bool r.isEmpty) := by
  unfold pyEq
  have hd := dp_ro r
  have sh : SeqAt.shaped (.list (roL r)) = true := by
    unfold SeqAt.shaped
    rw [Bool.and_eq_true]
    exact ⟨ro_lay r, decide_eq_true (by simp only [PyData.depth]; omega)⟩
  rw [ask_t ⟨sh, rfl⟩]
  cases r with
  | nil => rfl
  | cons a r => simp [roL, PyData.eqv, PyData.eqvAll]
end Zk27
namespace Zk27
open PySem PySem.Spec PyProof.Rows L2 Y
theorem filt_and (p q : Nat → Bool) : ∀ R : List Nat, (R.filter fun x => p x && q x).length ≤ (R.filter p).length
  | [] => Nat.le_refl _
  | a :: R => by
    have ih := filt_and p q R
    rw [List.filter_cons, List.filter_cons]
    generalize (R.filter fun x => p x && q x) = A at *
    generalize R.filter p = B at *
    cases p a <;> cases q a <;> simp <;> omega
theorem more_len {g : Sg} {r : List Nat} {t : Int} {wt : Nat → Int} : (moreL g r t wt).length ≤ kR g.row r := filt_and (fun h => !r.contains h) _ _
theorem more_mem {g : Sg} {r : List Nat} {t : Int} {wt : Nat → Int} {o : Nat} (h : o ∈ moreL g r t wt) : o ∈ g.row ∧ r.contains o = false := by
  obtain ⟨a, b⟩ := List.mem_filter.mp h
  rw [Bool.and_eq_true] at b
  exact ⟨a, by simpa using b.1⟩
theorem mu_app (R : List Nat) (a b : List (List Nat × Int)) : muS R (a ++ b) = muS R a + muS R b := by unfold muS; rw [List.map_append, List.sum_append]
theorem mu_one (R : List Nat) (p : List Nat × Int) : muS R [p] = fW (kR R p.1) := by unfold muS; simp
theorem mu_len (R : List Nat) : ∀ a : List (List Nat × Int), a.length ≤ muS R a
  | [] => Nat.zero_le _
  | p :: a => by
    have ih := mu_len R a
    have e : muS R (p :: a) = fW (kR R p.1) + muS R a := by unfold muS; simp
    have := fW_pos (kR R p.1)
    rw [e, List.length_cons]; omega
theorem mu_kids {R r : List Nat} {f : Nat → Int} : ∀ {ms : List Nat}, (∀ o ∈ ms, o ∈ R ∧ r.contains o = false) → muS R (ms.map fun o => (r ++ [o], f o)) ≤ ms.length * fW (kR R r - 1)
  | [], _ => by simp [muS]
  | o :: ms, h => by
    have ih := mu_kids (R := R) (r := r) (f := f) (ms := ms) fun x hx => h x (List.mem_cons_of_mem _ hx)
    obtain ⟨a, b⟩ := h o List.mem_cons_self
    have k := kR_lt a b
    have m := fW_mono (a := kR R (r ++ [o])) (b := kR R r - 1) (by omega)
    have e : muS R ((o :: ms).map fun o => (r ++ [o], f o)) = fW (kR R (r ++ [o])) + muS R (ms.map fun o => (r ++ [o], f o)) := by unfold muS; simp
    rw [e, List.length_cons, Nat.add_mul, Nat.one_mul]
    omega
theorem rows_ne (rows : List (List Nat × Int)) : pyNe (.list (rows.map rwD)) (.list []) = .ret (.bool (!rows.isEmpty)) := by
  unfold pyNe
  have h1 : PyData.canLayAll0 (rows.map rwD) = true := by
    induction rows with
    | nil => rfl
    | cons p rows ih =>
      have q : PyData.canLay0 (rwD p) = true := by
        show (PyData.canLayAll0 (roL p.1) && (true && true)) = true
        rw [ro_lay]; rfl
      show (PyData.canLay0 (rwD p) && PyData.canLayAll0 (rows.map rwD)) = true
      rw [q, ih]; rfl
  have h2 : PyData.depthAll (rows.map rwD) ≤ 10 := by
    clear h1
    induction rows with
    | nil => simp [PyData.depthAll]
    | cons p rows ih =>
      have q : (rwD p).depth ≤ 10 := by
        have := dp_ro p.1
        show PyData.depthAll [roD p.1, .int p.2] + 1 ≤ 10
        simp only [PyData.depthAll, roD, PyData.depth]
        omega
      show max (rwD p).depth (PyData.depthAll (rows.map rwD)) ≤ 10
      omega
  have sh : SeqAt.shaped (.list (rows.map rwD)) = true := by
    unfold SeqAt.shaped
    rw [Bool.and_eq_true]
    exact ⟨h1, decide_eq_true (by simp only [PyData.depth]; omega)⟩
  rw [ask_t ⟨sh, rfl⟩]
  cases rows with
  | nil => rfl
  | cons a r => simp [PyData.eqv, PyData.eqvAll]
/-- a row of hands that can be called one behind another -/
structure Gro (g : Sg) (wt : Nat → Int) (mo : Int) (p : List Nat × Int) : Prop where
  nd : p.1.Nodup
  mx : (p.1.length : Int) ≤ mo
  t : p.2 = g.tok - (p.1.map wt).sum
  af : AffP wt g.tok p.1
theorem aff_app (wt : Nat → Int) (o : Nat) : ∀ (l : List Nat) (tk : Int), AffP wt tk l → wt o ≤ tk - (l.map wt).sum → AffP wt tk (l ++ [o])
  | [], tk, _, h => ⟨by simpa using h, trivial⟩
  | a :: l, tk, ⟨h1, h2⟩, h => ⟨h1, aff_app wt o l _ h2 (by rw [List.map_cons, List.sum_cons] at h; omega)⟩
/-- a round of hands that are given theirs, in any order -/
structure Grd (g : Sg) (wt : Nat → Int) (mo : Int) (l : List Nat) : Prop where
  nd : l.Nodup
  mx : (l.length : Int) ≤ mo
  af : AffP wt g.tok l
  mo' : (l.length : Int) = mo ∨ ∀ x ∈ g.row, x ∉ l → g.tok - (l.map wt).sum < wt x
structure GrI (g : Sg) (wt : Nat → Int) (mo : Int) (rows : List (List Nat × Int)) (found : List (List Nat)) : Prop where
  r1 : ∀ p ∈ rows, p.1.length + kR g.row p.1 ≤ g.row.length ∧ ∀ x ∈ p.1, x ∈ g.row
  f1 : ∀ l ∈ found, (∀ x ∈ l, x ∈ g.row) ∧ l.length ≤ 40
  r2 : ∀ p ∈ rows, Gro g wt mo p
  f2 : ∀ l ∈ found, Grd g wt mo l
  ne : rows ≠ [] ∨ found ≠ []
  j : (∃ t, rows = [([], t)] ∧ found = []) ∨ ((∀ p ∈ rows, p.1 ≠ []) ∧ ((∀ l ∈ found, l ≠ []) ∨ (rows = [] ∧ found = [[]])))
end Zk27
namespace Zk27
open PySem PySem.Spec PyProof.Rows L2 Y
/-- the most hands that a hand may call -/
def mostS (w : Nat → Str) (g : Sg) (s : Hs) (d : Str × Int) : Int := if s.ph == "calling" then (if w 3 == "one" then 1 else if w 3 == "each" then d.2 else g.row.length) else 1
/-- a round of calls, by a book -/
structure Lot (w : Nat → Str) (g : Sg) (wt : Nat → Int) (mo : Int) (l : List Nat) : Prop where
  sub : ∀ x ∈ l, x ∈ g.row
  len : l.length ≤ 100
  ft : (w 9 == "any") = false → (w 4 == "given") = false → l = g.row.take mo.toNat
  fg : (w 9 == "any") = false → (w 4 == "given") = true → l = fitP wt g.tok (g.row.take mo.toNat)
  at' : (w 9 == "any") = true → (w 4 == "given") = false → l.Sublist (srtN g.row) ∧ (l.length : Int) = if (g.row.length : Int) < mo then (g.row.length : Int) else mo
  ag : (w 9 == "any") = true → (w 4 == "given") = true → Grd g wt mo l
def wtG (g : Sg) (o : Nat) : Int := match g.sts[o]? with
  | some s => wantOf s
  | none => 0
end Zk27
namespace Zk27
open PySem PySem.Spec PyProof.Rows L2 Y
def isCaller (s : Hs) : Prop := s.ph = "calling" ∨ s.ph = "passing" ∨ s.ph = "yielding"
/-- a move that can be made -/
inductive Can (w : Nat → Str) (g : Sg) : Mv → Prop where
  | on {h : Nat} {s : Hs} {d : Str × Int} {l : List (Str × Int)} : g.sts[h]? = some s → s.left = d :: l → ¬ isCaller s → s.ph ≠ "asleep" → Can w g (.on h)
  | away {h : Nat} {s : Hs} {d : Str × Int} {l : List (Str × Int)} : g.sts[h]? = some s → s.left = d :: l → ¬ isCaller s → d.1 = "wish" → s.ph ∈ (["noted", "lying", "asleep", "woken"] : List Str) → Can w g (.away h)
  | call {h : Nat} {s : Hs} {d : Str × Int} {l : List (Str × Int)} {lot : List Nat} : g.sts[h]? = some s → s.left = d :: l → isCaller s → Lot w g (wtG g) (mostS w g s d) lot → Can w g (.call h lot)
/-- a hand that can go on has a move for it -/
def Fl (h : Nat) (s : Hs) (ms : List Mv) : Prop := (isCaller s → ∃ l, Mv.call h l ∈ ms) ∧ (¬ isCaller s → s.left ≠ [] → s.ph ≠ "asleep" → Mv.on h ∈ ms)
/-- all that holds of the standings that come -/
structure Gd2 (g : Sg) : Prop where
  gs : Gs g
  r5 : g.row.length ≤ 5
  lv : ∀ o ∈ g.row, Lv g o
  ca : ∀ s ∈ g.sts, isCaller s → s.left ≠ []
  dn : ∀ s ∈ g.sts, ∀ d ∈ s.left, 1 ≤ d.2 ∧ d.2 ≤ 4
theorem in3 {x : Str} (h : PyData.strOk x = true) : inD false (.str x) (.tuple [.str "calling", .str "passing", .str "yielding"]) = .ret (.bool (decide (x ∈ (["calling", "passing", "yielding"] : List Str)) != false)) := in_t (W := ["calling", "passing", "yielding"]) h (by decide +kernel)
theorem in4 {x : Str} (h : PyData.strOk x = true) : inD false (.str x) (.tuple [.str "noted", .str "lying", .str "asleep", .str "woken"]) = .ret (.bool (decide (x ∈ (["noted", "lying", "asleep", "woken"] : List Str)) != false)) := in_t (W := ["noted", "lying", "asleep", "woken"]) h (by decide +kernel)
theorem le_ne (l : List (Str × Int)) (ok : ∀ d ∈ l, PyData.strOk d.1 = true) : pyNe (leD l) (.tuple []) = .ret (.bool (!l.isEmpty)) := by
  unfold pyNe
  have h1 : PyData.canLayAll0 (l.map deD) = true := by
    induction l with
    | nil => rfl
    | cons p l ih =>
      have q : PyData.canLay0 (deD p) = true := by
        show (PyData.canLay0 (.str p.1) && (true && true)) = true
        have := shaped_s (ok p List.mem_cons_self)
        rw [shaped_lay this]; rfl
      show (PyData.canLay0 (deD p) && PyData.canLayAll0 (l.map deD)) = true
      rw [q, ih fun d hd => ok d (List.mem_cons_of_mem _ hd)]; rfl
  have h2 : PyData.depthAll (l.map deD) ≤ 10 := by
    clear h1 ok
    induction l with
    | nil => simp [PyData.depthAll]
    | cons p l ih =>
      have q : (deD p).depth ≤ 10 := by simp [deD, PyData.depth, PyData.depthAll]
      show max (deD p).depth (PyData.depthAll (l.map deD)) ≤ 10
      omega
  have sh : SeqAt.shaped (leD l) = true := by
    unfold SeqAt.shaped
    rw [Bool.and_eq_true]
    exact ⟨h1, decide_eq_true (by simp only [leD, PyData.depth]; omega)⟩
  rw [ask_t ⟨sh, rfl⟩]
  cases l with
  | nil => rfl
  | cons a r => simp [leD, PyData.eqv, PyData.eqvAll]
end Zk27
namespace Zk27
open PySem PySem.Spec PyProof.Rows L2 Y
/-! what holds of standings along -/
def phs : List Str := ["free", "late", "noted", "lying", "asleep", "woken", "calling", "passing", "yielding", "storing"]
def mks : List Str := ["no", "called", "given"]
/-- a hand that stands on the row -/
def wN (s : Hs) : Prop := (s.ph = "noted" ∨ s.ph = "lying" ∨ s.ph = "asleep") ∧ s.mr = "no"
structure Hok (s : Hs) : Prop where
  ph : s.ph ∈ phs
  mr : s.mr ∈ mks
  nz : s.ph ≠ "free" → s.left ≠ []
  l3 : s.left.length ≤ 8
  ld : ∀ d ∈ s.left, d.1 ∈ (["put", "take", "wish"] : List Str) ∧ 1 ≤ d.2 ∧ d.2 ≤ 4
structure Inv3 (n : Nat) (B : Nat) (g : Sg) : Prop where
  len : g.sts.length = n
  n5 : n ≤ 5
  nd : g.row.Nodup
  st : ∀ s ∈ g.sts, Hok s
  rw : ∀ o s, g.sts[o]? = some s → (o ∈ g.row ↔ wN s)
  rl : ∀ o ∈ g.row, o < n
  tk : -(B : Int) ≤ g.tok ∧ g.tok ≤ B
theorem filt_one {a : Nat} : ∀ {l : List Nat}, l.Nodup → l.length ≤ (l.filter fun x => !(x == a)).length + 1
  | [], _ => Nat.zero_le _
  | b :: r, h => by
    rw [List.nodup_cons] at h
    rw [List.filter_cons]
    by_cases e : b = a
    · subst e
      have : r.filter (fun x => !(x == b)) = r := by
        refine List.filter_eq_self.mpr fun x hx => ?_
        simp
        rintro rfl
        exact h.1 hx
      rw [this]
      simp
    · have ih := filt_one (a := a) h.2
      have e2 : (b == a) = false := by simp [e]
      rw [e2]
      generalize (r.filter fun x => !(x == a)) = A at *
      simp
      omega
theorem nodup_len : ∀ (n : Nat) {l : List Nat}, l.Nodup → (∀ x ∈ l, x < n) → l.length ≤ n
  | 0, l, _, h => by
    cases l with
    | nil => exact Nat.le_refl _
    | cons a r => exact absurd (h a List.mem_cons_self) (by omega)
  | n + 1, l, hd, h => by
    have f := filt_one (a := n) hd
    have ih := nodup_len n (l := l.filter fun x => !(x == n)) (List.Nodup.sublist List.filter_sublist hd) fun x hx => by
      obtain ⟨a, b⟩ := List.mem_filter.mp hx
      have := h x a
      simp at b
      omega
    omega
theorem ph_ok : ∀ x ∈ phs, PyData.strOk x = true := by decide +kernel
theorem mk_ok : ∀ x ∈ mks, PyData.strOk x = true := by decide +kernel
theorem wd_ok : ∀ x ∈ (["put", "take", "wish"] : List Str), PyData.strOk x = true := by decide +kernel
theorem Inv3.gd {n B : Nat} {g : Sg} (I : Inv3 n B g) : Gd2 g := by
  have r5 : g.row.length ≤ 5 := Nat.le_trans (nodup_len n I.nd I.rl) I.n5
  have ne : ∀ s ∈ g.sts, s.ph ≠ "free" → s.left ≠ [] := fun s hs => (I.st s hs).nz
  refine ⟨⟨by rw [I.len]; have := I.n5; omega, by omega, fun s hs => ?_⟩, r5, fun o ho => ?_, fun s hs hc => ?_, fun s hs d hd => ((I.st s hs).ld d hd).2⟩
  · have h := I.st s hs
    exact ⟨ph_ok _ h.ph, mk_ok _ h.mr, fun d hd => wd_ok _ (h.ld d hd).1⟩
  · have hlt := I.rl o ho
    rw [← I.len] at hlt
    have e : g.sts[o]? = some g.sts[o] := List.getElem?_eq_getElem hlt
    have w := (I.rw o _ e).mp ho
    have nz := ne _ (List.getElem_mem hlt) (by
      rcases w.1 with h | h | h <;> rw [h] <;> decide +kernel)
    cases hq : g.sts[o].left with
    | nil => exact absurd hq nz
    | cons d l => exact ⟨_, d, l, e, hq⟩
  · refine ne s hs ?_
    rcases hc with h | h | h <;> rw [h] <;> decide +kernel
/-- one hand's state and the row are changed -/
theorem inv_set {n B B' : Nat} {g : Sg} (I : Inv3 n B g) {h : Nat} {s s' : Hs} {r' : List Nat} {t' : Int} (e : g.sts[h]? = some s) (ph : s'.ph ∈ phs) (mr : s'.mr ∈ mks) (nz : s'.ph ≠ "free" → s'.left ≠ []) (lf : s'.left = s.left ∨ s'.left = s.left.tail)
    (nd : r'.Nodup) (hh : h ∈ r' ↔ wN s') (ho : ∀ o, o ≠ h → (o ∈ r' ↔ o ∈ g.row)) (tk : -(B' : Int) ≤ t' ∧ t' ≤ B') : Inv3 n B' ⟨t', r', g.sts.set h s'⟩ := by
  have hlt := (List.getElem?_eq_some_iff.mp e).1
  have hs := I.st s (List.mem_of_getElem? e)
  have ld : ∀ d ∈ s'.left, d ∈ s.left := fun d hd => by
    rcases lf with q | q
    · rw [q] at hd; exact hd
    · rw [q] at hd; exact List.mem_of_mem_tail hd
  refine ⟨by show (g.sts.set h s').length = n; rw [List.length_set, I.len], I.n5, nd, fun x hx => ?_, fun o x hx => ?_, fun o hr => ?_, tk⟩
  · rcases List.mem_or_eq_of_mem_set hx with q | rfl
    · exact I.st x q
    · refine ⟨ph, mr, nz, ?_, fun d hd => hs.ld d (ld d hd)⟩
      rcases lf with q | q
      · rw [q]; exact hs.l3
      · rw [q]; have := hs.l3; simp; omega
  · have hx : (g.sts.set h s')[o]? = some x := hx
    show o ∈ r' ↔ wN x
    by_cases q : h = o
    · subst q
      rw [List.getElem?_set_self hlt] at hx
      cases hx
      exact hh
    · rw [List.getElem?_set_ne q] at hx
      exact (ho o fun z => q z.symm).trans (I.rw o x hx)
  · by_cases q : o = h
    · subst q; rw [← I.len]; exact hlt
    · exact I.rl o ((ho o q).mp hr)
end Zk27
namespace Zk27
open PySem PySem.Spec PyProof.Rows L2 Y
theorem not_wn {l : List (Str × Int)} {p m : Str} (h : (p == ("noted" : Str)) = false ∧ (p == ("lying" : Str)) = false ∧ (p == ("asleep" : Str)) = false ∨ (m == ("no" : Str)) = false) : ¬ wN ⟨l, p, m⟩ := by
  rintro ⟨h1, h2⟩
  dsimp only at h1 h2
  rcases h with ⟨a, b, c⟩ | h
  · rcases h1 with q | q | q <;> rw [q] at a b c <;> simp at a b c
  · rw [h2] at h; simp at h
theorem inv_off {n B B' : Nat} {g : Sg} (I : Inv3 n B g) {h : Nat} {s s' : Hs} {r' : List Nat} {t' : Int} (e : g.sts[h]? = some s) (ph : s'.ph ∈ phs) (mr : s'.mr ∈ mks) (nz : s'.ph ≠ "free" → s'.left ≠ []) (lf : s'.left = s.left ∨ s'.left = s.left.tail)
    (hw : ¬ wN s') (hr : (r' = g.row ∧ ¬ wN s) ∨ r' = g.row.filter fun i => !(i == h)) (tk : -(B' : Int) ≤ t' ∧ t' ≤ B') : Inv3 n B' ⟨t', r', g.sts.set h s'⟩ := by
  have hi := I.rw h s e
  rcases hr with ⟨rfl, hs⟩ | rfl
  · exact inv_set I e ph mr nz lf I.nd ⟨fun q => absurd (hi.mp q) hs, fun q => absurd q hw⟩ (fun o _ => Iff.rfl) tk
  · refine inv_set I e ph mr nz lf (List.Nodup.sublist List.filter_sublist I.nd) ⟨fun q => ?_, fun q => absurd q hw⟩ (fun o ho => ?_) tk
    · have := (List.mem_filter.mp q).2
      simp at this
    · refine ⟨fun q => (List.mem_filter.mp q).1, fun q => List.mem_filter.mpr ⟨q, ?_⟩⟩
      simp [ho]
theorem inv_on {n B B' : Nat} {g : Sg} (I : Inv3 n B g) {h : Nat} {s s' : Hs} {r' : List Nat} {t' : Int} (e : g.sts[h]? = some s) (ph : s'.ph ∈ phs) (mr : s'.mr ∈ mks) (nz : s'.ph ≠ "free" → s'.left ≠ []) (lf : s'.left = s.left ∨ s'.left = s.left.tail)
    (hw : wN s') (hr : (r' = g.row ∧ wN s) ∨ (¬ wN s ∧ (r' = g.row ++ [h] ∨ r' = h :: g.row))) (tk : -(B' : Int) ≤ t' ∧ t' ≤ B') : Inv3 n B' ⟨t', r', g.sts.set h s'⟩ := by
  have hi := I.rw h s e
  rcases hr with ⟨rfl, hs⟩ | ⟨hs, hr⟩
  · exact inv_set I e ph mr nz lf I.nd ⟨fun _ => hw, fun _ => hi.mpr hs⟩ (fun o _ => Iff.rfl) tk
  · have hn : h ∉ g.row := fun q => hs (hi.mp q)
    rcases hr with rfl | rfl
    · refine inv_set I e ph mr nz lf ?_ ⟨fun _ => hw, fun _ => by simp⟩ (fun o ho => by simp [ho]) tk
      rw [List.nodup_append]
      exact ⟨I.nd, by simp, fun a ha b hb => by rw [List.mem_singleton.mp hb]; rintro rfl; exact hn ha⟩
    · refine inv_set I e ph mr nz lf (List.nodup_cons.mpr ⟨hn, I.nd⟩) ⟨fun _ => hw, fun _ => by simp⟩ (fun o ho => by simp [ho]) tk
theorem over_inv {n B B' : Nat} {g : Sg} (I : Inv3 n B g) {h : Nat} {s : Hs} {r' : List Nat} {t' : Int} (e : g.sts[h]? = some s) (hr : (r' = g.row ∧ ¬ wN s) ∨ r' = g.row.filter fun i => !(i == h)) (tk : -(B' : Int) ≤ t' ∧ t' ≤ B') : Inv3 n B' (overS t' r' g.sts h s) :=
  inv_off I e (by show ("free" : Str) ∈ phs; decide +kernel) (by show ("no" : Str) ∈ mks; decide +kernel) (fun q => absurd rfl q) (.inr rfl) (not_wn (.inl (by decide +kernel))) hr tk
theorem got_inv {w : Nat → Str} {n B B' : Nat} {g : Sg} (I : Inv3 n B g) {h : Nat} {s : Hs} {r' : List Nat} {t' : Int} (e : g.sts[h]? = some s) (hl : s.left ≠ []) (hr : (r' = g.row ∧ ¬ wN s) ∨ r' = g.row.filter fun i => !(i == h)) (tk : -(B' : Int) ≤ t' ∧ t' ≤ B') : Inv3 n B' (gotS w t' r' g.sts h s) := by
  unfold gotS
  split
  · exact inv_off I e (by show ("passing" : Str) ∈ phs; decide +kernel) (by show ("no" : Str) ∈ mks; decide +kernel) (fun _ => hl) (.inl rfl) (not_wn (.inl (by decide +kernel))) hr tk
  · exact over_inv I e hr tk
theorem back_inv {w : Nat → Str} {n B B' : Nat} {g : Sg} (I : Inv3 n B g) {h : Nat} {s : Hs} {t' : Int} (e : g.sts[h]? = some s) (hl : s.left ≠ []) (hs : ¬ wN s) (tk : -(B' : Int) ≤ t' ∧ t' ≤ B') : Inv3 n B' (backS w t' g.row g.sts h s) := by
  refine inv_on I e ?_ (by show ("no" : Str) ∈ mks; decide +kernel) (fun _ => hl) (.inl rfl) ?_ (.inr ⟨hs, ?_⟩) tk
  · show phB w ∈ phs
    unfold phB
    split <;> decide +kernel
  · refine ⟨?_, rfl⟩
    show phB w = "noted" ∨ phB w = "lying" ∨ phB w = "asleep"
    unfold phB
    split
    · exact .inl rfl
    · exact .inr (.inr rfl)
  · show rowB w g.row h = _ ∨ rowB w g.row h = _
    unfold rowB
    split
    · exact .inl rfl
    · exact .inr rfl
theorem on_inv {w : Nat → Str} {n B : Nat} {g : Sg} (I : Inv3 n B g) {h : Nat} {s : Hs} {d : Str × Int} {l : List (Str × Int)} (e : g.sts[h]? = some s) (hl : s.left = d :: l) (nc : ¬ isCaller s) (na : s.ph ≠ "asleep") : Inv3 n (B + 4) (onS w g h s d) := by
  have hn : s.left ≠ [] := by rw [hl]; simp
  have ok := I.st s (List.mem_of_getElem? e)
  obtain ⟨_, d1, d4⟩ := ok.ld d (by rw [hl]; exact List.mem_cons_self)
  have tk := I.tk
  have t0 : -((B + 4 : Nat) : Int) ≤ g.tok ∧ g.tok ≤ ((B + 4 : Nat) : Int) := by omega
  have t1 : -((B + 4 : Nat) : Int) ≤ g.tok - d.2 ∧ g.tok - d.2 ≤ ((B + 4 : Nat) : Int) := by omega
  have t2 : -((B + 4 : Nat) : Int) ≤ g.tok + d.2 ∧ g.tok + d.2 ≤ ((B + 4 : Nat) : Int) := by omega
  have t3 : -((B + 4 : Nat) : Int) ≤ g.tok + (if w 2 == "first" then d.2 else 0) ∧ g.tok + (if w 2 == "first" then d.2 else 0) ≤ ((B + 4 : Nat) : Int) := by split <;> omega
  have nw : ∀ p : Str, s.ph = p → (p == ("noted" : Str)) = false ∧ (p == ("lying" : Str)) = false ∧ (p == ("asleep" : Str)) = false → ¬ wN s := fun p hp q => by
    obtain ⟨a, b, c⟩ := s
    exact not_wn (.inl (by dsimp only at hp; rw [hp]; exact q))
  have nm : (s.mr == ("no" : Str)) = false → ¬ wN s := fun q => by
    obtain ⟨a, b, c⟩ := s
    exact not_wn (.inr q)
  unfold onS
  split
  · rename_i c
    rw [Bool.and_eq_true] at c
    have c1 : s.ph = "free" := by simpa using c.1
    exact inv_off I e (by show ("calling" : Str) ∈ phs; decide +kernel) (by show ("no" : Str) ∈ mks; decide +kernel) (fun _ => hn) (.inl rfl) (not_wn (.inl (by decide +kernel))) (.inl ⟨rfl, nw _ c1 (by decide +kernel)⟩) t3
  · split
    · rename_i c
      have c1 : s.ph = "free" := by simpa using c
      have w0 := nw _ c1 (by decide +kernel)
      split
      · exact over_inv I e (.inl ⟨rfl, w0⟩) t1
      · exact inv_off I e (by show ("late" : Str) ∈ phs; decide +kernel) (by show ("no" : Str) ∈ mks; decide +kernel) (fun _ => hn) (.inl rfl) (not_wn (.inl (by decide +kernel))) (.inl ⟨rfl, w0⟩) t0
    · rename_i cf
      split
      · rename_i c
        have c1 : s.ph = "late" := by simpa using c
        have w0 := nw _ c1 (by decide +kernel)
        refine inv_on I e ?_ (by show ("no" : Str) ∈ mks; decide +kernel) (fun _ => hn) (.inl rfl) ?_ (.inr ⟨w0, .inl rfl⟩) t0
        · show phB w ∈ phs
          unfold phB
          split <;> decide +kernel
        · refine ⟨?_, rfl⟩
          show phB w = "noted" ∨ phB w = "lying" ∨ phB w = "asleep"
          unfold phB
          split
          · exact .inl rfl
          · exact .inr (.inr rfl)
      · split
        · rename_i c
          have c1 : s.ph = "storing" := by simpa using c
          exact over_inv I e (.inl ⟨rfl, nw _ c1 (by decide +kernel)⟩) t2
        · split
          · rename_i c
            have c1 : s.ph = "lying" := by simpa using c
            have pk : (if (!(s.mr == ("no" : Str)) && w 1 == "kept") = true then ("woken" : Str) else "asleep") ∈ phs := by split <;> decide +kernel
            cases hm : (s.mr == ("no" : Str))
            · exact inv_off I e (by rw [hm] at pk; exact pk) ok.mr (fun _ => hn) (.inl rfl) (not_wn (.inr hm)) (.inl ⟨rfl, nm hm⟩) t0
            · have m1 : s.mr = "no" := by simpa using hm
              refine inv_on I e (by rw [hm] at pk; exact pk) ok.mr (fun _ => hn) (.inl rfl) ⟨.inr (.inr ?_), m1⟩ (.inl ⟨rfl, .inr (.inl c1), m1⟩) t0
              rfl
          · rename_i cl
            split
            · rename_i c
              have m1 : s.mr = "given" := by simpa using c
              exact got_inv I e hn (.inl ⟨rfl, nm (by rw [m1]; decide +kernel)⟩) t0
            · split
              · rename_i c
                have c1 : s.ph = "noted" := by simpa using c
                split
                · split
                  · exact got_inv I e hn (.inr rfl) t1
                  · exact over_inv I e (.inr rfl) t1
                · cases hm : (s.mr == ("no" : Str))
                  · exact inv_off I e (by show ("lying" : Str) ∈ phs; decide +kernel) ok.mr (fun _ => hn) (.inl rfl) (not_wn (.inr hm)) (.inl ⟨rfl, nm hm⟩) t0
                  · have m1 : s.mr = "no" := by simpa using hm
                    exact inv_on I e (by show ("lying" : Str) ∈ phs; decide +kernel) ok.mr (fun _ => hn) (.inl rfl) ⟨.inr (.inl rfl), m1⟩ (.inl ⟨rfl, .inl c1, m1⟩) t0
              · rename_i cn
                have w0 : ¬ wN s := by
                  rintro ⟨q | q | q, _⟩
                  · rw [q] at cn; simp at cn
                  · rw [q] at cl; simp at cl
                  · exact na q
                split
                · exact got_inv I e hn (.inl ⟨rfl, w0⟩) t1
                · split
                  · exact inv_off I e (by show ("yielding" : Str) ∈ phs; decide +kernel) (by show ("no" : Str) ∈ mks; decide +kernel) (fun _ => hn) (.inl rfl) (not_wn (.inl (by decide +kernel))) (.inl ⟨rfl, w0⟩) t0
                  · exact back_inv I e hn w0 t0
end Zk27
namespace Zk27
open PySem PySem.Spec PyProof.Rows L2 Y
theorem away_inv {w : Nat → Str} {n B : Nat} {g : Sg} (I : Inv3 n B g) {h : Nat} {s : Hs} {d : Str × Int} {l : List (Str × Int)} (e : g.sts[h]? = some s) (hl : s.left = d :: l) : Inv3 n (B + 4) (awayS w g h s d) := by
  have hn : s.left ≠ [] := by rw [hl]; simp
  have ok := I.st s (List.mem_of_getElem? e)
  obtain ⟨_, d1, d4⟩ := ok.ld d (by rw [hl]; exact List.mem_cons_self)
  have tk := I.tk
  have t3 : -((B + 4 : Nat) : Int) ≤ g.tok + (if s.mr == "given" then d.2 else 0) ∧ g.tok + (if s.mr == "given" then d.2 else 0) ≤ ((B + 4 : Nat) : Int) := by split <;> omega
  unfold awayS
  split
  · exact inv_off I e (by show ("passing" : Str) ∈ phs; decide +kernel) (by show ("no" : Str) ∈ mks; decide +kernel) (fun _ => hn) (.inl rfl) (not_wn (.inl (by decide +kernel))) (.inr rfl) t3
  · exact over_inv I e (.inr rfl) t3
theorem callOne_inv {w : Nat → Str} {n B : Nat} {g : Sg} (I : Inv3 n B g) {o : Nat} (L : Lv g o) : Inv3 n (B + 4) (callOne w g o) := by
  obtain ⟨s, d, l, e, hl⟩ := L
  have hn : s.left ≠ [] := by rw [hl]; simp
  have ok := I.st s (List.mem_of_getElem? e)
  obtain ⟨_, d1, d4⟩ := ok.ld d (by rw [hl]; exact List.mem_cons_self)
  have tk := I.tk
  have hwt : wantOf s = d.2 := by unfold wantOf; rw [hl]; rfl
  unfold callOne
  rw [e]
  dsimp only
  rw [hwt]
  have pk : (calledS w s).ph ∈ phs := by
    show (if s.ph == "asleep" then ("woken" : Str) else s.ph) ∈ phs
    split
    · decide +kernel
    · exact ok.ph
  have mk : (calledS w s).mr ∈ mks ∧ ((calledS w s).mr == ("no" : Str)) = false := by
    show (if w 4 == "given" then ("given" : Str) else "called") ∈ mks ∧ ((if w 4 == "given" then ("given" : Str) else "called") == ("no" : Str)) = false
    split <;> exact ⟨by decide +kernel, by decide +kernel⟩
  refine inv_off I e pk mk.1 (fun _ => hn) (.inl rfl) ?_ (.inr rfl) (by split <;> omega)
  have := mk.2
  generalize calledS w s = c at *
  obtain ⟨a, b, c⟩ := c
  exact not_wn (.inr this)
theorem calls_inv {w : Nat → Str} {n : Nat} : ∀ (lot : List Nat) {B : Nat} {g : Sg}, Inv3 n B g → (∀ o ∈ lot, Lv g o) → Inv3 n (B + 4 * lot.length) (callsS w g lot)
  | [], _, _, I, _ => I
  | o :: lot, B, g, I, L => by
    have I2 := calls_inv (w := w) lot (callOne_inv (w := w) I (L o List.mem_cons_self)) fun i hi => callOne_lv (w := w) (L i (List.mem_cons_of_mem _ hi))
    have e : B + 4 * (o :: lot).length = B + 4 + 4 * lot.length := by rw [List.length_cons]; omega
    rw [e]
    exact I2
theorem end_inv {w : Nat → Str} {n B : Nat} {g : Sg} (I : Inv3 n B g) {h : Nat} {s : Hs} (e : g.sts[h]? = some s) (hl : s.left ≠ []) (hw : ¬ wN s) : Inv3 n B (endS w g h s) := by
  have tk := I.tk
  unfold endS
  split
  · exact back_inv I e hl hw tk
  · split
    · exact inv_off I e (by show ("storing" : Str) ∈ phs; decide +kernel) (by show ("no" : Str) ∈ mks; decide +kernel) (fun _ => hl) (.inl rfl) (not_wn (.inl (by decide +kernel))) (.inl ⟨rfl, hw⟩) tk
    · exact over_inv I e (.inl ⟨rfl, hw⟩) tk
theorem inv_up {n B B' : Nat} {g : Sg} (I : Inv3 n B g) (h : B ≤ B') : Inv3 n B' g := ⟨I.len, I.n5, I.nd, I.st, I.rw, I.rl, by have := I.tk; omega⟩
theorem caller_wn {s : Hs} (c : isCaller s) : ¬ wN s := by
  obtain ⟨a, b, m⟩ := s
  refine not_wn (.inl ?_)
  rcases c with h | h | h
  · have h : b = "calling" := h
    rw [h]; decide +kernel
  · have h : b = "passing" := h
    rw [h]; decide +kernel
  · have h : b = "yielding" := h
    rw [h]; decide +kernel
/-- what a move makes of a standing -/
def doneS (w : Nat → Str) (g : Sg) : Mv → Sg
  | .on h => match g.sts[h]? with
    | some s => match s.left with
      | d :: _ => onS w g h s d
      | [] => g
    | none => g
  | .away h => match g.sts[h]? with
    | some s => match s.left with
      | d :: _ => awayS w g h s d
      | [] => g
    | none => g
  | .call h lot => match g.sts[h]? with
    | some s => endS w (callsS w g lot) h s
    | none => g
theorem doneS_on {w : Nat → Str} {g : Sg} {h : Nat} {s : Hs} {d : Str × Int} {l : List (Str × Int)} (e : g.sts[h]? = some s) (hl : s.left = d :: l) : doneS w g (.on h) = onS w g h s d := by
  simp only [doneS, e, hl]
theorem doneS_away {w : Nat → Str} {g : Sg} {h : Nat} {s : Hs} {d : Str × Int} {l : List (Str × Int)} (e : g.sts[h]? = some s) (hl : s.left = d :: l) : doneS w g (.away h) = awayS w g h s d := by
  simp only [doneS, e, hl]
theorem doneS_call {w : Nat → Str} {g : Sg} {h : Nat} {s : Hs} {lot : List Nat} (e : g.sts[h]? = some s) : doneS w g (.call h lot) = endS w (callsS w g lot) h s := by
  simp only [doneS, e]
/-- moves made one behind another -/
def lastS (w : Nat → Str) : Sg → List Mv → Sg
  | g, [] => g
  | g, m :: ms => lastS w (doneS w g m) ms
def alongS (w : Nat → Str) : Sg → List Mv → List Sg
  | g, [] => [g]
  | g, m :: ms => g :: alongS w (doneS w g m) ms
def Path (w : Nat → Str) : Sg → List Mv → Prop
  | _, [] => True
  | g, m :: ms => Can w g m ∧ Path w (doneS w g m) ms
theorem last_app {w : Nat → Str} : ∀ (ms : List Mv) (g : Sg) (m : Mv), lastS w g (ms ++ [m]) = doneS w (lastS w g ms) m
  | [], _, _ => rfl
  | _ :: ms, _, m => last_app ms _ m
theorem along_app {w : Nat → Str} : ∀ (ms : List Mv) (g : Sg) (m : Mv), alongS w g (ms ++ [m]) = alongS w g ms ++ [lastS w g (ms ++ [m])]
  | [], _, _ => rfl
  | a :: ms, g, m => by
    show g :: alongS w _ (ms ++ [m]) = g :: (alongS w _ ms ++ [lastS w _ (ms ++ [m])])
    rw [along_app ms]
theorem path_app {w : Nat → Str} : ∀ (ms : List Mv) (g : Sg) (m : Mv), Path w g ms → Can w (lastS w g ms) m → Path w g (ms ++ [m])
  | [], _, _, _, c => ⟨c, trivial⟩
  | _ :: ms, _, m, ⟨a, b⟩, c => ⟨a, path_app ms _ m b c⟩
theorem along_len {w : Nat → Str} : ∀ (ms : List Mv) (g : Sg), (alongS w g ms).length = ms.length + 1
  | [], _ => rfl
  | _ :: ms, _ => by rw [List.length_cons, ← along_len ms]; rfl
theorem along_ne {w : Nat → Str} (ms : List Mv) (g : Sg) : alongS w g ms ≠ [] := by
  cases ms <;> exact fun h => nomatch h
/-- what is kept by moves holds along -/
theorem path_all {w : Nat → Str} {J : Nat → Sg → Prop} (hJ : ∀ k g m, J k g → Can w g m → J (k + 1) (doneS w g m)) : ∀ (ms : List Mv) (k : Nat) (g : Sg), J k g → Path w g ms → J (k + ms.length) (lastS w g ms) ∧ ∀ a ∈ alongS w g ms, ∃ i, i ≤ ms.length ∧ J (k + i) a
  | [], k, g, h, _ => ⟨h, fun a ha => by rw [List.mem_singleton.mp ha]; exact ⟨0, Nat.le_refl _, h⟩⟩
  | m :: ms, k, g, h, ⟨c, p⟩ => by
    obtain ⟨h1, h2⟩ := path_all hJ ms (k + 1) _ (hJ k g m h c) p
    refine ⟨by rw [List.length_cons, show k + (ms.length + 1) = k + 1 + ms.length by omega]; exact h1, fun a ha => ?_⟩
    rcases List.mem_cons.mp ha with rfl | ha
    · exact ⟨0, Nat.zero_le _, h⟩
    · obtain ⟨i, hi, q⟩ := h2 a ha
      exact ⟨i + 1, by rw [List.length_cons]; omega, by rw [show k + (i + 1) = k + 1 + i by omega]; exact q⟩
theorem done_inv {w : Nat → Str} {n B : Nat} {g : Sg} (I : Inv3 n B g) {m : Mv} (c : Can w g m) : Inv3 n (B + 400) (doneS w g m) := by
  have G := I.gd
  cases c with
  | on e hl nc na =>
    rw [doneS_on e hl]
    exact inv_up (on_inv I e hl nc na) (by omega)
  | away e hl nc _ _ =>
    rw [doneS_away e hl]
    exact inv_up (away_inv I e hl) (by omega)
  | @call h s d l lot e hl ic LT =>
    have hr := LT.sub
    have h100 := LT.len
    have hw := caller_wn ic
    have hn : h ∉ lot := fun q => hw ((I.rw h s e).mp (hr h q))
    have L : ∀ o ∈ lot, Lv g o := fun o ho => G.lv o (hr o ho)
    rw [doneS_call e]
    exact inv_up (end_inv (calls_inv lot I L) ((calls_other lot hn).trans e) (by rw [hl]; simp) hw) (by omega)
theorem path_inv {w : Nat → Str} {n : Nat} {g : Sg} (I : Inv3 n 0 g) {ms : List Mv} (p : Path w g ms) : Inv3 n (400 * ms.length) (lastS w g ms) ∧ ∀ a ∈ alongS w g ms, Inv3 n (400 * ms.length) a := by
  obtain ⟨h1, h2⟩ := path_all (w := w) (J := fun k g => Inv3 n (400 * k) g) (fun k g m I c => by
    have := done_inv I c
    rw [show 400 * (k + 1) = 400 * k + 400 by omega]
    exact this) ms 0 g (by simpa using I) p
  rw [Nat.zero_add] at h1
  refine ⟨h1, fun a ha => ?_⟩
  obtain ⟨i, hi, q⟩ := h2 a ha
  exact inv_up q (by omega)
end Zk27
namespace Zk27
open PySem PySem.Spec PyProof.Rows L2 Y
def dft : Hs := ⟨[], "free", "no"⟩
def sel (P : Hs → Bool) (ss : List Hs) : List Nat := (List.range ss.length).filter fun i => P (ss.getD i dft)
theorem enum_as (ss : List Hs) : enumD (ss.map stD) = (List.range ss.length).map fun i : Nat => (PyData.int (i : Int), stD (ss.getD i dft)) := by
  unfold enumD upto
  rw [List.length_map]
  apply List.ext_getElem
  · simp
  · intro i h1 h2
    simp at h1
    simp [h1]
theorem sel_pairs {P : Hs → Bool} {ss : List Hs} {gg : D × D → Rho → Option Rho} {C : Rho → T Bool} {E : Rho → T D} {ρ : Rho}
    (h : ∀ (i : Nat) (s : Hs), ss[i]? = some s → ∃ ρ1, gg (.int (i : Int), stD s) ρ = some ρ1 ∧ C ρ1 = .ret (P s) ∧ E ρ1 = .ret (.int (i : Int))) : lcL gg C E (enumD (ss.map stD)) ρ = .ret (roL (sel P ss)) := by
  rw [enum_as]
  refine (lcL_pure (fun q => match q.1 with | .int i => P (ss.getD i.toNat dft) | _ => false) (fun q => q.1) fun q hq => ?_).trans ?_
  · obtain ⟨i, hi, rfl⟩ := List.mem_map.mp hq
    have hl := List.mem_range.mp hi
    have e : ss[i]? = some (ss.getD i dft) := by rw [List.getElem?_eq_getElem hl, List.getD_eq_getElem?_getD, List.getElem?_eq_getElem hl]; rfl
    obtain ⟨ρ1, a, b, c⟩ := h i _ e
    exact ⟨ρ1, a, b, fun _ => c⟩
  · rw [List.filter_map, List.map_map]
    rfl
theorem sel_nums {P : Hs → Bool} {ss : List Hs} {gg : D → Rho → Option Rho} {C : Rho → T Bool} {E : Rho → T D} {ρ : Rho}
    (h : ∀ (i : Nat) (s : Hs), ss[i]? = some s → ∃ ρ1, gg (.int (i : Int)) ρ = some ρ1 ∧ C ρ1 = .ret (P s) ∧ E ρ1 = .ret (.int (i : Int))) : lcL gg C E (roL (List.range ss.length)) ρ = .ret (roL (sel P ss)) := by
  refine (lcL_pure (fun q => match q with | .int i => P (ss.getD i.toNat dft) | _ => false) (fun q => q) fun q hq => ?_).trans ?_
  · obtain ⟨i, hi, rfl⟩ := List.mem_map.mp hq
    have hl := List.mem_range.mp hi
    have e : ss[i]? = some (ss.getD i dft) := by rw [List.getElem?_eq_getElem hl, List.getD_eq_getElem?_getD, List.getElem?_eq_getElem hl]; rfl
    obtain ⟨ρ1, a, b, c⟩ := h i _ e
    exact ⟨ρ1, a, b, fun _ => c⟩
  · rw [List.map_id']
    unfold roL sel
    rw [List.filter_map]
    rfl
theorem sel_mem {P : Hs → Bool} {ss : List Hs} {i : Nat} (h : i ∈ sel P ss) : ∃ s, ss[i]? = some s ∧ P s = true := by
  obtain ⟨a, b⟩ := List.mem_filter.mp h
  have hl := List.mem_range.mp a
  exact ⟨ss.getD i dft, by rw [List.getElem?_eq_getElem hl, List.getD_eq_getElem?_getD, List.getElem?_eq_getElem hl]; rfl, b⟩
def p1 (s : Hs) : Bool := (decide (s.ph ∈ (["lying", "asleep"] : List Str)) != false) && s.mr == "no"
def p3 (s : Hs) : Bool := (decide (s.ph ∈ (["calling", "passing", "yielding", "woken"] : List Str)) != false) || ((decide (s.ph ∈ (["noted", "lying"] : List Str)) != false) && !(s.mr == "no"))
theorem in2a {x : Str} (h : PyData.strOk x = true) : inD false (.str x) (.tuple [.str "lying", .str "asleep"]) = .ret (.bool (decide (x ∈ (["lying", "asleep"] : List Str)) != false)) := in_t (W := ["lying", "asleep"]) h (by decide +kernel)
theorem in2b {x : Str} (h : PyData.strOk x = true) : inD false (.str x) (.tuple [.str "noted", .str "lying"]) = .ret (.bool (decide (x ∈ (["noted", "lying"] : List Str)) != false)) := in_t (W := ["noted", "lying"]) h (by decide +kernel)
theorem in4a {x : Str} (h : PyData.strOk x = true) : inD false (.str x) (.tuple [.str "calling", .str "passing", .str "yielding", .str "woken"]) = .ret (.bool (decide (x ∈ (["calling", "passing", "yielding", "woken"] : List Str)) != false)) := in_t (W := ["calling", "passing", "yielding", "woken"]) h (by decide +kernel)
end Zk27
namespace Zk27
open PySem PySem.Spec PyProof.Rows L2 Y
def p2 (t : Int) (s : Hs) : Bool := p1 s && decide (wantOf s ≤ t)
/-- what is_told needs of a standing -/
structure Tg (g : Sg) : Prop where
  gs : Gs g
  nz : ∀ s ∈ g.sts, p1 s = true → s.left ≠ []
theorem want_of {s : Hs} (h : s.left ≠ []) : ∃ d l, s.left = d :: l ∧ wantOf s = d.2 := by
  cases hq : s.left with
  | nil => exact absurd hq h
  | cons d l => exact ⟨d, l, rfl, by unfold wantOf; rw [hq]; rfl⟩
end Zk27
namespace Zk27
open PySem PySem.Spec PyProof.Rows L2 Y
theorem upto_ro (n : Nat) : upto 0 n = roL (List.range n) := by
  unfold upto roL
  apply List.map_congr_left
  intro k _
  show PyData.int (0 + (k : Int)) = _
  rw [Int.zero_add]
def threeD (g : Sg) : D := .list [roD (sel p1 g.sts), roD (sel (p2 g.tok) g.sts), roD (sel p3 g.sts)]
/-! what is shown of a standing -/
theorem rp_nat {i : Nat} (h : i < 1000) : Rp 1921 0 (.int (i : Int)) := rp_int (by omega)
theorem rp_ro {r : List Nat} (hl : r.length ≤ 5) (h : ∀ i ∈ r, i < 1000) : Rp 9618 1 (roD r) := by
  have q := rp_tup (n := 1921) (k := 0) (ds := roL r) fun d hd => by
    obtain ⟨i, hi, rfl⟩ := List.mem_map.mp hd
    exact rp_nat (h i hi)
  rw [roL_len] at q
  exact q.mono (by omega) (by omega)
theorem gd_w : ∀ x ∈ phs ++ mks ++ (["put", "take", "wish"] : List Str), Gd 12 x := by unfold Gd; decide +kernel
theorem rp_w {x : Str} (h : x ∈ phs ++ mks ++ (["put", "take", "wish"] : List Str)) : Rp 1921 0 (.str x) := (rp_str (gd_w x h)).mono (by decide) (by decide)
theorem rp_small {i : Int} (h0 : 1 ≤ i) (h1 : i ≤ 4) : Rp 10 0 (.int i) := by
  have : i = 1 ∨ i = 2 ∨ i = 3 ∨ i = 4 := by omega
  rcases this with rfl | rfl | rfl | rfl <;> exact ⟨by decide +kernel, rfl, Nat.le_refl _, ⟨by decide +kernel, by decide +kernel⟩⟩
theorem rp_st {s : Hs} (h : Hok s) : Rp 34677 3 (stD s) := by
  have h1 : Rp 11556 2 (leD s.left) := by
    have q := rp_tup (n := 251) (k := 1) (ds := s.left.map deD) fun d hd => by
      obtain ⟨x, hx, rfl⟩ := List.mem_map.mp hd
      obtain ⟨a, b, c⟩ := h.ld x hx
      exact rp_tup (n := 122) (k := 0) (ds := [.str x.1, .int x.2]) fun y hy => by
        rcases List.mem_cons.mp hy with rfl | hy
        · exact rp_str (gd_w _ (List.mem_append_right _ a))
        · rw [List.mem_singleton.mp hy]
          exact (rp_small b c).mono (by decide) (by decide)
    rw [List.length_map] at q
    have := h.l3
    exact q.mono (by omega) (by omega)
  exact rp_tup (n := 11556) (k := 2) (ds := [leD s.left, .str s.ph, .str s.mr]) fun y hy => by
    rcases List.mem_cons.mp hy with rfl | hy
    · exact h1
    · rcases List.mem_cons.mp hy with rfl | hy
      · exact (rp_w (List.mem_append_left _ (List.mem_append_left _ h.ph))).mono (by decide) (by decide)
      · rw [List.mem_singleton.mp hy]
        exact (rp_w (List.mem_append_left _ (List.mem_append_right _ h.mr))).mono (by decide) (by decide)
theorem rp_sg {n B : Nat} {g : Sg} (I : Inv3 n B g) (hB : B < 1000000) : Rp 530000 5 (sgD g) := by
  have n5 := I.n5
  have h1 : Rp 173398 4 (ssD g.sts) := by
    have q := rp_tup (n := 34677) (k := 3) (ds := g.sts.map stD) fun d hd => by
      obtain ⟨x, hx, rfl⟩ := List.mem_map.mp hd
      exact rp_st (I.st x hx)
    rw [List.length_map, I.len] at q
    have : n * (34677 + 2) ≤ 5 * 34679 := Nat.mul_le_mul n5 (by decide)
    exact q.mono (by omega) (by omega)
  have h2 : Rp 9618 1 (roD g.row) := rp_ro I.gd.r5 fun i hi => by have := I.rl i hi; omega
  have tk := I.tk
  have q := rp_tup (n := 173398) (k := 4) (ds := [.int g.tok, roD g.row, ssD g.sts]) fun y hy => by
    rcases List.mem_cons.mp hy with rfl | hy
    · exact (rp_int (by omega)).mono (by decide) (by decide)
    · rcases List.mem_cons.mp hy with rfl | hy
      · exact h2.mono (by decide) (by decide)
      · rw [List.mem_singleton.mp hy]; exact h1
  exact q.mono (by simp) (by omega)
theorem sel_lt {P : Hs → Bool} {ss : List Hs} {i : Nat} (h : i ∈ sel P ss) : i < ss.length := List.mem_range.mp (List.mem_filter.mp h).1
theorem sel_len {P : Hs → Bool} {ss : List Hs} : (sel P ss).length ≤ ss.length := by
  have a : (sel P ss).length ≤ (List.range ss.length).length := List.length_filter_le _ _
  rw [List.length_range] at a
  exact a
theorem rp_three {n B : Nat} {g : Sg} (I : Inv3 n B g) : Rp 30000 2 (threeD g) := by
  have n5 := I.n5
  have ln := I.len
  have one : ∀ P, Rp 9618 1 (roD (sel P g.sts)) := fun P => rp_ro (by have := sel_len (P := P) (ss := g.sts); omega) fun i hi => by have := sel_lt hi; omega
  have q := rp_list (n := 9618) (k := 1) (ds := [roD (sel p1 g.sts), roD (sel (p2 g.tok) g.sts), roD (sel p3 g.sts)]) fun y hy => by
    rcases List.mem_cons.mp hy with rfl | hy
    · exact one _
    · rcases List.mem_cons.mp hy with rfl | hy
      · exact one _
      · rw [List.mem_singleton.mp hy]; exact one _
  exact q.mono (by simp) (by omega)
end Zk27
namespace Zk27
open PySem PySem.Spec PyProof.Rows L2 Y
theorem eq_self {x : Str} {n : Nat} (g : Gd n x) : pyEq (.str x) (.str x) = .ret (.bool true) := by
  rw [eq_s g.2 g.2]
  simp
theorem ne_self {x : Str} {n : Nat} (g : Gd n x) : pyNe (.str x) (.str x) = .ret (.bool false) := by
  rw [ne_s g.2 g.2]
  simp
theorem Inv3.tg {n B : Nat} {g : Sg} (I : Inv3 n B g) : Tg g := by
  refine ⟨I.gd.gs, fun s hs hp => (I.st s hs).nz ?_⟩
  intro hf
  unfold p1 at hp
  rw [hf] at hp
  revert hp
  have : (decide (("free" : Str) ∈ (["lying", "asleep"] : List Str)) != false) = false := by decide +kernel
  rw [this]
  simp
theorem in_roD (neg : Bool) (r : List Nat) (h : Nat) : inD neg (.int (h : Int)) (roD r) = .ret (.bool (r.contains h != neg)) := in_ro neg r h
end Zk27
namespace Zk27
open PySem PySem.Spec PyProof.Rows L2 Y
theorem mv_lay (ms : List Mv) : PyData.canLayAll0 (ms.map mvD) = true ∧ PyData.depthAll (ms.map mvD) ≤ 10 := by
  induction ms with
  | nil => exact ⟨rfl, by simp [PyData.depthAll]⟩
  | cons m ms ih =>
    have q : PyData.canLay0 (mvD m) = true ∧ (mvD m).depth ≤ 10 := by
      cases m with
      | on h => exact ⟨by show (true && (PyData.canLay0 (.str "on") && true)) = true; rw [shaped_lay (shaped_s (by decide +kernel : PyData.strOk "on" = true))]; rfl, by simp [mvD, PyData.depth, PyData.depthAll]⟩
      | away h => exact ⟨by show (true && (PyData.canLay0 (.str "away") && true)) = true; rw [shaped_lay (shaped_s (by decide +kernel : PyData.strOk "away" = true))]; rfl, by simp [mvD, PyData.depth, PyData.depthAll]⟩
      | call h lot =>
        have hd := dp_ro lot
        refine ⟨?_, ?_⟩
        · show (true && (PyData.canLay0 (.str "call") && PyData.canLayAll0 (roL lot))) = true
          rw [shaped_lay (shaped_s (by decide +kernel : PyData.strOk "call" = true)), ro_lay]; rfl
        · show PyData.depthAll ([.int (h : Int), .str "call"] ++ roL lot) + 1 ≤ 10
          simp only [List.cons_append, List.nil_append, PyData.depthAll, PyData.depth]
          omega
    refine ⟨?_, ?_⟩
    · show (PyData.canLay0 (mvD m) && PyData.canLayAll0 (ms.map mvD)) = true
      rw [q.1, ih.1]; rfl
    · show max (mvD m).depth (PyData.depthAll (ms.map mvD)) ≤ 10
      have := q.2
      have := ih.2
      omega
theorem mv_sh (ms : List Mv) : SeqAt.shaped (.list (ms.map mvD)) = true := by
  obtain ⟨a, b⟩ := mv_lay ms
  unfold SeqAt.shaped
  rw [Bool.and_eq_true]
  exact ⟨a, decide_eq_true (by simp only [PyData.depth]; omega)⟩
theorem mv_eqn (ms : List Mv) : pyEq (.list (ms.map mvD)) (.list []) = .ret (.bool ms.isEmpty) := by
  unfold pyEq
  rw [ask_t ⟨mv_sh ms, rfl⟩]
  cases ms with
  | nil => rfl
  | cons a r => simp [PyData.eqv, PyData.eqvAll]
theorem mv_nen (ms : List Mv) : pyNe (.list (ms.map mvD)) (.list []) = .ret (.bool (!ms.isEmpty)) := by
  unfold pyNe
  rw [ask_t ⟨mv_sh ms, rfl⟩]
  cases ms with
  | nil => rfl
  | cons a r => simp [PyData.eqv, PyData.eqvAll]
def mvH : Mv → Nat
  | .on h => h
  | .away h => h
  | .call h _ => h
def mvW : Mv → Str
  | .on _ => "on"
  | .away _ => "away"
  | .call _ _ => "call"
theorem mv_0 (m : Mv) : pyIx (mvD m) (.int 0) = .ret (.int (mvH m : Int)) := by
  cases m <;> exact ix_t (i := 0) rfl
theorem mv_1 (m : Mv) : pyIx (mvD m) (.int 1) = .ret (.str (mvW m)) := by
  cases m <;> exact ix_t (i := 1) rfl
theorem mvW_ok : ∀ m : Mv, PyData.strOk (mvW m) = true
  | .on _ => by show PyData.strOk "on" = true; decide +kernel
  | .away _ => by show PyData.strOk "away" = true; decide +kernel
  | .call _ _ => by show PyData.strOk "call" = true; decide +kernel
def ownP (last : Nat) (m : Mv) : Bool := ((mvH m : Int) == (last : Int)) && !(mvW m == "away")
/-- a loop that may be left -/
theorem Tl.loopB {γ : Type} {F : Rho → T Out} {m : Nat} {gg : γ → Rho → Option Rho} {I : Nat → Rho → Prop} {Z : Rho → Prop} {xs : List γ} (hs : ∀ (x : Nat) (c : γ) (ρ : Rho), xs[x]? = some c → I x ρ → ∃ ρ1, gg c ρ = some ρ1 ∧ Tl (F ρ1) m fun o => ∃ ρ', (o = .nx ρ' ∧ I (x + 1) ρ') ∨ (o = .bk ρ' ∧ Z ρ')) :
    ∀ (rest : List γ) (x : Nat) (ρ : Rho), xs.drop x = rest → x + rest.length = xs.length → I x ρ → Tl (Y.forL gg F rest ρ) (m * rest.length) fun o => ∃ ρ', o = .nx ρ' ∧ (I xs.length ρ' ∨ Z ρ')
  | [], x, ρ, e, hl, h => .ret ⟨ρ, rfl, by rw [← hl]; exact .inl h⟩
  | c :: rest, x, ρ, e, hl, h => by
    have hx : xs[x]? = some c := by
      have : (xs.drop x)[0]? = some c := by rw [e]; rfl
      rwa [List.getElem?_drop, Nat.add_zero] at this
    obtain ⟨ρ1, h1, h2⟩ := hs x c ρ hx h
    have ih := Tl.loopB hs rest (x + 1)
    unfold Y.forL
    simp only [h1]
    refine (h2.bind (k := m * rest.length) ?_).mono (by rw [List.length_cons, Nat.mul_succ]; omega) fun _ z => z
    rintro _ ⟨ρ', ⟨rfl, hi⟩ | ⟨rfl, hz⟩⟩
    · exact ih ρ' (by rw [← List.drop_drop, e] <;> rfl) (by rw [← hl, List.length_cons]; omega) hi
    · exact .ret ⟨ρ', rfl, .inr hz⟩
theorem pick_okB {ds : List D} (h0 : 0 < ds.length) (h1 : ds.length < 1000000) : Tl (F__law_pick [hdl 0, .list ds]) 1 fun d => d ∈ ds := by
  rw [pick_eq]
  refine Tl.dr (by omega) (by omega) (by decide) fun r r0 r1 => ?_
  obtain ⟨d, hd, e⟩ := ix_in r0 r1
  rw [e]
  exact .ret hd
theorem pick_mv {ms : List Mv} (h0 : 0 < ms.length) (h1 : ms.length ≤ 9000) : Tl (F__law_pick [hdl 0, .list (ms.map mvD)]) 1 fun d => ∃ m ∈ ms, d = mvD m :=
  (pick_okB (by rw [List.length_map]; exact h0) (by rw [List.length_map]; omega)).imp fun d hd => by
    obtain ⟨m, hm, rfl⟩ := List.mem_map.mp hd
    exact ⟨m, hm, rfl⟩
/-- the standings so far -/
structure GoI (b pl mo : D) (w : Nat → Str) (g0 : Sg) (x : Nat) (ρ : Rho) : Prop where
  e : ∃ (run : List Mv) (last : Nat) (c4 c9 c10 c11 : S), ρ = [.dt (hdl 0), .dt b, .dt pl, .dt mo, c4, .dt (sgD (lastS w g0 run)), .dt (.int (last : Int)), .ow ((alongS w g0 run).map sgD), .ow (run.map mvD), c9, c10, c11] ∧ Path w g0 run ∧ run.length ≤ x
structure GoZ (b pl mo : D) (w : Nat → Str) (g0 : Sg) (x : Nat) (ρ : Rho) : Prop where
  e : ∃ (run : List Mv) (c4 c5 c6 c9 c10 c11 : S), ρ = [.dt (hdl 0), .dt b, .dt pl, .dt mo, c4, c5, c6, .ow ((alongS w g0 run).map sgD), .ow (run.map mvD), c9, c10, c11] ∧ Path w g0 run ∧ run.length ≤ x
end Zk27
namespace Zk27
open PySem PySem.Spec PyProof.Rows L2 Y
/-- programs, as they are drawn -/
structure Pl (n : Nat) (rows : List (List (Str × Int))) : Prop where
  len : rows.length = n
  n5 : n ≤ 5
  r3 : ∀ r ∈ rows, r.length ≤ 8
  ld : ∀ r ∈ rows, ∀ d ∈ r, d.1 ∈ (["put", "take", "wish"] : List Str) ∧ 1 ≤ d.2 ∧ d.2 ≤ 4
def plD (rows : List (List (Str × Int))) : D := .tuple (rows.map leD)
def beginS (rows : List (List (Str × Int))) : Sg := ⟨0, [], rows.map fun r => ⟨r, "free", "no"⟩⟩
theorem begin_inv {n : Nat} {rows : List (List (Str × Int))} (P : Pl n rows) : Inv3 n 0 (beginS rows) := by
  refine ⟨by show (rows.map _).length = n; rw [List.length_map, P.len], P.n5, List.nodup_nil, fun s hs => ?_, fun o s e => ?_, fun o ho => (nomatch ho), by show -((0 : Nat) : Int) ≤ 0 ∧ (0 : Int) ≤ ((0 : Nat) : Int); omega⟩
  · obtain ⟨r, hr, rfl⟩ := List.mem_map.mp hs
    exact ⟨by show ("free" : Str) ∈ phs; decide +kernel, by show ("no" : Str) ∈ mks; decide +kernel, fun q => absurd rfl q, P.r3 r hr, P.ld r hr⟩
  · refine ⟨fun q => (nomatch q), fun q => ?_⟩
    have hm := List.mem_of_getElem? e
    obtain ⟨r, hr, rfl⟩ := List.mem_map.mp hm
    exact absurd q (not_wn (.inl (by decide +kernel)))
end Zk27
namespace Zk27
open PySem PySem.Spec PyProof.Rows L2 Y
def GoneOk (w : Nat → Str) (g0 : Sg) (mo : Nat) (d : D) : Prop := ∃ run : List Mv, d = .tuple [.list ((alongS w g0 run).map sgD), .tuple (run.map mvD)] ∧ Path w g0 run ∧ run.length ≤ mo
/-- the standings along such a run -/
theorem GoneOk.along {w : Nat → Str} {n : Nat} {rows : List (List (Str × Int))} {mo : Nat} {d : D} (P : Pl n rows) (h : GoneOk w (beginS rows) mo d) (hm : mo ≤ 100) : ∃ (along : List Sg) (run : D), d = .tuple [.list (along.map sgD), run] ∧ (∀ a ∈ along, Inv3 n 40000 a) ∧ along ≠ [] ∧ along.length ≤ mo + 1 := by
  obtain ⟨run, rfl, p, hl⟩ := h
  exact ⟨_, _, rfl, fun a ha => inv_up ((path_inv (begin_inv P) p).2 a ha) (by omega), along_ne _ _, by rw [along_len]; omega⟩
end Zk27
namespace Zk27
open PySem PySem.Spec PyProof.Rows L2 Y
/-! ### books, as they are drawn -/
def TW : List (List Str) := [["ahead", "behind"], ["kept", "lost"], ["first", "last"], ["one", "each", "all"], ["tries", "takes", "given"], ["back", "front"], ["never", "left", "always"], ["passes", "drops"], ["free", "behind"], ["first", "any"]]
def wsD (l : List Str) : D := .tuple (l.map .str)
def InW : List (List Str) → List Str → Prop
  | [], [] => True
  | l :: T, w :: ws => w ∈ l ∧ InW T ws
  | _, _ => False
theorem inW_len : ∀ {T : List (List Str)} {ws : List Str}, InW T ws → ws.length = T.length
  | [], [], _ => rfl
  | _ :: _, _ :: _, h => by rw [List.length_cons, List.length_cons, inW_len h.2]
  | [], _ :: _, h => h.elim
  | _ :: _, [], h => h.elim
theorem inW_at : ∀ {T : List (List Str)} {ws : List Str} {i : Nat} {l : List Str} {w : Str}, InW T ws → T[i]? = some l → ws[i]? = some w → w ∈ l
  | [], _, _, _, _, _, h, _ => by simp at h
  | _ :: _, [], _, _, _, h, _, _ => h.elim
  | a :: T, v :: ws, 0, l, w, h, h1, h2 => by
    have h1 : a = l := by simpa using h1
    have h2 : v = w := by simpa using h2
    subst h1 h2
    exact h.1
  | a :: T, v :: ws, i + 1, l, w, h, h1, h2 => inW_at (T := T) h.2 (by simpa using h1) (by simpa using h2)
theorem inW_set : ∀ {T : List (List Str)} {ws : List Str} {i : Nat} {l : List Str} {w : Str}, T[i]? = some l → w ∈ l → InW T ws → InW T (ws.set i w)
  | [], _, _, _, _, h, _, _ => by simp at h
  | _ :: _, [], _, _, _, _, _, h => h.elim
  | a :: T, u :: ws, 0, l, w, h, hw, hb => by
    have : a = l := by simpa using h
    subst this
    exact ⟨hw, hb.2⟩
  | a :: T, u :: ws, i + 1, l, w, h, hw, hb => ⟨hb.1, inW_set (T := T) (by simpa using h) hw hb.2⟩
theorem tw_ok : ∀ l ∈ TW, 0 < l.length ∧ l.length ≤ 3 ∧ ∀ w ∈ l, PyData.strOk w = true := by decide +kernel
theorem book_w {ws : List Str} (h : InW TW ws) : BkW (wsD ws) (fun i => ws.getD i "no") := by
  have hl := inW_len h
  have h10 : ws.length = 10 := hl
  refine ⟨fun i hi => ?_, fun i => ?_, ?_⟩
  · have e : ws[i]? = some (ws.getD i "no") := by rw [List.getD_eq_getElem?_getD, List.getElem?_eq_getElem (by omega)]; rfl
    exact ix_t (by rw [List.getElem?_map, e]; rfl)
  · by_cases hi : i < 10
    · have e : ws[i]? = some (ws.getD i "no") := by rw [List.getD_eq_getElem?_getD, List.getElem?_eq_getElem (by omega)]; rfl
      obtain ⟨l, hl⟩ : ∃ l, TW[i]? = some l := ⟨_, List.getElem?_eq_getElem (by show i < 10; omega)⟩
      exact (tw_ok l (List.mem_of_getElem? hl)).2.2 _ (inW_at h hl e)
    · have e : ws.getD i "no" = "no" := by rw [List.getD_eq_getElem?_getD, List.getElem?_eq_none (by omega)]; rfl
      show PyData.strOk (ws.getD i "no") = true
      rw [e]; decide +kernel
  · have e : ws[3]? = some (ws.getD 3 "no") := by rw [List.getD_eq_getElem?_getD, List.getElem?_eq_getElem (by omega)]; rfl
    have := inW_at h (show TW[3]? = some (["one", "each", "all"] : List Str) from rfl) e
    simpa using this
theorem pick_eqT {ds : List D} : F__law_pick [hdl 0, .tuple ds] = .draw ds.length fun r => pyIx (.tuple ds) (.int r) := by
  show Y.run 2 D__law_pick [hdl 0, .tuple ds] = _
  unfold D__law_pick
  rw [run_retS]
  have e0 : ini 2 [hdl 0, .tuple ds] = [.dt (hdl 0), .dt (.tuple ds)] := rfl
  rw [e0]
  simp [F__law_draw]
theorem pick_word {l : List Str} (h0 : 0 < l.length) (h1 : l.length < 1000) : Tl (F__law_pick [hdl 0, wsD l]) 1 fun d => ∃ w ∈ l, d = .str w := by
  unfold wsD
  rw [pick_eqT]
  refine Tl.dr (by simp; omega) (by simp; omega) (by decide) fun r r0 r1 => ?_
  obtain ⟨d, hd, e⟩ := ix_inT r0 r1
  rw [e]
  obtain ⟨w, hw, rfl⟩ := List.mem_map.mp hd
  exact .ret ⟨w, hw, rfl⟩
theorem pick_wl {l : List Str} (h0 : 0 < l.length) (h1 : l.length < 1000) : Tl (F__law_pick [hdl 0, .list (l.map .str)]) 1 fun d => ∃ w ∈ l, d = .str w :=
  (pick_ok (by rw [List.length_map]; exact h0) (by rw [List.length_map]; exact h1)).imp fun d hd => by
    obtain ⟨w, hw, rfl⟩ := List.mem_map.mp hd
    exact ⟨w, hw, rfl⟩
end Zk27
namespace Zk27
open PySem PySem.Spec PyProof.Rows L2 Y
def IsBk (d : D) : Prop := ∃ ws, d = wsD ws ∧ InW TW ws
end Zk27
namespace Zk27
open PySem PySem.Spec PyProof.Rows L2 Y
theorem wl_ok {l : List Str} (hl : l.all PyData.strOk = true) {w : Str} (hw : w ∈ l) : PyData.strOk w = true := List.all_eq_true.mp hl w hw
theorem Tl.ifset {t : Rho → T Bool} {k : Bool} {K : Rho → T Out} {i M : Nat} {w x : Str} {ρ : Rho} {S' : Out → Prop} (ht : t ρ = .ret k) (hi : ρ[i]? = some (.dt (.str w))) (hk : ∀ w' : Str, w' = (if k then x else w) → Tl (K (ρ.set i (.dt (.str w')))) M S') : Tl (seqS (ifS t (asgS i (cD (.str x))) skipS) K ρ) M S' := by
  rw [q_ifS, ht]
  cases k
  · have hl := (List.getElem?_eq_some_iff.mp hi)
    have := hk w rfl
    have e : ρ.set i (.dt (.str w)) = ρ := by
      obtain ⟨h1, h2⟩ := hl
      rw [← h2]
      exact List.set_getElem_self h1
    rw [e] at this
    simpa using this
  · simpa using hk x rfl
/-- what a drawn book of a sort keeps -/
structure RB (ka kb : Bool) (w3 w4 w6 w7 w9 : Str) : Prop where
  a : (w4 == "tries") = true → ka = false → w3 = "all" ∧ w6 ∈ (["never", "left"] : List Str)
  n : (w6 == "never") = true → (w3 == "one") = false ∧ ((w4 == "given") && (kb && !ka)) = false
  q : kb = true → ((w3 == "all") && (w4 == "tries")) = false → w7 = "passes"
  o : (w4 == "given") = true → ka = false → w9 = "any"
def IsRb (ka kb : Bool) (d : D) : Prop := ∃ w3 w4 w5 w6 w7 w9 : Str, d = wsD ["ahead", "kept", "first", w3, w4, w5, w6, w7, "free", w9] ∧ w3 ∈ (["one", "each", "all"] : List Str) ∧ w4 ∈ (["tries", "given"] : List Str) ∧ w5 ∈ (["back", "front"] : List Str) ∧ w6 ∈ (["never", "left", "always"] : List Str) ∧ w7 ∈ (["passes", "drops"] : List Str) ∧ w9 ∈ (["first", "any"] : List Str) ∧ RB ka kb w3 w4 w6 w7 w9
theorem IsRb.bk {ka kb : Bool} {d : D} (h : IsRb ka kb d) : ∃ ws, d = wsD ws ∧ InW TW ws := by
  obtain ⟨w3, w4, w5, w6, w7, w9, rfl, h3, h4, h5, h6, h7, h9, _⟩ := h
  exact ⟨_, rfl, by simp, by simp, by simp, h3, (by simp at h4 ⊢; rcases h4 with h | h <;> simp [h]), h5, h6, h7, by simp, h9, trivial⟩
theorem rb_tail {ka kb : Bool} {sD : D} {w3 w4 w6 : Str} (h3 : w3 ∈ (["one", "each", "all"] : List Str)) (h4 : w4 ∈ (["tries", "given"] : List Str)) (h6 : w6 ∈ (["never", "left", "always"] : List Str)) (ha : (w4 == "tries") = true → ka = false → w3 = "all" ∧ w6 ∈ (["never", "left"] : List Str)) :
    Tl ((seqS (ifS (andT (opT pyEq (gv 3) (cD (.str "never"))) (orT (opT pyEq (gv 2) (cD (.str "one"))) (andT (opT pyEq (gv 9) (cD (.str "given"))) (andT (fun ρ => ((gv 8) ρ).bind truth) (notT (fun ρ => ((gv 7) ρ).bind truth)))))) (asgS 3 (cD (.str "left"))) skipS)
    (seqS (asgS 4 (callD 2 F__law_pick (consT (gv 0) (consT (lstD (consT (cD (.str "passes")) (consT (cD (.str "drops")) nilA))) nilA))))
    (seqS (ifS (andT (fun ρ => ((gv 8) ρ).bind truth) (notT (andT (opT pyEq (gv 2) (cD (.str "all"))) (opT pyEq (gv 9) (cD (.str "tries")))))) (asgS 4 (cD (.str "passes"))) skipS)
    (seqS (asgS 5 (ifT (andT (opT pyEq (gv 9) (cD (.str "given"))) (notT (fun ρ => ((gv 7) ρ).bind truth))) (cD (.str "any")) (callD 2 F__law_pick (consT (gv 0) (consT (lstD (consT (cD (.str "first")) (consT (cD (.str "any")) nilA))) nilA)))))
    (seqS (asgS 6 (callD 2 F__law_pick (consT (gv 0) (consT (lstD (consT (cD (.str "back")) (consT (cD (.str "front")) nilA))) nilA))))
    (retS (tupD (consT (cD (.str "ahead")) (consT (cD (.str "kept")) (consT (cD (.str "first")) (consT (gv 2) (consT (gv 9) (consT (gv 6) (consT (gv 3) (consT (gv 4) (consT (cD (.str "free")) (consT (gv 5) nilA))))))))))))))))) [.dt (hdl 0), .dt sD, .dt (.str w3), .dt (.str w6), .un, .un, .un, .dt (.bool ka), .dt (.bool kb), .dt (.str w4)]) 3 fun o => ∃ d, o = .rt d ∧ IsRb ka kb d := by
  have o3 := wl_ok (by decide +kernel) h3
  have o4 := wl_ok (by decide +kernel) h4
  have o6 := wl_ok (by decide +kernel) h6
  have a1 := ok_w o6 "never"
  have a2 := ok_w o3 "one"
  have a3 := ok_w o4 "given"
  have a4 := ok_w o3 "all"
  have a5 := ok_w o4 "tries"
  refine Tl.ifset (k := (w6 == "never") && ((w3 == "one") || ((w4 == "given") && (kb && !ka)))) (w := w6) ?_ rfl ?_
  · clear ha
    generalize (w6 == ("never" : Str)) = x1 at *
    generalize (w3 == ("one" : Str)) = x2 at *
    generalize (w4 == ("given" : Str)) = x3 at *
    cases x1 <;> cases x2 <;> cases x3 <;> cases kb <;> simp [a1, a2, a3]
  intro w6' e6
  have hn : (w6' == "never") = true → (w3 == "one") = false ∧ ((w4 == "given") && (kb && !ka)) = false := by
    intro z
    subst e6
    cases q1 : ((w6 == "never") && ((w3 == "one") || ((w4 == "given") && (kb && !ka))))
    · rw [q1] at z
      have z : (w6 == "never") = true := z
      rw [z] at q1
      simpa using q1
    · rw [q1] at z
      have z : (("left" : Str) == "never") = true := z
      exact absurd z (by decide +kernel)
  have h6' : w6' ∈ (["never", "left", "always"] : List Str) := by subst e6; split; simp; exact h6
  have ha' : (w4 == "tries") = true → ka = false → w3 = "all" ∧ w6' ∈ (["never", "left"] : List Str) := fun z1 z2 => by
    obtain ⟨u1, u2⟩ := ha z1 z2
    refine ⟨u1, ?_⟩
    subst e6; split; simp; exact u2
  clear e6
  refine Tl.asgK (m := 1) (k := 2) (P := fun d => ∃ w ∈ (["passes", "drops"] : List Str), d = .str w) ?_ ?_
  · exact pick_wl (l := ["passes", "drops"]) (by decide) (by decide)
  rintro _ ⟨w7, h7, rfl⟩
  refine Tl.ifset (k := kb && !((w3 == "all") && (w4 == "tries"))) (w := w7) ?_ rfl ?_
  · clear ha hn ha'
    generalize (w3 == ("all" : Str)) = x1 at *
    generalize (w4 == ("tries" : Str)) = x2 at *
    cases x1 <;> cases x2 <;> cases kb <;> simp [a4, a5]
  intro w7' e7
  have h7' : w7' ∈ (["passes", "drops"] : List Str) := by subst e7; split; simp; exact h7
  have hq : kb = true → ((w3 == "all") && (w4 == "tries")) = false → w7' = "passes" := fun z1 z2 => by
    rw [e7, z1, z2]; rfl
  clear e7
  have fin : ∀ {w9 : Str} {c0 : S}, w9 ∈ (["first", "any"] : List Str) → ((w4 == "given") = true → ka = false → w9 = "any") → Tl ((seqS (asgS 6 (callD 2 F__law_pick (consT (gv 0) (consT (lstD (consT (cD (.str "back")) (consT (cD (.str "front")) nilA))) nilA))))
    (retS (tupD (consT (cD (.str "ahead")) (consT (cD (.str "kept")) (consT (cD (.str "first")) (consT (gv 2) (consT (gv 9) (consT (gv 6) (consT (gv 3) (consT (gv 4) (consT (cD (.str "free")) (consT (gv 5) nilA))))))))))))) [.dt (hdl 0), .dt sD, .dt (.str w3), .dt (.str w6'), .dt (.str w7'), .dt (.str w9), .un, .dt (.bool ka), .dt (.bool kb), .dt (.str w4)]) 1 fun o => ∃ d, o = .rt d ∧ IsRb ka kb d := fun {w9 c0} h9 ho => by
    simp
    refine Tl.at0 (pick_wl (l := ["back", "front"]) (by decide) (by decide)) (by decide) ?_
    rintro _ ⟨w5, h5, rfl⟩
    exact Tl.rt ⟨w3, w4, w5, w6', w7', w9, rfl, h3, h4, h5, h6', h7', h9, ⟨ha', hn, hq, ho⟩⟩
  cases q9 : ((w4 == "given") && !ka)
  · have a6 : (ifT (andT (opT pyEq (gv 9) (cD (.str "given"))) (notT (fun ρ => ((gv 7) ρ).bind truth))) (cD (.str "any")) (callD 2 F__law_pick (consT (gv 0) (consT (lstD (consT (cD (.str "first")) (consT (cD (.str "any")) nilA))) nilA)))) [.dt (hdl 0), .dt sD, .dt (.str w3), .dt (.str w6'), .dt (.str w7'), .un, .un, .dt (.bool ka), .dt (.bool kb), .dt (.str w4)] = F__law_pick [hdl 0, .list ((["first", "any"] : List Str).map .str)] := by
      clear fin hn
      generalize (w4 == ("given" : Str)) = x1 at *
      revert q9
      cases x1 <;> cases ka <;> simp [a3]
    rw [q_asgS]
    refine Tl.at0 (m0 := 1) (P := fun d => ∃ w ∈ (["first", "any"] : List Str), d = .str w) ?_ (by decide) ?_
    · show Tl (ifT _ _ _ [.dt (hdl 0), .dt sD, .dt (.str w3), .dt (.str w6'), .dt (.str w7'), .un, .un, .dt (.bool ka), .dt (.bool kb), .dt (.str w4)]) _ _
      rw [a6]
      exact pick_wl (l := ["first", "any"]) (by decide) (by decide)
    rintro _ ⟨w9, h9, rfl⟩
    exact fin (c0 := .un) h9 fun z1 z2 => by rw [z1, z2] at q9; cases q9
  · have a6 : (ifT (andT (opT pyEq (gv 9) (cD (.str "given"))) (notT (fun ρ => ((gv 7) ρ).bind truth))) (cD (.str "any")) (callD 2 F__law_pick (consT (gv 0) (consT (lstD (consT (cD (.str "first")) (consT (cD (.str "any")) nilA))) nilA)))) [.dt (hdl 0), .dt sD, .dt (.str w3), .dt (.str w6'), .dt (.str w7'), .un, .un, .dt (.bool ka), .dt (.bool kb), .dt (.str w4)] = .ret (.str "any") := by
      clear fin hn
      generalize (w4 == ("given" : Str)) = x1 at *
      revert q9
      cases x1 <;> cases ka <;> simp [a3]
    rw [q_asgS]
    refine Tl.at0 (m0 := 1) (P := fun d => d = .str "any") ?_ (by decide) ?_
    · show Tl (ifT _ _ _ [.dt (hdl 0), .dt sD, .dt (.str w3), .dt (.str w6'), .dt (.str w7'), .un, .un, .dt (.bool ka), .dt (.bool kb), .dt (.str w4)]) _ _
      rw [a6]
      exact .ret rfl
    rintro _ rfl
    exact fin (c0 := .un) (by simp) fun _ _ => rfl
end Zk27
namespace Zk27
open PySem PySem.Spec PyProof.Rows L2 Y
theorem words_at {i : Nat} (hi : i < 10) : ∃ l, TW[i]? = some l ∧ pyIx (.list (TW.map wsD)) (.int (i : Int)) = .ret (wsD l) := by
  obtain ⟨l, hl⟩ : ∃ l, TW[i]? = some l := ⟨_, List.getElem?_eq_getElem (by show i < 10; omega)⟩
  exact ⟨l, hl, ix_l (by rw [List.getElem?_map, hl]; rfl)⟩
def BTurn (c2 c4 : S) (o : Out) : Prop := ∃ ws c3, InW TW ws ∧ o = .nx [.dt (hdl 0), .dt (wsD ws), c2, c3, c4]
end Zk27
namespace Zk27
open PySem PySem.Spec PyProof.Rows L2 Y
/-! ### programs, as they are drawn -/
def DeedOk (d : Str × Int) : Prop := d.1 ∈ (["put", "take", "wish"] : List Str) ∧ 1 ≤ d.2 ∧ d.2 ≤ 4
theorem of_deD {P : Str × Int → Prop} : ∀ {ds : List D}, (∀ d ∈ ds, ∃ x, P x ∧ d = deD x) → ∃ r : List (Str × Int), ds = r.map deD ∧ ∀ x ∈ r, P x
  | [], _ => ⟨[], rfl, fun _ h => nomatch h⟩
  | d :: ds, h => by
    obtain ⟨x, hx, rfl⟩ := h d List.mem_cons_self
    obtain ⟨r, e, q⟩ := of_deD fun d hd => h d (List.mem_cons_of_mem _ hd)
    refine ⟨x :: r, by rw [e]; rfl, fun y hy => ?_⟩
    rcases List.mem_cons.mp hy with rfl | hy
    · exact hx
    · exact q y hy
theorem alike_de (x y : Str × Int) : PySem.W.alike (deD x) (deD y) = true := rfl
theorem nd_de (r : List (Str × Int)) : PyData.hasDictAll (r.map deD) = false := by
  induction r with
  | nil => rfl
  | cons a r ih => show (PyData.hasDict (deD a) || PyData.hasDictAll (r.map deD)) = false; rw [ih]; rfl
theorem dp_de (r : List (Str × Int)) : PyData.depthAll (r.map deD) ≤ 10 := by
  induction r with
  | nil => simp [PyData.depthAll]
  | cons p l ih =>
    have q : (deD p).depth ≤ 10 := by simp [deD, PyData.depth, PyData.depthAll]
    show max (deD p).depth (PyData.depthAll (l.map deD)) ≤ 10
    omega
theorem sort_deeds {P : Str × Int → Prop} {r : List (Str × Int)} (h : ∀ x ∈ r, P x) : ∃ r' : List (Str × Int), sortedX (.list (r.map deD)) = .ret (.list (r'.map deD)) ∧ (∀ x ∈ r', P x) ∧ r'.length = r.length := by
  have pm : (sortL (r.map deD)).Perm (r.map deD) := List.mergeSort_perm _ _
  obtain ⟨r', e, q⟩ := of_deD (P := P) (ds := sortL (r.map deD)) fun d hd => by
    obtain ⟨x, hx, rfl⟩ := List.mem_map.mp (pm.mem_iff.mp hd)
    exact ⟨x, h x hx, rfl⟩
  have al : alikeL (r.map deD) = true := by
    unfold alikeL
    rw [List.all_eq_true]
    intro d hd
    rw [List.all_eq_true]
    intro d' hd'
    obtain ⟨i, _, rfl⟩ := List.mem_map.mp hd
    obtain ⟨j, _, rfl⟩ := List.mem_map.mp hd'
    exact alike_de i j
  have nd := nd_de r
  have dp : PyData.depthAll (r.map deD) ≤ 50 := Nat.le_trans (dp_de r) (by decide)
  refine ⟨r', ?_, q, ?_⟩
  · show (if oneB (r.map deD) then _ else _) = _
    by_cases h1 : oneB (r.map deD) = true
    · rw [if_pos h1, ask_t ⟨al, nd, dp⟩, e]
    · rw [if_neg h1]
      show Y.ask _ _ = _
      have h3 : sortB (r.map deD) = true := by
        unfold sortB
        rw [Bool.or_eq_true]
        refine .inl ?_
        rw [List.all_eq_true]
        intro d hd
        obtain ⟨x, _, rfl⟩ := List.mem_map.mp hd
        rfl
      rw [ask_t ⟨al, h3, nd, dp⟩, e]
  · have := pm.length_eq
    rw [e, List.length_map, List.length_map] at this
    exact this
/-- a deed of a sort -/
structure DeedS (ka kb : Bool) (d : Str × Int) : Prop where
  ok : DeedOk d
  like : d.1 ≠ "put" → ka = true → d.2 = 1
  leav : d.1 = "wish" → kb = true
theorem wish_put : ("put" : Str) ≠ "wish" := by decide +kernel
/-- one deed more -/
def DTurn (kb : Bool) (a b : Str) (hands most h : Int) (c5 c8 : S) (wl : List Str) (RR : List D) (o : Out) : Prop := ∃ x : Str × Int, DeedS (a == "like") kb x ∧ o = .nx [.dt (hdl 0), .dt (.tuple [.str a, .str b]), .dt (.int hands), .dt (.int most), .dt (.int h), c5, .dt (.list (wl.map .str)), .ow (RR ++ [deD x]), c8]
end Zk27
namespace Zk27
open PySem PySem.Spec PyProof.Rows L2 Y
def RowOk (ka kb : Bool) (mo : Nat) (r : List (Str × Int)) : Prop := 1 ≤ r.length ∧ r.length ≤ mo ∧ ∀ x ∈ r, DeedS ka kb x
theorem rev_l (ds : List D) : pyRevL (.list ds) = .ret (.list ds.reverse) := rfl
/-- the programs so far -/
def RowsI (ka kb : Bool) (sD hD mD wD : D) (n : Nat) (mo : Nat) (ρ : Rho) : Prop := ∃ (rows : List (List (Str × Int))) (c4 c7 c8 : S), ρ = [.dt (hdl 0), .dt sD, .dt hD, .dt mD, c4, .ow (rows.map leD), .dt wD, c7, c8] ∧ rows.length = n ∧ ∀ r ∈ rows, RowOk ka kb mo r
def RTurn (ka kb : Bool) (sD hD mD wD : D) (n : Nat) (mo : Nat) (o : Out) : Prop := ∃ ρ, o = .nx ρ ∧ RowsI ka kb sD hD mD wD n mo ρ
def DeedsOk (ka kb : Bool) (n mo : Nat) (d : D) : Prop := ∃ rows : List (List (Str × Int)), d = .tuple (rows.map leD) ∧ rows.length = n ∧ ∀ r ∈ rows, RowOk ka kb mo r
end Zk27
namespace Zk27
open PySem PySem.Spec PyProof.Rows L2 Y
theorem DeedsOk.pl {ka kb : Bool} {n mo : Nat} {d : D} (h : DeedsOk ka kb n mo d) (h5 : n ≤ 5) (h8 : mo ≤ 8) : ∃ rows, d = plD rows ∧ Pl n rows ∧ rows.length = n ∧ ∀ r ∈ rows, RowOk ka kb mo r := by
  obtain ⟨rows, rfl, hl, hr⟩ := h
  exact ⟨rows, rfl, ⟨hl, h5, fun r hm => Nat.le_trans (hr r hm).2.1 h8, fun r hm d hd => ((hr r hm).2.2 d hd).ok⟩, hl, hr⟩
theorem ix_last {ds : List D} {d : D} : pyIx (.list (ds ++ [d])) (.int (-1)) = .ret d := by
  show orBad (L2.atI (ds ++ [d]) (-1)) = _
  have : L2.atI (ds ++ [d]) (-1) = some d := by
    unfold L2.atI
    have q : L2.ixN (ds.length + 1) (-1) = some ds.length := by unfold L2.ixN; simp; omega
    simp [q]
  rw [this]
  rfl
end Zk27
namespace Zk27
open PySem PySem.Spec PyProof.Rows L2 Y
/-! rest, hands left asleep, harm -/
def stillB (s : Hs) : Bool := (s.ph == ("asleep" : Str)) || ((s.ph == ("free" : Str)) && s.left.isEmpty)
def enoughB (t : Int) (s : Hs) : Bool := (s.ph == ("asleep" : Str)) && ((s.mr == ("given" : Str)) || decide (wantOf s ≤ t))
theorem le_eq (l : List (Str × Int)) (ok : ∀ d ∈ l, PyData.strOk d.1 = true) : pyEq (leD l) (.tuple []) = .ret (.bool l.isEmpty) := by
  have h := le_ne l ok
  unfold pyNe at h
  unfold pyEq
  by_cases q : SeqAt.shaped (leD l) = true ∧ SeqAt.shaped (.tuple []) = true
  · rw [ask_t q] at h ⊢
    simp only [T.ret.injEq, PyData.bool.injEq] at h
    congr 2
    cases h1 : PyData.eqv (leD l) (.tuple []) <;> rw [h1] at h <;> cases h2 : l.isEmpty <;> rw [h2] at h <;> simp_all
  · unfold Y.ask at h
    rw [if_neg q] at h
    cases h
theorem bools_of (bs : List Bool) : boolsOf (bs.map .bool) = some bs := by
  induction bs with
  | nil => rfl
  | cons b bs ih =>
    show (boolsOf (bs.map PyData.bool)).map (b :: ·) = _
    rw [ih]; rfl
theorem all_bools (bs : List Bool) : allD (.list (bs.map .bool)) = .ret (.bool (bs.all id)) := by
  show (match boolsOf (bs.map PyData.bool) with | some ks => T.ret (PyData.bool (ks.all id)) | none => .bad) = _
  rw [bools_of]
end Zk27
namespace Zk27
open PySem PySem.Spec PyProof.Rows L2 Y
def hnd : Mv → Nat
  | .on h => h
  | .away h => h
  | .call h _ => h
end Zk27
namespace Zk27
open PySem PySem.Spec PyProof.Rows L2 Y
/-! ### moves that are formed; move_error, moved, moves -/
theorem within_int {i a b : Int} : F_is_within [.int i, .int a, .int b] = .ret (.bool (decide (a ≤ i) && decide (i ≤ b))) := by
  refine run_rt ?_
  have e0 : ini 3 [.int i, .int a, .int b] = [.dt (.int i), .dt (.int a), .dt (.int b)] := rfl
  rw [e0]
  have k1 : isi1 "int" (.int i) = .ret (.bool true) := rfl
  have k2 : isi1 "bool" (.int i) = .ret (.bool false) := rfl
  have c : chainD pyLe pyLe (gv 1) (gv 0) (gv 2) [.dt (.int i), .dt (.int a), .dt (.int b)] = .ret (.bool (decide (a ≤ i) && decide (i ≤ b))) := by
    by_cases h : a ≤ i
    · simp [chainD, h]
    · simp [chainD, h]
  unfold D_is_within
  generalize chainD pyLe pyLe (gv 1) (gv 0) (gv 2) = CC at *
  simp [k1, k2, c]
theorem within_nat {i n : Nat} : F_is_within [.int (i : Int), .int 0, .int ((n : Int) - 1)] = .ret (.bool (decide (i < n))) := by
  rw [within_int]
  congr 2
  rw [Bool.eq_iff_iff]
  simp
  omega
/-- a tuple of a hand, a word, hands -/
def mvT (h : Nat) (x : Str) (lot : List Nat) : D := .tuple (.int (h : Int) :: .str x :: roL lot)
def wordM : Mv → Str
  | .on _ => "on"
  | .away _ => "away"
  | .call _ _ => "call"
def lotM : Mv → List Nat
  | .call _ l => l
  | _ => []
theorem mvD_T (m : Mv) : mvD m = mvT (hnd m) (wordM m) (lotM m) := by cases m <;> rfl
def formB (n h : Nat) (x : Str) (lot : List Nat) : Bool := (decide (h < n) && lot.all fun i => decide (i < n)) && if x == ("call" : Str) then decide lot.Nodup else lot.isEmpty
def MWs : List Str := ["on", "away", "call"]
theorem ints_ro (l : List Nat) : intsOf (roL l) = some (l.map fun i : Nat => (i : Int)) := by
  unfold roL
  induction l with
  | nil => rfl
  | cons a l ih =>
    simp only [List.map_cons, intsOf, ih]
    rfl
theorem nodup_ints (l : List Nat) : (l.map fun i : Nat => (i : Int)).Nodup ↔ l.Nodup := by
  unfold List.Nodup
  rw [List.pairwise_map]
  exact ⟨fun h => h.imp fun q z => q (by rw [z]), fun h => h.imp fun q z => q (by omega)⟩
theorem set_ro (l : List Nat) (h : l.length ≤ 4000) : ∃ k : Nat, lenSet1 (.tuple (roL l)) = .ret (.int (k : Int)) ∧ ((k : Int) == (l.length : Int)) = decide l.Nodup := by
  refine ⟨(unlike (l.map fun i : Nat => (i : Int))).length, ?_, ?_⟩
  · show (match intsOf (roL l) with | some ns => Y.ask (ns.length ≤ 4000) (T.ret (PyData.int ((unlike ns).length : Nat))) | none => T.bad) = _
    rw [ints_ro]
    exact ask_t (by rw [List.length_map]; exact h)
  · have q := unlike_full (xs := l.map fun i : Nat => (i : Int))
    rw [nodup_ints, List.length_map] at q
    rw [Bool.eq_iff_iff]
    simp only [decide_eq_true_eq, beq_iff_eq]
    rw [← q]
    omega
theorem formed_eq {n h : Nat} {x : Str} {lot : List Nat} (hx : x ∈ MWs) (hl : lot.length ≤ 50) : F_is_formed [mvT h x lot, .int (n : Int)] = .ret (.bool (formB n h x lot)) := by
  refine run_rt ?_
  have e0 : ini 4 [mvT h x lot, .int (n : Int)] = [.dt (mvT h x lot), .dt (.int (n : Int)), .un, .un] := rfl
  rw [e0]
  have hok : PyData.strOk x = true := by
    have : ∀ x ∈ MWs, PyData.strOk x = true := by decide +kernel
    exact this x hx
  have k1 : isi1 "tuple" (mvT h x lot) = .ret (.bool true) := rfl
  have ln : len1 (mvT h x lot) = .ret (.int ((roL lot).length + 2 : Nat)) := rfl
  have i1 : pyIx (mvT h x lot) (.int 1) = .ret (.str x) := ix_t (i := 1) rfl
  have inw : inD true (.str x) K_MOVE_WORDS = .ret (.bool false) := (in_t (W := MWs) hok (by decide +kernel)).trans (by rw [decide_eq_true hx]; rfl)
  have inw2 : inS true (.str x) K_MOVE_WORDS = .ret (.bool false) := inw
  have s2 : pySl (mvT h x lot) (some 2) none = .ret (.tuple (roL lot)) := sl_tl (ds := PyData.int (h : Int) :: PyData.str x :: roL lot) (i := 2)
  have s1 : pySl (mvT h x lot) none (some 1) = .ret (.tuple [.int (h : Int)]) := sl_hd (ds := PyData.int (h : Int) :: PyData.str x :: roL lot) (i := 1)
  have ad : pyAdd (.tuple [.int (h : Int)]) (.tuple (roL lot)) = .ret (.tuple (roL (h :: lot))) := add_t (by rw [roL_len]; simp; omega)
  have lc : lcL (toSlot 3) yesT E_is_formed_1 (roL (h :: lot)) [.dt (mvT h x lot), .dt (.int (n : Int)), .dt (.tuple (roL lot)), .un] = .ret (((h :: lot).map fun i => decide (i < n)).map .bool) := by
    have q := lcL_filL (ρ := [.dt (mvT h x lot), .dt (.int (n : Int)), .dt (.tuple (roL lot)), .un]) (gg := toSlot 3) (t := yesT) (e := E_is_formed_1) (l := h :: lot) (fun i : Nat => PyData.int (i : Int)) (fun _ => true) (fun i => .bool (decide (i < n))) fun i _ => ⟨[.dt (mvT h x lot), .dt (.int (n : Int)), .dt (.tuple (roL lot)), .dt (.int (i : Int))], rfl, rfl, fun _ => by
      have w := within_nat (i := i) (n := n)
      generalize mvT h x lot = M
      simp [E_is_formed_1, w]⟩
    rw [List.filter_eq_self.mpr fun _ _ => rfl] at q
    rw [List.map_map]
    exact q
  have al := all_bools ((h :: lot).map fun i => decide (i < n))
  have ea : (((h :: lot).map fun i => decide (i < n)).all id) = (decide (h < n) && lot.all fun i => decide (i < n)) := by
    rw [List.map_cons, List.all_cons, List.all_map]; rfl
  rw [ea] at al
  have hz : (roL (h :: lot)).length ≤ sizeLine := size15 (by rw [roL_len]; simp; omega)
  have sq : seqOf (.tuple (roL (h :: lot))) = .ret (roL (h :: lot)) := rfl
  have ne := nok_w hok "call"
  have em := ro_eq lot
  obtain ⟨k, ls, lk⟩ := set_ro lot (by omega)
  have ll : len1 (.tuple (roL lot)) = .ret (.int (lot.length : Int)) := by
    show T.ret (PyData.int (roL lot).length) = _
    rw [roL_len]
  have lt : pyLt (.int ((roL lot).length + 2 : Nat)) (.int 2) = .ret (.bool false) := by
    show T.ret (PyData.bool (decide (((roL lot).length + 2 : Nat) < (2 : Int)))) = _
    rw [decide_eq_false (by omega)]
  have eqk : pyEq (.int (k : Int)) (.int (lot.length : Int)) = .ret (.bool (decide lot.Nodup)) := by
    rw [← lk]
    exact eq_i
  unfold formB
  have rd : roD lot = .tuple (roL lot) := rfl
  rw [rd] at em
  generalize (decide (h < n) && lot.all fun i => decide (i < n)) = A at *
  generalize ((h :: lot).map fun i => decide (i < n)).map PyData.bool = BB at *
  generalize roL (h :: lot) = R2 at *
  generalize decide lot.Nodup = ND at *
  generalize lot.isEmpty = EM at *
  generalize (x == ("call" : Str)) = CX at *
  generalize mvT h x lot = M at *
  generalize roL lot = RL at *
  generalize (lot.length : Int) = LL at *
  generalize (k : Int) = KK at *
  generalize ((RL.length + 2 : Nat) : Int) = L2 at *
  generalize (n : Int) = NN at *
  unfold D_is_formed
  have tb : ∀ b : Bool, truth (.bool b) = .ret b := fun _ => rfl
  cases A <;> cases CX <;> simp [k1, ln, lt, i1, inw, inw2, s2, s1, ad, sq, hz, lc, asData, al, ne, em, ls, ll, eqk, tb, noP, asInt]
end Zk27
namespace Zk27
open PySem PySem.Spec PyProof.Rows L2 Y
/-! ### texts of runs -/
theorem gd_jn {L : Nat} {s : Str} (hs : Gd 2 s) : ∀ (ts : List Str), (∀ t ∈ ts, Gd L t) → Gd (ts.length * (L + 2)) (Str.join s ts)
  | [], _ => Gd.mono (m := 0) (x := Str.empty) ⟨by decide +kernel, by decide +kernel⟩ (Nat.zero_le _)
  | [x], h => (h x List.mem_cons_self).mono (by simp)
  | x :: y :: r, h => by
    have ih := gd_jn hs (y :: r) fun u hu => h u (List.mem_cons_of_mem _ hu)
    have := ((h x List.mem_cons_self).app hs).app ih
    exact this.mono (by simp only [List.length_cons, Nat.succ_mul]; omega)
theorem jn_free {c : Nat} {s : Str} (hs : c ∉ cl s) : ∀ {ps : List Str}, (∀ p ∈ ps, c ∉ cl p) → c ∉ cl (Str.join s ps)
  | [], _ => by
    have e : Str.join s [] = Str.empty := rfl
    rw [e]
    simp [Str.empty]
  | [x], h => h x List.mem_cons_self
  | x :: y :: r, h => by
    have ih := jn_free hs (ps := y :: r) fun p hp => h p (List.mem_cons_of_mem _ hp)
    have e : Str.join s (x :: y :: r) = x ++ s ++ Str.join s (y :: r) := rfl
    rw [e, cl_app, cl_app]
    simp only [List.mem_append, not_or]
    exact ⟨⟨h x List.mem_cons_self, hs⟩, ih⟩
/-- a move that is formed: a hand below 5, a word, hands -/
structure HMv where
  h : Nat
  x : Str
  lot : List Nat
def HMv.d (m : HMv) : D := mvT m.h m.x m.lot
structure HMv.Ok (m : HMv) : Prop where
  w : m.x ∈ MWs
  f : formB 5 m.h m.x m.lot = true
def dg (i : Nat) : Str := ((toString (i : Int) : String) : Str)
def mparts (m : HMv) : List Str := dg m.h :: m.x :: m.lot.map dg
def mtxt (m : HMv) : Str := Txt.join " " (mparts m)
def runT (r : List HMv) : Str := Txt.join "; " (r.map mtxt)
theorem ok_h {m : HMv} (o : m.Ok) : m.h < 5 ∧ (∀ i ∈ m.lot, i < 5) ∧ m.lot.Nodup ∧ m.lot.length ≤ 5 := by
  have f := o.f
  unfold formB at f
  simp only [Bool.and_eq_true, decide_eq_true_eq, List.all_eq_true] at f
  obtain ⟨⟨a, b⟩, c⟩ := f
  have nd : m.lot.Nodup := by
    split at c
    · exact of_decide_eq_true c
    · rw [List.isEmpty_iff.mp c]; exact List.nodup_nil
  refine ⟨a, b, nd, ?_⟩
  have := nodup_len (n := 5) nd b
  exact this
theorem dg_ok {i : Nat} (h : i < 5) : Gd 1 (dg i) ∧ (32 : Nat) ∉ (dg i).cps.toList ∧ (59 : Nat) ∉ (dg i).cps.toList ∧ 0 < (dg i).length := by
  have : ∀ i, i < 5 → Gd 1 (dg i) ∧ (32 : Nat) ∉ (dg i).cps.toList ∧ (59 : Nat) ∉ (dg i).cps.toList ∧ 0 < (dg i).length := by
    intro i hi
    match i, hi with
    | 0, _ => exact ⟨⟨by decide +kernel, by decide +kernel⟩, by decide +kernel, by decide +kernel, by decide +kernel⟩
    | 1, _ => exact ⟨⟨by decide +kernel, by decide +kernel⟩, by decide +kernel, by decide +kernel, by decide +kernel⟩
    | 2, _ => exact ⟨⟨by decide +kernel, by decide +kernel⟩, by decide +kernel, by decide +kernel, by decide +kernel⟩
    | 3, _ => exact ⟨⟨by decide +kernel, by decide +kernel⟩, by decide +kernel, by decide +kernel, by decide +kernel⟩
    | 4, _ => exact ⟨⟨by decide +kernel, by decide +kernel⟩, by decide +kernel, by decide +kernel, by decide +kernel⟩
  exact this i h
theorem mw_gd {x : Str} (h : x ∈ MWs) : Gd 4 x ∧ (32 : Nat) ∉ x.cps.toList ∧ (59 : Nat) ∉ x.cps.toList := by
  unfold MWs at h
  simp only [List.mem_cons, List.not_mem_nil, or_false] at h
  rcases h with rfl | rfl | rfl <;> exact ⟨⟨by decide +kernel, by decide +kernel⟩, by decide +kernel, by decide +kernel⟩
theorem part_ok {m : HMv} (o : m.Ok) : ∀ p ∈ mparts m, Gd 4 p ∧ (32 : Nat) ∉ p.cps.toList ∧ (59 : Nat) ∉ p.cps.toList := by
  obtain ⟨a, b, _, _⟩ := ok_h o
  intro p hp
  rcases List.mem_cons.mp hp with rfl | hp
  · obtain ⟨g, q1, q2, _⟩ := dg_ok a
    exact ⟨g.mono (by decide), q1, q2⟩
  rcases List.mem_cons.mp hp with rfl | hp
  · exact mw_gd o.w
  · obtain ⟨i, hi, rfl⟩ := List.mem_map.mp hp
    obtain ⟨g, q1, q2, _⟩ := dg_ok (b i hi)
    exact ⟨g.mono (by decide), q1, q2⟩
theorem mparts_len {m : HMv} (o : m.Ok) : (mparts m).length ≤ 7 := by
  obtain ⟨_, _, _, l⟩ := ok_h o
  unfold mparts
  simp only [List.length_cons, List.length_map]
  omega
theorem mtxt_join (m : HMv) : mtxt m = Str.join " " (mparts m) := TL.join_eq _ _
theorem gd_mtxt {m : HMv} (o : m.Ok) : Gd 42 (mtxt m) := by
  rw [mtxt_join]
  have hs : Gd 2 (" " : Str) := ⟨by decide +kernel, by decide +kernel⟩
  have := gd_jn (L := 4) hs (mparts m) fun p hp => (part_ok o p hp).1
  have l := mparts_len o
  exact this.mono (by omega)
theorem mtxt_semi {m : HMv} (o : m.Ok) : (59 : Nat) ∉ cl (mtxt m) := by
  rw [mtxt_join]
  exact jn_free (by decide +kernel) fun p hp => (part_ok o p hp).2.2
theorem mtxt_pos {m : HMv} (o : m.Ok) : 0 < (mtxt m).length := by
  obtain ⟨a, _, _, _⟩ := ok_h o
  rw [mtxt_join]
  show 0 < (dg m.h ++ " " ++ Str.join " " (m.x :: m.lot.map dg)).length
  rw [Str.length_append, Str.length_append]
  have := (dg_ok a).2.2.2
  omega
theorem gd_runT {r : List HMv} (o : ∀ m ∈ r, m.Ok) (hl : r.length ≤ 400) : Gd 18000 (runT r) := by
  have e : runT r = Str.join "; " (r.map mtxt) := TL.join_eq _ _
  rw [e]
  have hs : Gd 2 ("; " : Str) := ⟨by decide +kernel, by decide +kernel⟩
  have := gd_jn (L := 42) hs (r.map mtxt) fun p hp => by obtain ⟨m, hm, rfl⟩ := List.mem_map.mp hp; exact gd_mtxt (o m hm)
  rw [List.length_map] at this
  exact this.mono (by omega)
theorem run_pos {m : HMv} {r : List HMv} (o : m.Ok) : 0 < (runT (m :: r)).length := by
  have e : runT (m :: r) = Str.join "; " (mtxt m :: r.map mtxt) := TL.join_eq _ _
  have l := mtxt_pos o
  rw [e]
  cases r with
  | nil => exact l
  | cons q r =>
    show 0 < (mtxt m ++ "; " ++ Str.join "; " ((q :: r).map mtxt)).length
    rw [Str.length_append, Str.length_append]
    omega
theorem split_m {m : HMv} (o : m.Ok) : Txt.split (mtxt m) " " = mparts m :=
  TL.split_join (s := 32) (S := []) (by decide +kernel) (by decide +kernel) (by simp [mparts]) fun p hp => (part_ok o p hp).2.1
theorem split_r {r : List HMv} (o : ∀ m ∈ r, m.Ok) (hn : r ≠ []) : Txt.split (runT r) "; " = r.map mtxt :=
  TL.split_join (s := 59) (S := [32]) (by decide +kernel) (by decide +kernel) (by simpa using hn) fun q hq => by
    obtain ⟨m, hm, rfl⟩ := List.mem_map.mp hq
    exact mtxt_semi (o m hm)
/-! written -/
def itemsM (m : HMv) : List D := .int (m.h : Int) :: .str m.x :: roL m.lot
theorem str_i {i : Nat} (h : i < 5) : str2 (.int (i : Int)) = .ret (.str (dg i)) := ask_t (log_small (by omega))
theorem str_s {x : Str} (h : x ∈ MWs) : str2 (.str x) = .ret (.str x) := rfl
theorem lc_of {e : Rho → T D} {gg : D → Rho → Option Rho} {ρ : Rho} {m : HMv} (o : m.Ok) (h : ∀ (d : D) (x : Str), str2 d = .ret (.str x) → ∃ ρ1, gg d ρ = some ρ1 ∧ e ρ1 = .ret (.str x)) : lcL gg yesT e (itemsM m) ρ = .ret ((mparts m).map PyData.str) := by
  obtain ⟨a, b, _, _⟩ := ok_h o
  let v : D → D := fun d => match str2 d with | .ret y => y | _ => .none
  have e1 : (mparts m).map PyData.str = (itemsM m).map v := by
    unfold mparts itemsM roL
    simp only [List.map_cons, List.map_map]
    have v1 : v (.int (m.h : Int)) = .str (dg m.h) := by show (match str2 (.int (m.h : Int)) with | .ret y => y | _ => .none) = _; rw [str_i a]
    have v2 : v (.str m.x) = .str m.x := by show (match str2 (.str m.x) with | .ret y => y | _ => .none) = _; rw [str_s o.w]
    rw [v1, v2]
    refine congrArg _ (congrArg _ (List.map_congr_left fun i hi => ?_))
    show _ = (match str2 (.int (i : Int)) with | .ret y => y | _ => .none)
    rw [str_i (b i hi)]
    rfl
  rw [e1]
  have q := lcL_mapL (ρ := ρ) (gg := gg) (e := e) (fun d : D => d) v (l := itemsM m) fun d hd => by
    have : ∃ x, str2 d = .ret (.str x) := by
      rcases List.mem_cons.mp hd with rfl | hd
      · exact ⟨_, str_i a⟩
      rcases List.mem_cons.mp hd with rfl | hd
      · exact ⟨_, str_s o.w⟩
      · obtain ⟨i, hi, rfl⟩ := List.mem_map.mp hd
        exact ⟨_, str_i (b i hi)⟩
    obtain ⟨x, hx⟩ := this
    obtain ⟨ρ1, h1, h2⟩ := h d x hx
    refine ⟨ρ1, h1, h2.trans ?_⟩
    show _ = T.ret (match str2 d with | .ret y => y | _ => .none)
    rw [hx]
  rwa [List.map_id'] at q
theorem items_len (m : HMv) : (itemsM m).length = m.lot.length + 2 := by simp [itemsM, roL]
theorem join_m {m : HMv} (o : m.Ok) : joinD (.str " ") (.list ((mparts m).map PyData.str)) = .ret (.str (mtxt m)) := by
  refine join_d ?_
  have l := mparts_len o
  have := sum_le (ps := mparts m) (m := 4) fun p hp => (part_ok o p hp).1.1
  have h1 : ((" " : Str)).length = 1 := by decide +kernel
  rw [h1]
  omega
theorem join_r {r : List HMv} (o : ∀ m ∈ r, m.Ok) (hl : r.length ≤ 400) : joinD (.str "; ") (.list ((r.map mtxt).map PyData.str)) = .ret (.str (runT r)) := by
  refine join_d ?_
  have := sum_le (ps := r.map mtxt) (m := 42) fun p hp => by obtain ⟨m, hm, rfl⟩ := List.mem_map.mp hp; exact (gd_mtxt (o m hm)).1
  have h2 : (("; " : Str)).length = 2 := by decide +kernel
  rw [h2]
  rw [List.length_map] at *
  omega
def runD (r : List HMv) : D := .tuple (r.map HMv.d)
theorem seq_d (m : HMv) : seqOf m.d = .ret (itemsM m) := rfl
theorem seq_run (r : List HMv) : seqOf (runD r) = .ret (r.map HMv.d) := rfl
/-- the move of a text within a comprehension -/
theorem mv_expr {i j : Nat} {e : Rho → T D} {ρ : Rho} {m : HMv} (o : m.Ok) (he : ∀ (d : D) (x : Str) (ρ1 : Rho), str2 d = .ret (.str x) → gv j ρ1 = .ret d → e ρ1 = .ret (.str x)) (hi : gv i ρ = .ret m.d) (hj : ∀ d : D, ∃ ρ1, toSlot j d (wipeR ρ [j]) = some ρ1 ∧ gv j ρ1 = .ret d) :
    mOp isStr joinD (cD (.str " ")) (asData (lcD [j] (fun ρ => ((gv i) ρ).bind seqOf) (toSlot j) yesT e)) ρ = .ret (.str (mtxt m)) := by
  have l := lc_of (e := e) (gg := toSlot j) (ρ := wipeR ρ [j]) o fun d x hx => by
    obtain ⟨ρ1, h1, h2⟩ := hj d
    exact ⟨ρ1, h1, he d x ρ1 hx h2⟩
  have hz : (itemsM m).length ≤ 1000 := by rw [items_len]; obtain ⟨_, _, _, q⟩ := ok_h o; omega
  simp only [mOp, asData_eq, lcD_eq, hi, T.ret_bind, seq_d, size_ok _ hz, l, join_m o, isStr, ask_true, cD]
end Zk27
namespace Zk27
open PySem PySem.Spec PyProof.Rows L2 Y
/-! ### texts of runs read -/
def handsT : List (D × D) := [(.str "0", .int 0), (.str "1", .int 1), (.str "2", .int 2), (.str "3", .int 3), (.str "4", .int 4)]
theorem get_dg {i : Nat} (h : i < 5) (z : D) : getK (.dict handsT) (.str (dg i)) z = .ret (.int (i : Int)) := by
  have : ∀ i, i < 5 → getK (.dict handsT) (.str (dg i)) z = .ret (.int (i : Int)) := by
    intro i hi
    match i, hi with
    | 0, _ => rfl
    | 1, _ => rfl
    | 2, _ => rfl
    | 3, _ => rfl
    | 4, _ => rfl
  exact this i h
theorem get_wd {x : Str} (h : x ∈ MWs) : getK (.dict handsT) (.str x) (.str x) = .ret (.str x) := by
  unfold MWs at h
  simp only [List.mem_cons, List.not_mem_nil, or_false] at h
  rcases h with rfl | rfl | rfl <;> rfl
theorem parts_lc {e : Rho → T D} {gg : D → Rho → Option Rho} {ρ : Rho} {m : HMv} (o : m.Ok) (h : ∀ (x : Str) (d : D), getK (.dict handsT) (.str x) (.str x) = .ret d → ∃ ρ1, gg (.str x) ρ = some ρ1 ∧ e ρ1 = .ret d) : lcL gg yesT e ((mparts m).map PyData.str) ρ = .ret (itemsM m) := by
  obtain ⟨a, b, _, _⟩ := ok_h o
  let v : Str → D := fun x => match getK (.dict handsT) (.str x) (.str x) with | .ret y => y | _ => .none
  have vi : ∀ i, i < 5 → v (dg i) = .int (i : Int) := fun i hi => by
    show (match getK (.dict handsT) (.str (dg i)) (.str (dg i)) with | .ret y => y | _ => .none) = _
    rw [get_dg hi]
  have vw : v m.x = .str m.x := by
    show (match getK (.dict handsT) (.str m.x) (.str m.x) with | .ret y => y | _ => .none) = _
    rw [get_wd o.w]
  have e1 : itemsM m = (mparts m).map v := by
    unfold mparts itemsM roL
    simp only [List.map_cons, List.map_map]
    rw [vi _ a, vw]
    refine congrArg _ (congrArg _ (List.map_congr_left fun i hi => ?_))
    exact (vi i (b i hi)).symm
  rw [e1]
  exact lcL_mapL (ρ := ρ) (gg := gg) (e := e) PyData.str v (l := mparts m) fun x hx => by
    have : ∃ d, getK (.dict handsT) (.str x) (.str x) = .ret d := by
      rcases List.mem_cons.mp hx with rfl | hx
      · exact ⟨_, get_dg a _⟩
      rcases List.mem_cons.mp hx with rfl | hx
      · exact ⟨_, get_wd o.w⟩
      · obtain ⟨i, hi, rfl⟩ := List.mem_map.mp hx
        exact ⟨_, get_dg (b i hi) _⟩
    obtain ⟨d, hd⟩ := this
    obtain ⟨ρ1, h1, h2⟩ := h x d hd
    refine ⟨ρ1, h1, h2.trans ?_⟩
    show _ = T.ret (match getK (.dict handsT) (.str x) (.str x) with | .ret y => y | _ => .none)
    rw [hd]
theorem read_move_ok {m : HMv} (o : m.Ok) : F__read_move [.str (mtxt m), .dict handsT] = .ret m.d := by
  have fo : F_is_formed [m.d, .int 5] = .ret (.bool true) := (formed_eq (n := 5) o.w (by have := (ok_h o).2.2.2; omega)).trans (by rw [o.f])
  refine run_rt ?_
  have e0 : ini 5 [.str (mtxt m), .dict handsT] = [.dt (.str (mtxt m)), .dt (.dict handsT), .un, .un, .un] := rfl
  rw [e0]
  have hl : ((mparts m).map PyData.str).length ≤ 1000 := by rw [List.length_map]; have := mparts_len o; omega
  have hz : (itemsM m).length ≤ 1000 := by rw [items_len]; obtain ⟨_, _, _, q⟩ := ok_h o; omega
  have sp : splitD (.str (mtxt m)) (.str " ") = .ret (.list ((mparts m).map PyData.str)) := by
    show (Y.ask _ _ : T (List D)).bind _ = _
    rw [ask_t ⟨by decide +kernel, size15 (by have := (gd_mtxt o).1; omega)⟩, split_m o]
    rfl
  have q1 : ∀ P : D, lcL (toSlot 4) yesT E__read_move_1 ((mparts m).map PyData.str) [.dt (.str (mtxt m)), .dt (.dict handsT), .dt P, .un, .un] = .ret (itemsM m) := fun P => parts_lc o fun x d hd => ⟨_, rfl, by
    have k : isDct (.dict handsT) = true := rfl
    generalize PyData.dict handsT = HT at *
    simp [E__read_move_1, getS, k, hd]⟩
  have md : m.d = .tuple (itemsM m) := rfl
  rw [md] at fo ⊢
  have tb : truth (.bool true) = .ret true := rfl
  have sq : seqOf (.list ((mparts m).map PyData.str)) = .ret ((mparts m).map PyData.str) := rfl
  generalize (mparts m).map PyData.str = PP at *
  generalize itemsM m = II at *
  generalize mtxt m = MT at *
  generalize PyData.dict handsT = HT at *
  unfold D__read_move
  generalize F_is_formed = FF at *
  have hl := size15 hl
  have hz := size15 hz
  simp [mOp, isStr, sp, asData, sq, hl, hz, q1, K_MAX_HANDS, fo, tb]
theorem upto_succ (k : Int) (n : Nat) : upto k (n + 1) = .int k :: upto (k + 1) n := by
  unfold upto
  rw [List.range_succ_eq_map, List.map_cons, List.map_map]
  refine congr (congrArg List.cons (by simp)) (List.map_congr_left fun i _ => ?_)
  show PyData.int _ = PyData.int _
  congr 1
  omega
def rdS (t P : D) (acc : List D) (c4 c5 c6 c7 : S) : Rho := [.dt t, .dt (.dict handsT), .dt P, .ow acc, c4, c5, c6, c7]
theorem rd_step {m : HMv} (o : m.Ok) {k : Int} (hk : k < 400) {t P : D} {acc : List D} (ha : acc.length ≤ 400) {c6 c7 : S} :
    B_read_run_2 (rdS t P acc (.dt (.int k)) (.dt (.str (mtxt m))) c6 c7) = .ret (.nx (rdS t P (acc ++ [m.d]) (.dt (.int k)) (.dt (.str (mtxt m))) (.dt m.d) c7)) := by
  have r := read_move_ok o
  have ei : pyIs m.d .none = .ret (.bool false) := rfl
  have eq4 : pyEq (.int k) (.int 400) = .ret (.bool false) := eq_i.trans (by rw [beq_false_of_ne (by omega)])
  have tb : truth (.bool false) = .ret false := rfl
  have hz : acc.length < sizeLine := Nat.lt_of_le_of_lt ha (by rw [sizeLine_eq]; decide)
  unfold B_read_run_2 rdS
  generalize F__read_move = FR at *
  generalize mtxt m = MT at *
  generalize m.d = MD at *
  generalize PyData.dict handsT = HT at *
  have ap := e_app (i := 3) (ρ := [S.dt t, S.dt HT, S.dt P, S.ow acc, S.dt (.int k), S.dt (.str MT), S.dt MD, c7]) (f := gv 6) (ds := acc) rfl
  simp [r, ei, eq4, K_MAX_MOVES, tb, hz, ap]
theorem rd_loop {t P : D} : ∀ (r : List HMv) (k : Int) (acc : List D) (c4 c5 c6 c7 : S), (∀ m ∈ r, m.Ok) → 0 ≤ k → k + r.length ≤ 400 → acc.length + r.length ≤ 400 →
    ∃ c4' c5' c6', forL (fun p => (toCons (toSlot 4) (toCons (toSlot 5) toNil)) [p.1, p.2]) B_read_run_2 ((upto k r.length).zip (r.map fun m => PyData.str (mtxt m))) (rdS t P acc c4 c5 c6 c7) = .ret (.nx (rdS t P (acc ++ r.map HMv.d) c4' c5' c6' c7))
  | [], k, acc, c4, c5, c6, c7, _, _, _, _ => ⟨c4, c5, c6, by simp [forL]⟩
  | m :: r, k, acc, c4, c5, c6, c7, o, k0, hk, ha => by
    simp only [List.length_cons] at hk ha
    obtain ⟨a, b, c, ih⟩ := rd_loop (t := t) (P := P) r (k + 1) (acc ++ [m.d]) (.dt (.int k)) (.dt (.str (mtxt m))) (.dt m.d) c7 (fun x hx => o x (List.mem_cons_of_mem _ hx)) (by omega) (by omega) (by simp; omega)
    refine ⟨a, b, c, ?_⟩
    rw [List.length_cons, upto_succ, List.map_cons, List.zip_cons_cons, forL_step (ρ1 := rdS t P acc (.dt (.int k)) (.dt (.str (mtxt m))) c6 c7) rfl (rd_step (o m List.mem_cons_self) (by omega) (by omega)), ih]
    simp
theorem read_run_ok {r : List HMv} (o : ∀ m ∈ r, m.Ok) (hl : r.length ≤ 400) : F_read_run [.str (runT r)] = .ret (runD r) := by
  refine run_rt ?_
  have e0 : ini 8 [.str (runT r)] = [.dt (.str (runT r)), .un, .un, .un, .un, .un, .un, .un] := rfl
  rw [e0]
  have g := gd_runT o hl
  have k1 : isi1 "str" (.str (runT r)) = .ret (.bool true) := rfl
  have tb : truth (.bool true) = .ret true := rfl
  have tr : truth (.str (runT r)) = .ret (!r.isEmpty) := by
    show Y.ask _ _ = _
    rw [ask_t (by have := g.1; rw [sizeLine_eq]; omega)]
    cases r with
    | nil => rfl
    | cons m r =>
      have := run_pos (r := r) (o m List.mem_cons_self)
      have : (((runT (m :: r)).length : Int) != 0) = true := by simp; omega
      rw [this]
      rfl
  have dc : ∀ T : Str, dcD [7] (fun ρ => ((cD K_MAX_HANDS) ρ).bind range1) (toSlot 7) yesT (E_read_run_1k) (E_read_run_1v) [.dt (.str T), .un, .un, .un, .un, .un, .un, .un] = .ret (.dict handsT) := fun T => by rfl
  have pt : ifT (fun ρ => ((gv 0) ρ).bind truth) (mOp isStr splitD (gv 0) (cD (.str "; "))) (lstD nilA) [.dt (.str (runT r)), .dt (.dict handsT), .un, .un, .un, .un, .un, .un] = .ret (.list (r.map fun m => PyData.str (mtxt m))) := by
    simp only [ifT_eq, gv_0, T.ret_bind, tr]
    cases r with
    | nil => simp
    | cons m r =>
      have sp : splitD (.str (runT (m :: r))) (.str "; ") = .ret (.list ((m :: r).map fun m => PyData.str (mtxt m))) := by
        show (Y.ask _ _ : T (List D)).bind _ = _
        rw [ask_t ⟨by decide +kernel, by have := g.1; rw [sizeLine_eq]; omega⟩, split_r o (by simp)]
        simp
      simp only [List.isEmpty_cons, Bool.not_false, if_true, mOp, gv_0, T.ret_bind, isStr, ask_true, cD, sp]
  obtain ⟨c4, c5, c6, lp⟩ := rd_loop (t := .str (runT r)) (P := .list (r.map fun m => PyData.str (mtxt m))) r 0 [] .un .un .un .un o (by decide) (by omega) (by simp; omega)
  have et : enumT (.list (r.map fun m => PyData.str (mtxt m))) = .ret ((upto 0 r.length).zip (r.map fun m => PyData.str (mtxt m))) := by
    show T.ret (enumD (r.map fun m => PyData.str (mtxt m))) = _
    unfold enumD
    rw [List.length_map]
  have dc := dc (runT r)
  unfold rdS at lp
  rw [List.nil_append] at lp
  have tu : tup1 (.list (r.map HMv.d)) = .ret (runD r) := rfl
  generalize (upto 0 r.length).zip (r.map fun m => PyData.str (mtxt m)) = EE at *
  generalize PyData.list (r.map fun m => PyData.str (mtxt m)) = PP at *
  generalize r.map HMv.d = DD at *
  generalize runD r = RR at *
  generalize runT r = RT at *
  generalize (!r.isEmpty) = NE at *
  unfold D_read_run
  generalize B_read_run_2 = BB at *
  generalize hD : dcD [7] (fun ρ => ((cD K_MAX_HANDS) ρ).bind range1) (toSlot 7) yesT (E_read_run_1k) (E_read_run_1v) = DC at *
  generalize hP : ifT (fun ρ => ((gv 0) ρ).bind truth) (mOp isStr splitD (gv 0) (cD (.str "; "))) (lstD nilA) = PT at *
  generalize PyData.dict handsT = HT at *
  simp [k1, tb, dc, pt, et, lp, frzS, tu]
end Zk27
namespace Zk27
open PySem PySem.Spec PyProof.Rows L2 Y
/-! ### any text read as a run: what is formed -/
def isH (n : Nat) : D → Bool
  | .int i => decide (0 ≤ i) && decide (i < (n : Int))
  | _ => false
def plC : D → Bool
  | .dict [] => true
  | .dict _ => false
  | _ => true
theorem within_no {c a b : D} (k1 : isi1 "int" c = .ret (.bool false)) : F_is_within [c, a, b] = .ret (.bool false) := by
  refine run_rt ?_
  have e0 : ini 3 [c, a, b] = [.dt c, .dt a, .dt b] := rfl
  rw [e0]
  unfold D_is_within
  generalize chainD pyLe pyLe (gv 1) (gv 0) (gv 2) = CC
  simp [k1]
theorem within_bl {x : Bool} {a b : D} : F_is_within [.bool x, a, b] = .ret (.bool false) := by
  refine run_rt ?_
  have e0 : ini 3 [.bool x, a, b] = [.dt (.bool x), .dt a, .dt b] := rfl
  rw [e0]
  have k1 : isi1 "int" (.bool x) = .ret (.bool true) := rfl
  have k2 : isi1 "bool" (.bool x) = .ret (.bool true) := rfl
  unfold D_is_within
  generalize chainD pyLe pyLe (gv 1) (gv 0) (gv 2) = CC
  simp [k1, k2]
theorem within_D {n : Nat} : ∀ {c : D}, plC c = true → F_is_within [c, .int 0, .int ((n : Int) - 1)] = .ret (.bool (isH n c))
  | .int i, _ => by
    rw [within_int]
    congr 2
    show _ = (decide (0 ≤ i) && decide (i < (n : Int)))
    congr 1
    exact decide_eq_decide.mpr (by omega)
  | .bool _, _ => within_bl
  | .none, _ => within_no rfl
  | .str _, _ => within_no rfl
  | .list _, _ => within_no rfl
  | .tuple _, _ => within_no rfl
  | .dict [], _ => within_no rfl
  | .dict (_ :: _), h => by cases h
theorem big {n : Nat} (h : n ≤ 100000) : n ≤ sizeLine := Nat.le_trans h (by rw [sizeLine_eq]; decide)
theorem addT {xs ys : List D} (h : xs.length + ys.length ≤ 100000) : pyAdd (.tuple xs) (.tuple ys) = .ret (.tuple (xs ++ ys)) := ask_t (big h)
theorem formed_sh {v N : D} {L : Int} (k1 : isi1 "tuple" v = .ret (.bool true)) (ln : len1 v = .ret (.int L)) (hL : L < 2) : F_is_formed [v, N] = .ret (.bool false) := by
  refine run_rt ?_
  have e0 : ini 4 [v, N] = [.dt v, .dt N, .un, .un] := rfl
  rw [e0]
  have tb : ∀ b : Bool, truth (.bool b) = .ret b := fun _ => rfl
  unfold D_is_formed
  simp [k1, tb, ln, hL]
theorem formed_wd {v N b : D} {L : Int} (k1 : isi1 "tuple" v = .ret (.bool true)) (ln : len1 v = .ret (.int L)) (hL : ¬ L < 2) (i1 : pyIx v (.int 1) = .ret b) (w : inD true b K_MOVE_WORDS = .ret (.bool true)) : F_is_formed [v, N] = .ret (.bool false) := by
  refine run_rt ?_
  have e0 : ini 4 [v, N] = [.dt v, .dt N, .un, .un] := rfl
  rw [e0]
  have tb : ∀ b : Bool, truth (.bool b) = .ret b := fun _ => rfl
  unfold D_is_formed
  simp [k1, tb, ln, hL, i1, w]
theorem words_ok {x : Str} (hx : x ∈ MWs) : PyData.strOk x = true := by
  have : ∀ x ∈ MWs, PyData.strOk x = true := by decide +kernel
  exact this x hx
theorem words_in {x : Str} (hx : x ∈ MWs) : inD true (.str x) K_MOVE_WORDS = .ret (.bool false) := (in_t (W := MWs) (words_ok hx) (by decide +kernel)).trans (by rw [decide_eq_true hx]; rfl)
theorem formed_bad_gen {v N H1 C2 : D} {L : Int} {b : D} {XS : List D} {BB : List D} (k1 : isi1 "tuple" v = .ret (.bool true)) (ln : len1 v = .ret (.int L)) (hL : ¬ L < 2) (i1 : pyIx v (.int 1) = .ret b) (w : inD true b K_MOVE_WORDS = .ret (.bool false)) (s2 : pySl v (some 2) none = .ret C2) (s1 : pySl v none (some 1) = .ret H1) (ad : pyAdd H1 C2 = .ret (.tuple XS)) (hz : XS.length ≤ sizeLine)
    (lc : lcL (toSlot 3) yesT E_is_formed_1 XS [.dt v, .dt N, .dt C2, .un] = .ret BB) (al : allD (.list BB) = .ret (.bool false)) : F_is_formed [v, N] = .ret (.bool false) := by
  refine run_rt ?_
  have e0 : ini 4 [v, N] = [.dt v, .dt N, .un, .un] := rfl
  rw [e0]
  have tb : ∀ b : Bool, truth (.bool b) = .ret b := fun _ => rfl
  have sq : seqOf (.tuple XS) = .ret XS := rfl
  unfold D_is_formed
  simp [k1, tb, ln, hL, i1, w, s2, s1, ad, sq, hz, lc, asData, al, noP, asInt]
theorem formed_bad {a : D} {x : Str} {r : List D} {n : Nat} (hx : x ∈ MWs) (hr : r.length ≤ 3900) (pl : ∀ c ∈ a :: r, plC c = true) (nh : (a :: r).all (isH n) = false) : F_is_formed [.tuple (a :: .str x :: r), .int (n : Int)] = .ret (.bool false) := by
  have ln : len1 (.tuple (a :: PyData.str x :: r)) = .ret (.int ((r.length + 2 : Nat) : Int)) := rfl
  have i1 : pyIx (.tuple (a :: PyData.str x :: r)) (.int 1) = .ret (.str x) := ix_t (i := 1) rfl
  have s2 : pySl (.tuple (a :: PyData.str x :: r)) (some 2) none = .ret (.tuple r) := sl_tl (ds := a :: PyData.str x :: r) (i := 2)
  have s1 : pySl (.tuple (a :: PyData.str x :: r)) none (some 1) = .ret (.tuple [a]) := sl_hd (ds := a :: PyData.str x :: r) (i := 1)
  have ad : pyAdd (.tuple [a]) (.tuple r) = .ret (.tuple (a :: r)) := addT (by simp; omega)
  have lc : lcL (toSlot 3) yesT E_is_formed_1 (a :: r) [.dt (.tuple (a :: PyData.str x :: r)), .dt (.int (n : Int)), .dt (.tuple r), .un] = .ret (((a :: r).map (isH n)).map .bool) := by
    have q := lcL_filL (ρ := [.dt (.tuple (a :: PyData.str x :: r)), .dt (.int (n : Int)), .dt (.tuple r), .un]) (gg := toSlot 3) (t := yesT) (e := E_is_formed_1) (l := a :: r) (fun c : D => c) (fun _ => true) (fun c => .bool (isH n c)) fun c hc => ⟨[.dt (.tuple (a :: PyData.str x :: r)), .dt (.int (n : Int)), .dt (.tuple r), .dt c], rfl, rfl, fun _ => by
      have w := within_D (n := n) (pl c hc)
      generalize PyData.tuple (a :: PyData.str x :: r) = M
      generalize PyData.tuple r = M2
      simp [E_is_formed_1, w]⟩
    rw [List.filter_eq_self.mpr fun _ _ => rfl, List.map_id'] at q
    rw [List.map_map]
    exact q
  have al := all_bools ((a :: r).map (isH n))
  have ea : (((a :: r).map (isH n)).all id) = false := by rw [List.all_map]; exact nh
  rw [ea] at al
  exact formed_bad_gen rfl ln (by omega) i1 (words_in hx) s2 s1 ad (big (by simp; omega)) lc al
theorem formed_eqW {n h : Nat} {x : Str} {lot : List Nat} (hx : x ∈ MWs) (hl : lot.length ≤ 3900) : F_is_formed [mvT h x lot, .int (n : Int)] = .ret (.bool (formB n h x lot)) := by
  refine run_rt ?_
  have e0 : ini 4 [mvT h x lot, .int (n : Int)] = [.dt (mvT h x lot), .dt (.int (n : Int)), .un, .un] := rfl
  rw [e0]
  have hok : PyData.strOk x = true := by
    have : ∀ x ∈ MWs, PyData.strOk x = true := by decide +kernel
    exact this x hx
  have k1 : isi1 "tuple" (mvT h x lot) = .ret (.bool true) := rfl
  have ln : len1 (mvT h x lot) = .ret (.int ((roL lot).length + 2 : Nat)) := rfl
  have i1 : pyIx (mvT h x lot) (.int 1) = .ret (.str x) := ix_t (i := 1) rfl
  have inw : inD true (.str x) K_MOVE_WORDS = .ret (.bool false) := (in_t (W := MWs) hok (by decide +kernel)).trans (by rw [decide_eq_true hx]; rfl)
  have s2 : pySl (mvT h x lot) (some 2) none = .ret (.tuple (roL lot)) := sl_tl (ds := PyData.int (h : Int) :: PyData.str x :: roL lot) (i := 2)
  have s1 : pySl (mvT h x lot) none (some 1) = .ret (.tuple [.int (h : Int)]) := sl_hd (ds := PyData.int (h : Int) :: PyData.str x :: roL lot) (i := 1)
  have ad : pyAdd (.tuple [.int (h : Int)]) (.tuple (roL lot)) = .ret (.tuple (roL (h :: lot))) := addT (by rw [roL_len]; simp; omega)
  have lc : lcL (toSlot 3) yesT E_is_formed_1 (roL (h :: lot)) [.dt (mvT h x lot), .dt (.int (n : Int)), .dt (.tuple (roL lot)), .un] = .ret (((h :: lot).map fun i => decide (i < n)).map .bool) := by
    have q := lcL_filL (ρ := [.dt (mvT h x lot), .dt (.int (n : Int)), .dt (.tuple (roL lot)), .un]) (gg := toSlot 3) (t := yesT) (e := E_is_formed_1) (l := h :: lot) (fun i : Nat => PyData.int (i : Int)) (fun _ => true) (fun i => .bool (decide (i < n))) fun i _ => ⟨[.dt (mvT h x lot), .dt (.int (n : Int)), .dt (.tuple (roL lot)), .dt (.int (i : Int))], rfl, rfl, fun _ => by
      have w := within_nat (i := i) (n := n)
      generalize mvT h x lot = M
      simp [E_is_formed_1, w]⟩
    rw [List.filter_eq_self.mpr fun _ _ => rfl] at q
    rw [List.map_map]
    exact q
  have al := all_bools ((h :: lot).map fun i => decide (i < n))
  have ea : (((h :: lot).map fun i => decide (i < n)).all id) = (decide (h < n) && lot.all fun i => decide (i < n)) := by
    rw [List.map_cons, List.all_cons, List.all_map]; rfl
  rw [ea] at al
  have hz : (roL (h :: lot)).length ≤ sizeLine := big (by rw [roL_len]; simp; omega)
  have sq : seqOf (.tuple (roL (h :: lot))) = .ret (roL (h :: lot)) := rfl
  have ne := nok_w hok "call"
  have em := ro_eq lot
  obtain ⟨k, ls, lk⟩ := set_ro lot (by omega)
  have ll : len1 (.tuple (roL lot)) = .ret (.int (lot.length : Int)) := by
    show T.ret (PyData.int (roL lot).length) = _
    rw [roL_len]
  have lt : pyLt (.int ((roL lot).length + 2 : Nat)) (.int 2) = .ret (.bool false) := by
    show T.ret (PyData.bool (decide (((roL lot).length + 2 : Nat) < (2 : Int)))) = _
    rw [decide_eq_false (by omega)]
  have eqk : pyEq (.int (k : Int)) (.int (lot.length : Int)) = .ret (.bool (decide lot.Nodup)) := by
    rw [← lk]
    exact eq_i
  unfold formB
  have rd : roD lot = .tuple (roL lot) := rfl
  rw [rd] at em
  generalize (decide (h < n) && lot.all fun i => decide (i < n)) = A at *
  generalize ((h :: lot).map fun i => decide (i < n)).map PyData.bool = BB at *
  generalize roL (h :: lot) = R2 at *
  generalize decide lot.Nodup = ND at *
  generalize lot.isEmpty = EM at *
  generalize (x == ("call" : Str)) = CX at *
  generalize mvT h x lot = M at *
  generalize roL lot = RL at *
  generalize (lot.length : Int) = LL at *
  generalize (k : Int) = KK at *
  generalize ((RL.length + 2 : Nat) : Int) = L2 at *
  generalize (n : Int) = NN at *
  unfold D_is_formed
  have tb : ∀ b : Bool, truth (.bool b) = .ret b := fun _ => rfl
  cases A <;> cases CX <;> simp [k1, ln, lt, i1, inw, s2, s1, ad, sq, hz, lc, asData, al, ne, em, ls, ll, eqk, tb, noP, asInt]
/-! words of a text -/
def DGs : List Str := ["0", "1", "2", "3", "4"]
def dgV (w : Str) : Nat := if w == ("1" : Str) then 1 else if w == ("2" : Str) then 2 else if w == ("3" : Str) then 3 else if w == ("4" : Str) then 4 else 0
def hv (w : Str) : D := if w ∈ DGs then .int (dgV w : Int) else .str w
theorem dg_cases {w : Str} (h : w ∈ DGs) : w = "0" ∨ w = "1" ∨ w = "2" ∨ w = "3" ∨ w = "4" := by
  unfold DGs at h
  simpa only [List.mem_cons, List.not_mem_nil, or_false] using h
theorem dgV_lt (w : Str) : dgV w < 5 := by unfold dgV; repeat' split <;> try decide
theorem dgV_inj {a b : Str} (ha : a ∈ DGs) (hb : b ∈ DGs) (h : dgV a = dgV b) : a = b := by
  have k : ∀ a ∈ DGs, ∀ b ∈ DGs, dgV a = dgV b → a = b := by decide +kernel
  exact k a ha b hb h
theorem dg_nw {w : Str} (h : w ∈ DGs) : ¬ w ∈ MWs := by
  have k : ∀ w ∈ DGs, ¬ w ∈ MWs := by decide +kernel
  exact k w h
theorem dg_ok1 {w : Str} (h : w ∈ DGs) : PyData.strOk w = true := by
  have k : ∀ w ∈ DGs, PyData.strOk w = true := by decide +kernel
  exact k w h
theorem nodup_dg {r : List Str} (h : ∀ c ∈ r, c ∈ DGs) : (r.map dgV).Nodup ↔ r.Nodup := by
  unfold List.Nodup
  rw [List.pairwise_map]
  induction r with
  | nil => simp
  | cons a r ih =>
    have ih := ih fun c hc => h c (List.mem_cons_of_mem _ hc)
    rw [List.pairwise_cons, List.pairwise_cons, ih]
    refine and_congr ⟨fun q c hc z => q c hc (by rw [z]), fun q c hc z => q c hc (dgV_inj (h a List.mem_cons_self) (h c (List.mem_cons_of_mem _ hc)) z)⟩ Iff.rfl
/-- the move that words tell -/
def pmH (ws : List Str) : Option HMv := match ws with
  | w0 :: w1 :: r => if (decide (w0 ∈ DGs) && decide (w1 ∈ MWs) && (r.all fun c => decide (c ∈ DGs)) && formB 5 (dgV w0) w1 (r.map dgV)) = true then some ⟨dgV w0, w1, r.map dgV⟩ else none
  | _ => none
def pmD (ws : List Str) : D := match pmH ws with
  | some m => m.d
  | none => .none
theorem pmH_ok {ws : List Str} {m : HMv} (h : pmH ws = some m) : m.Ok := by
  unfold pmH at h
  split at h
  · split at h
    · rename_i q
      simp only [Bool.and_eq_true, decide_eq_true_eq] at q
      cases h
      exact ⟨q.1.1.2, q.2⟩
    · cases h
  · cases h
end Zk27
namespace Zk27
open PySem PySem.Spec PyProof.Rows L2 Y
/-! ### any text read as a run: parts of texts -/
theorem split_sub {x y p : Str} (hp : p ∈ Txt.split x y) : (cl p).Sublist (cl x) := by
  unfold Txt.split at hp
  split at hp
  · rw [List.mem_singleton.mp hp]; exact List.Sublist.refl _
  · split at hp
    · rw [List.mem_singleton.mp hp]; exact List.Sublist.refl _
    · unfold Builtin.Str.partsBetween at hp
      obtain ⟨⟨i, j⟩, _, rfl⟩ := List.mem_map.mp hp
      show (x.cps.extract i j).toList.Sublist x.cps.toList
      rw [Array.toList_extract]
      exact (List.take_sublist _ _).trans (List.drop_sublist _ _)
theorem split_many {x y : Str} : (Txt.split x y).length ≤ x.length + 2 := by
  unfold Txt.split
  split
  · simp
  · split
    · simp
    · rw [len_partsBetween]
      have := StrLaws.occ_length_le_len x y 0 x.length (x.length + 1)
      omega
theorem split_ne {x y : Str} : Txt.split x y ≠ [] := by
  unfold Txt.split
  split
  · simp
  · split
    · simp
    · intro z
      have := congrArg List.length z
      rw [len_partsBetween] at this
      simp at this
def spc (x : Str) : Nat := (cl x).count 32
theorem cnt_is : ∀ l : List Nat, PyProof.Rows.cnt 32 l = (l.count 32 : Int)
  | [] => rfl
  | k :: r => by
    rw [cnt_cons, cnt_is r, List.count_cons]
    by_cases h : k = 32
    · simp [h]; omega
    · have : (k == 32) = false := by simpa using h
      simp [h, this]
theorem words_len (x : Str) : (Txt.split x " ").length = 1 + spc x := by
  have e : (" " : Str) = ⟨#[32]⟩ := by decide +kernel
  have q := split_len x 32
  rw [← e, cnt_is] at q
  show _ = 1 + List.count 32 x.cps.toList
  omega
/-- texts that are read here: not too long, not too many words -/
structure TxtG (t : Str) : Prop where
  ok : PyData.strOk t = true
  len : t.length ≤ 16000
  sp : spc t ≤ 3500
theorem TxtG.sub {t p : Str} (h : TxtG t) (s : (cl p).Sublist (cl t)) : TxtG p := by
  refine ⟨?_, ?_, Nat.le_trans (s.count_le 32) h.sp⟩
  · rw [strOk_iff]
    intro c hc
    exact strOk_iff.mp h.ok c (s.subset hc)
  · have : (cl p).length ≤ (cl t).length := s.length_le
    have e1 : (cl p).length = p.length := by show p.cps.toList.length = p.cps.size; simp
    have e2 : (cl t).length = t.length := by show t.cps.toList.length = t.cps.size; simp
    have := h.len
    omega
theorem TxtG.part {t p y : Str} (h : TxtG t) (hp : p ∈ Txt.split t y) : TxtG p := h.sub (split_sub hp)
theorem len_cl (x : Str) : (cl x).length = x.length := by show x.cps.toList.length = x.cps.size; simp
theorem spc_le (x : Str) : spc x ≤ x.length := by
  rw [← len_cl]
  exact List.count_le_length
theorem spc_app (x y : Str) : spc (x ++ y) = spc x + spc y := by
  unfold spc
  rw [cl_app, List.count_append]
theorem split_dT {x y : Str} (h : x.length ≤ 16000) (hy : (y.length == 0) = false) : splitD (.str x) (.str y) = .ret (.list ((Txt.split x y).map PyData.str)) := by
  show (Y.ask _ _ : T (List D)).bind _ = _
  rw [ask_t ⟨hy, big (by omega)⟩]
  rfl
theorem dget_none {k : Key} : ∀ {ds : List (D × D)}, (∀ p ∈ ds, ¬ Y.keyOf p.1 = some k) → dget ds k = none
  | [], _ => rfl
  | p :: r, h => by
    unfold dget
    rw [if_neg (h p List.mem_cons_self)]
    exact dget_none fun q hq => h q (List.mem_cons_of_mem _ hq)
theorem getK_hv (w : Str) : getK (.dict handsT) (.str w) (.str w) = .ret (hv w) := by
  by_cases h : w ∈ DGs
  · rcases dg_cases h with rfl | rfl | rfl | rfl | rfl <;> rfl
  · have e : hv w = .str w := if_neg h
    rw [e]
    have n : ∀ x ∈ DGs, ¬ (some (Sum.inr x) : Option Key) = some (.inr w) := fun x hx z => by
      have := Option.some.inj z
      have := Sum.inr.inj this
      exact h (this ▸ hx)
    show T.ret ((dget handsT (.inr w)).getD (.str w)) = _
    have q : dget handsT (.inr w) = none := dget_none fun p hp => by
      have : ∀ p ∈ handsT, ∃ x ∈ DGs, Y.keyOf p.1 = some (.inr x) := by
        intro p hp
        unfold handsT at hp
        simp only [List.mem_cons, List.not_mem_nil, or_false] at hp
        rcases hp with rfl | rfl | rfl | rfl | rfl
        · exact ⟨"0", by decide +kernel, rfl⟩
        · exact ⟨"1", by decide +kernel, rfl⟩
        · exact ⟨"2", by decide +kernel, rfl⟩
        · exact ⟨"3", by decide +kernel, rfl⟩
        · exact ⟨"4", by decide +kernel, rfl⟩
      obtain ⟨x, hx, ex⟩ := this p hp
      rw [ex]
      exact n x hx
    rw [q]; rfl
end Zk27
namespace Zk27
open PySem PySem.Spec PyProof.Rows L2 Y
/-! ### any text read as a run: a part, by the program -/
theorem mws_lay : PyData.canLayAll0 (MWs.map PyData.str) = true := lay_strs0 (by decide +kernel)
theorem nin_int {i : Int} : inD true (.int i) K_MOVE_WORDS = .ret (.bool true) := by
  show Y.ask (SeqAt.shaped (.int i) = true ∧ PyData.canLayAll0 (MWs.map PyData.str) = true) (T.ret (PyData.bool (((MWs.map PyData.str).any fun z => PyData.eqv z (.int i)) != true))) = _
  rw [ask_t ⟨rfl, mws_lay⟩]
  have e : ((MWs.map PyData.str).any fun z => PyData.eqv z (.int i)) = false := by
    rw [List.any_map, List.any_eq_false]
    intro x _
    simp [PyData.eqv]
  rw [e]; rfl
theorem nin_strD {x : Str} (h : PyData.strOk x = true) (hx : ¬ x ∈ MWs) : inD true (.str x) K_MOVE_WORDS = .ret (.bool true) := (in_t (W := MWs) h (by decide +kernel)).trans (by rw [decide_eq_false hx]; rfl)
theorem hv_pl (w : Str) : plC (hv w) = true := by unfold hv; split <;> rfl
theorem hv_H (w : Str) : isH 5 (hv w) = decide (w ∈ DGs) := by
  unfold hv
  split
  · rename_i h
    rw [decide_eq_true h]
    have := dgV_lt w
    show (decide ((0 : Int) ≤ (dgV w : Int)) && decide ((dgV w : Int) < ((5 : Nat) : Int))) = true
    rw [Bool.and_eq_true, decide_eq_true_eq, decide_eq_true_eq]
    omega
  · rename_i h
    rw [decide_eq_false h]; rfl
theorem hv_ro : ∀ {r : List Str}, (∀ c ∈ r, c ∈ DGs) → r.map hv = roL (r.map dgV)
  | [], _ => rfl
  | c :: r, h => by
    have ih := hv_ro (r := r) fun x hx => h x (List.mem_cons_of_mem _ hx)
    have e : hv c = .int (dgV c : Int) := if_pos (h c List.mem_cons_self)
    rw [List.map_cons, ih, e]; rfl
/-- what is formed of words -/
theorem formed_words {ws : List Str} (ok : ∀ w ∈ ws, PyData.strOk w = true) (hl : ws.length ≤ 3600) : (F_is_formed [.tuple (ws.map hv), .int ((5 : Nat) : Int)] = .ret (.bool true) ∧ .tuple (ws.map hv) = pmD ws ∧ pmD ws ≠ .none) ∨ (F_is_formed [.tuple (ws.map hv), .int ((5 : Nat) : Int)] = .ret (.bool false) ∧ pmD ws = .none) := by
  match ws, ok, hl with
  | [], _, _ => exact .inr ⟨formed_sh (L := 0) rfl rfl (by decide), rfl⟩
  | [w], _, _ => exact .inr ⟨formed_sh (L := 1) rfl rfl (by decide), rfl⟩
  | w0 :: w1 :: r, ok, hl =>
    rw [List.length_cons, List.length_cons] at hl
    have ln : len1 (.tuple ((w0 :: w1 :: r).map hv)) = .ret (.int ((r.length + 2 : Nat) : Int)) := by
      show T.ret (PyData.int (((w0 :: w1 :: r).map hv).length : Nat)) = _
      rw [List.length_map, List.length_cons, List.length_cons]
    have i1 : pyIx (.tuple ((w0 :: w1 :: r).map hv)) (.int 1) = .ret (hv w1) := ix_t (i := 1) rfl
    by_cases h1 : w1 ∈ MWs
    · have e1 : hv w1 = .str w1 := if_neg fun z => dg_nw z h1
      by_cases hd : w0 ∈ DGs ∧ ∀ c ∈ r, c ∈ DGs
      · have e : PyData.tuple ((w0 :: w1 :: r).map hv) = mvT (dgV w0) w1 (r.map dgV) := by
          have e0 : hv w0 = .int (dgV w0 : Int) := if_pos hd.1
          rw [List.map_cons, List.map_cons, e0, e1, hv_ro hd.2]; rfl
        have fo := formed_eqW (n := 5) (h := dgV w0) (lot := r.map dgV) h1 (by rw [List.length_map]; omega)
        have ea : (r.all fun c => decide (c ∈ DGs)) = true := by
          rw [List.all_eq_true]
          exact fun c hc => decide_eq_true (hd.2 c hc)
        by_cases hf : formB 5 (dgV w0) w1 (r.map dgV) = true
        · have ep : pmH (w0 :: w1 :: r) = some ⟨dgV w0, w1, r.map dgV⟩ := by
            unfold pmH
            simp only [decide_eq_true hd.1, decide_eq_true h1, ea, hf]
            rfl
          have ed : pmD (w0 :: w1 :: r) = mvT (dgV w0) w1 (r.map dgV) := by
            unfold pmD
            rw [ep]; rfl
          rw [hf] at fo
          exact .inl ⟨by rw [e]; exact fo, by rw [ed, e], by rw [ed]; intro z; cases z⟩
        · have hf : formB 5 (dgV w0) w1 (r.map dgV) = false := by simpa using hf
          have ep : pmH (w0 :: w1 :: r) = none := by
            unfold pmH
            simp only [hf, Bool.and_false]
            rfl
          rw [hf] at fo
          exact .inr ⟨by rw [e]; exact fo, by unfold pmD; rw [ep]⟩
      · have nh : ((hv w0 :: r.map hv).all (isH 5)) = false := by
          cases q : (hv w0 :: r.map hv).all (isH 5) with
          | false => rfl
          | true =>
            rw [List.all_eq_true] at q
            refine absurd ⟨?_, fun c hc => ?_⟩ hd
            · have := q _ List.mem_cons_self
              rw [hv_H, decide_eq_true_eq] at this
              exact this
            · have := q _ (List.mem_cons_of_mem _ (List.mem_map_of_mem hc))
              rw [hv_H, decide_eq_true_eq] at this
              exact this
        have ep : pmH (w0 :: w1 :: r) = none := by
          unfold pmH
          have : (decide (w0 ∈ DGs) && decide (w1 ∈ MWs) && (r.all fun c => decide (c ∈ DGs)) && formB 5 (dgV w0) w1 (r.map dgV)) = false := by
            cases q : (decide (w0 ∈ DGs) && decide (w1 ∈ MWs) && (r.all fun c => decide (c ∈ DGs)) && formB 5 (dgV w0) w1 (r.map dgV)) with
            | false => rfl
            | true =>
              simp only [Bool.and_eq_true, decide_eq_true_eq, List.all_eq_true] at q
              exact absurd ⟨q.1.1.1, q.1.2⟩ hd
          simp only [this]
          rfl
        refine .inr ⟨?_, by unfold pmD; rw [ep]⟩
        have fb := formed_bad (a := hv w0) (x := w1) (r := r.map hv) (n := 5) h1 (by rw [List.length_map]; omega) (fun c hc => by
          rcases List.mem_cons.mp hc with rfl | hc
          · exact hv_pl _
          · obtain ⟨x, _, rfl⟩ := List.mem_map.mp hc
            exact hv_pl _) nh
        rw [List.map_cons, List.map_cons, e1]
        exact fb
    · have ep : pmH (w0 :: w1 :: r) = none := by
        unfold pmH
        simp only [decide_eq_false h1, Bool.and_false, Bool.false_and]
        rfl
      refine .inr ⟨?_, by unfold pmD; rw [ep]⟩
      refine formed_wd rfl ln (by omega) i1 ?_
      by_cases hd : w1 ∈ DGs
      · have e1 : hv w1 = .int (dgV w1 : Int) := if_pos hd
        rw [e1]; exact nin_int
      · have e1 : hv w1 = .str w1 := if_neg hd
        rw [e1]; exact nin_strD (ok w1 (List.mem_cons_of_mem _ List.mem_cons_self)) h1
theorem readM_gen {P HD V : D} {WS VS : List D} {fb : Bool} (sp : splitD P (.str " ") = .ret (.list WS)) (iP : isStr P = true) (hz : WS.length ≤ sizeLine) (lc : ∀ A : D, lcL (toSlot 4) yesT E__read_move_1 WS [.dt P, .dt HD, .dt A, .un, .un] = .ret VS) (hv2 : VS.length ≤ sizeLine) (hV : V = .tuple VS) (fo : F_is_formed [V, K_MAX_HANDS] = .ret (.bool fb)) :
    D__read_move [.dt P, .dt HD, .un, .un, .un] = .ret (.rt (if fb then V else .none)) := by
  subst hV
  have sq : seqOf (.list WS) = .ret WS := rfl
  have tb : ∀ b : Bool, truth (.bool b) = .ret b := fun _ => rfl
  have iz : Y.ask (isStr P = true) (splitD P (.str " ")) = .ret (.list WS) := by rw [ask_t iP]; exact sp
  unfold D__read_move
  cases fb <;> simp [mOp, iP, sp, iz, sq, hz, lc, asData, hv2, fo, tb]
theorem readM {p : Str} (h : TxtG p) : F__read_move [.str p, .dict handsT] = .ret (pmD (Txt.split p " ")) := by
  refine run_rt ?_
  have e0 : ini 5 [.str p, .dict handsT] = [.dt (.str p), .dt (.dict handsT), .un, .un, .un] := rfl
  rw [e0]
  have wl := words_len p
  have sp := split_dT (x := p) (y := " ") h.len (by decide +kernel)
  have ok : ∀ w ∈ Txt.split p " ", PyData.strOk w = true := fun w hw => (h.part hw).ok
  have hs := h.sp
  have fo := formed_words ok (by omega)
  generalize Txt.split p " " = ws at *
  have lc : ∀ A : D, lcL (toSlot 4) yesT E__read_move_1 (ws.map PyData.str) [.dt (.str p), .dt (.dict handsT), .dt A, .un, .un] = .ret (ws.map hv) := fun A => by
    refine lcL_mapL PyData.str hv fun w hw => ⟨_, rfl, ?_⟩
    have g := getK_hv w
    have k : isDct (.dict handsT) = true := rfl
    generalize PyData.dict handsT = HT at *
    show getS (gv 1) (gv 4) (gv 4) [.dt (.str p), .dt HT, .dt A, .un, .dt (.str w)] = _
    unfold getS
    simp [k, g]
  rcases fo with ⟨f1, f2, _⟩ | ⟨f1, f2⟩
  · have q := readM_gen (fb := true) sp rfl (big (by rw [List.length_map]; omega)) lc (big (by rw [List.length_map]; omega)) rfl f1
    rw [q, if_pos rfl, f2]
  · have q := readM_gen (fb := false) sp rfl (big (by rw [List.length_map]; omega)) lc (big (by rw [List.length_map]; omega)) rfl f1
    rw [q, f2]; rfl
end Zk27
namespace Zk27
open PySem PySem.Spec PyProof.Rows L2 Y
/-! ### any text read as a run: a part, by the law -/
theorem strs_dep : ∀ l : List Str, PyData.depthAll (l.map PyData.str) = 0
  | [] => rfl
  | a :: l => by rw [List.map_cons]; simp only [PyData.depthAll, strs_dep l, PyData.depth]; rfl
theorem ne_nilD {r : List D} (h : PyData.canLayAll0 r = true) (hd : PyData.depthAll r ≤ 40) : pyNe (.list r) (.list []) = .ret (.bool (!r.isEmpty)) := by
  have s1 : SeqAt.shaped (.list r) = true := by
    unfold SeqAt.shaped
    rw [Bool.and_eq_true]
    refine ⟨h, decide_eq_true ?_⟩
    simp only [PyData.depth]
    omega
  have s2 : SeqAt.shaped (.list []) = true := by decide +kernel
  unfold pyNe
  rw [ask_t ⟨s1, s2⟩]
  cases r <;> simp [PyData.eqv, PyData.eqvAll]
theorem strs_neD {l : List Str} (h : ∀ x ∈ l, PyData.strOk x = true) : pyNe (.list (l.map PyData.str)) (.list []) = .ret (.bool (!l.isEmpty)) := by
  have q := ne_nilD (lay_strs0 h) (by rw [strs_dep]; decide)
  rw [q]
  cases l <;> rfl
theorem dgs_in {neg : Bool} {x : Str} (h : PyData.strOk x = true) : inD neg (.str x) (.tuple [.str "0", .str "1", .str "2", .str "3", .str "4"]) = .ret (.bool (decide (x ∈ DGs) != neg)) := in_t (W := DGs) h (by decide +kernel)
theorem mws_in {neg : Bool} {x : Str} (h : PyData.strOk x = true) : inD neg (.str x) (.tuple [.str "on", .str "away", .str "call"]) = .ret (.bool (decide (x ∈ MWs) != neg)) := in_t (W := MWs) h (by decide +kernel)
theorem int2_dg {w : Str} (h : w ∈ DGs) : int2 (.str w) = .ret (.int (dgV w : Int)) := by
  have k : ∀ w ∈ DGs, PySem.intText? w = some (dgV w : Int) ∧ w.length ≤ 640 := by decide +kernel
  show (match PySem.intText? w with | some n => Y.ask (w.length ≤ 640) (T.ret (PyData.int n)) | none => .bad) = _
  rw [(k w h).1]
  exact ask_t (k w h).2
theorem sl_tlL {ds : List D} {i : Nat} : pySl (.list ds) (some (i : Int)) none = .ret (.list (ds.drop i)) := by
  show T.ret (PyData.list (Y.cutD ds _ _)) = _
  rw [cut_tl]
theorem sl_hdL {ds : List D} {i : Nat} : pySl (.list ds) none (some (i : Int)) = .ret (.list (ds.take i)) := by
  show T.ret (PyData.list (Y.cutD ds _ _)) = _
  rw [cut_hd]
theorem nodup_take {r : List Str} : r.Nodup ↔ ∀ i < r.length, ¬ r.getD i "" ∈ r.take i := by
  unfold List.Nodup
  rw [List.pairwise_iff_getElem]
  constructor
  · intro h i hi hm
    obtain ⟨k, hk, e⟩ := List.getElem_of_mem hm
    rw [List.length_take] at hk
    have := h k i (by omega) hi (by omega)
    rw [List.getElem_take] at e
    rw [List.getD_eq_getElem?_getD, List.getElem?_eq_getElem hi] at e
    exact this e
  · intro h i j hi hj hij e
    refine h j hj ?_
    rw [List.getD_eq_getElem?_getD, List.getElem?_eq_getElem hj]
    show r[j] ∈ r.take j
    rw [← e]
    refine List.mem_iff_getElem.mpr ⟨i, by rw [List.length_take]; omega, ?_⟩
    rw [List.getElem_take]
theorem enum_strs (r : List Str) : enumD (r.map PyData.str) = (List.range r.length).map fun i : Nat => (PyData.int (i : Int), PyData.str (r.getD i "")) := by
  have e1 : upto 0 (r.map PyData.str).length = (List.range r.length).map fun i : Nat => PyData.int (i : Int) := by
    rw [List.length_map]
    unfold upto
    refine List.map_congr_left fun k _ => ?_
    rw [Int.zero_add]
  have e2 : r.map PyData.str = (List.range r.length).map fun i : Nat => PyData.str (r.getD i "") := by
    refine List.ext_getElem? fun i => ?_
    rw [List.getElem?_map, List.getElem?_map]
    by_cases hi : i < r.length
    · rw [List.getElem?_range hi, List.getElem?_eq_getElem hi, Option.map_some, Option.map_some, List.getD_eq_getElem?_getD, List.getElem?_eq_getElem hi]
      rfl
    · rw [List.getElem?_eq_none (by omega), List.getElem?_eq_none (by rw [List.length_range]; omega)]
      rfl
  unfold enumD
  rw [e1]
  conv => lhs; rw [e2]
  rw [List.zip_map']
def MOV (a0 a1 em cx m1 m2 : Bool) (V : D) : D := if a0 && a1 && !(!em && !cx) && !m1 && !m2 then V else .none
theorem lawM_gen {P V : D} {w0 w1 : Str} {WS RR L1 L2 LL : List D} {ZZ : List (D × D)} {L h : Int} {a0 a1 em cx m1 m2 : Bool} (sp : splitD P (.str " ") = .ret (.list WS)) (iP : isStr P = true) (ln : len1 (.list WS) = .ret (.int L)) (hL : ¬ L < 2) (i0 : pyIx (.list WS) (.int 0) = .ret (.str w0)) (i1 : pyIx (.list WS) (.int 1) = .ret (.str w1))
    (n0 : inD true (.str w0) (.tuple [.str "0", .str "1", .str "2", .str "3", .str "4"]) = .ret (.bool (!a0))) (n1 : inD true (.str w1) (.tuple [.str "on", .str "away", .str "call"]) = .ret (.bool (!a1))) (s2 : pySl (.list WS) (some 2) none = .ret (.list RR)) (hz : RR.length ≤ sizeLine)
    (nR : pyNe (.list RR) (.list []) = .ret (.bool (!em))) (nx : pyNe (.str w1) (.str "call") = .ret (.bool (!cx))) (lc1 : ∀ A : S, lcL (toSlot 3) C__law_move_of_1 E__law_move_of_1 RR [.dt P, .dt (.list WS), .dt (.list RR), .un, A] = .ret L1) (k1 : pyNe (.list L1) (.list []) = .ret (.bool m1))
    (et : enumT (.list RR) = .ret ZZ) (hzz : ZZ.length ≤ sizeLine) (lc2 : lcL (fun p => (toCons (toSlot 4) (toCons (toSlot 3) toNil)) [p.1, p.2]) C__law_move_of_2 E__law_move_of_2 ZZ [.dt P, .dt (.list WS), .dt (.list RR), .un, .un] = .ret L2) (k2 : pyNe (.list L2) (.list []) = .ret (.bool m2))
    (fin : a0 = true → m1 = false → int2 (.str w0) = .ret (.int h) ∧ (∀ A : S, lcL (toSlot 3) yesT E__law_move_of_3 RR [.dt P, .dt (.list WS), .dt (.list RR), .un, A] = .ret LL) ∧ LL.length ≤ sizeLine ∧ pyAdd (.tuple [.int h, .str w1]) (.tuple LL) = .ret V) :
    D__law_move_of [.dt P, .un, .un, .un, .un] = .ret (.rt (MOV a0 a1 em cx m1 m2 V)) := by
  have sq : seqOf (.list RR) = .ret RR := rfl
  have tb : ∀ b : Bool, truth (.bool b) = .ret b := fun _ => rfl
  have iz : Y.ask (isStr P = true) (splitD P (.str " ")) = .ret (.list WS) := by rw [ask_t iP]; exact sp
  unfold D__law_move_of MOV
  cases a0 with
  | false => simp [mOp, iz, ln, hL, i0, n0, tb]
  | true =>
    cases a1 with
    | false => simp [mOp, iz, ln, hL, i0, n0, tb, i1, n1]
    | true =>
      cases m1 with
      | true =>
        cases em <;> cases cx <;> simp [mOp, iz, ln, hL, i0, n0, tb, i1, n1, s2, nR, nx, lc1, k1, sq, hz, asData, noP, asInt]
      | false =>
        obtain ⟨f1, f2, f3, f4⟩ := fin rfl rfl
        cases m2 with
        | true => cases em <;> cases cx <;> simp [mOp, iz, ln, hL, i0, n0, tb, i1, n1, s2, nR, nx, lc1, k1, sq, hz, asData, noP, asInt, et, hzz, lc2, k2]
        | false => cases em <;> cases cx <;> simp [mOp, iz, ln, hL, i0, n0, tb, i1, n1, s2, nR, nx, lc1, k1, sq, hz, asData, noP, asInt, et, hzz, lc2, k2, f1, f2, f3, f4]
theorem lawM_short {P : D} {WS : List D} {L : Int} (sp : splitD P (.str " ") = .ret (.list WS)) (iP : isStr P = true) (ln : len1 (.list WS) = .ret (.int L)) (hL : L < 2) : D__law_move_of [.dt P, .un, .un, .un, .un] = .ret (.rt .none) := by
  have tb : ∀ b : Bool, truth (.bool b) = .ret b := fun _ => rfl
  have iz : Y.ask (isStr P = true) (splitD P (.str " ")) = .ret (.list WS) := by rw [ask_t iP]; exact sp
  unfold D__law_move_of
  simp [mOp, iz, ln, hL]
theorem cond_eb {w0 w1 : Str} {r : List Str} : (decide (w0 ∈ DGs) && decide (w1 ∈ MWs) && !(!r.isEmpty && !(w1 == ("call" : Str))) && !(!(r.filter fun c => !decide (c ∈ DGs)).isEmpty) && !(!decide r.Nodup)) = (decide (w0 ∈ DGs) && decide (w1 ∈ MWs) && (r.all fun c => decide (c ∈ DGs)) && formB 5 (dgV w0) w1 (r.map dgV)) := by
  have ee : ((r.filter fun c => !decide (c ∈ DGs)).isEmpty) = (r.all fun c => decide (c ∈ DGs)) := by
    rw [Bool.eq_iff_iff, List.isEmpty_iff, List.filter_eq_nil_iff, List.all_eq_true]
    constructor
    · intro z a ha; have := z a ha; simpa using this
    · intro z a ha; have := z a ha; simpa using this
  rw [ee]
  by_cases ha : (r.all fun c => decide (c ∈ DGs)) = true
  · have hd : ∀ c ∈ r, c ∈ DGs := fun c hc => by
      have := List.all_eq_true.mp ha c hc
      simpa using this
    have a1 : ((r.map dgV).all fun i => decide (i < 5)) = true := by
      rw [List.all_map, List.all_eq_true]
      exact fun c _ => decide_eq_true (dgV_lt c)
    have a2 : (r.map dgV).isEmpty = r.isEmpty := by cases r <;> rfl
    have a3 : decide (r.map dgV).Nodup = decide r.Nodup := decide_eq_decide.mpr (nodup_dg hd)
    have f1 : formB 5 (dgV w0) w1 (r.map dgV) = if w1 == ("call" : Str) then decide r.Nodup else r.isEmpty := by
      unfold formB
      rw [decide_eq_true (dgV_lt w0), a1, a2, a3]
      rfl
    have e0 : r.isEmpty = true → decide r.Nodup = true := fun z => by
      rw [List.isEmpty_iff.mp z]; rfl
    rw [f1, ha]
    generalize decide (w0 ∈ DGs) = A
    generalize decide (w1 ∈ MWs) = B
    generalize (w1 == ("call" : Str)) = CC
    generalize decide r.Nodup = N at *
    generalize r.isEmpty = E at *
    cases A <;> cases B <;> cases CC <;> cases N <;> cases E <;> first | rfl | (exact absurd (e0 rfl) (by decide))
  · have ha : (r.all fun c => decide (c ∈ DGs)) = false := by simpa using ha
    rw [ha]; simp
theorem pmD_cons {w0 w1 : Str} {r : List Str} : pmD (w0 :: w1 :: r) = if (decide (w0 ∈ DGs) && decide (w1 ∈ MWs) && (r.all fun c => decide (c ∈ DGs)) && formB 5 (dgV w0) w1 (r.map dgV)) = true then mvT (dgV w0) w1 (r.map dgV) else .none := by
  unfold pmD pmH
  dsimp only
  by_cases h : (decide (w0 ∈ DGs) && decide (w1 ∈ MWs) && (r.all fun c => decide (c ∈ DGs)) && formB 5 (dgV w0) w1 (r.map dgV)) = true
  · rw [if_pos h, if_pos h]; rfl
  · rw [if_neg h, if_neg h]
theorem lawM {p : Str} (h : TxtG p) : F__law_move_of [.str p] = .ret (pmD (Txt.split p " ")) := by
  refine run_rt ?_
  have e0 : ini 5 [.str p] = [.dt (.str p), .un, .un, .un, .un] := rfl
  rw [e0]
  have wl := words_len p
  have sp := split_dT (x := p) (y := " ") h.len (by decide +kernel)
  have ok : ∀ w ∈ Txt.split p " ", PyData.strOk w = true := fun w hw => (h.part hw).ok
  have hs := h.sp
  generalize hws : Txt.split p " " = ws at *
  match ws, ok with
  | [], _ => exact lawM_short (L := 0) sp rfl rfl (by decide)
  | [w], _ => exact lawM_short (L := 1) sp rfl rfl (by decide)
  | w0 :: w1 :: r, ok =>
    rw [List.length_cons, List.length_cons] at wl
    have o0 := ok w0 List.mem_cons_self
    have o1 := ok w1 (List.mem_cons_of_mem _ List.mem_cons_self)
    have or' : ∀ c ∈ r, PyData.strOk c = true := fun c hc => ok c (List.mem_cons_of_mem _ (List.mem_cons_of_mem _ hc))
    have ln : len1 (.list ((w0 :: w1 :: r).map PyData.str)) = .ret (.int ((r.length + 2 : Nat) : Int)) := by
      show T.ret (PyData.int (((w0 :: w1 :: r).map PyData.str).length : Nat)) = _
      rw [List.length_map, List.length_cons, List.length_cons]
    have i0 : pyIx (.list ((w0 :: w1 :: r).map PyData.str)) (.int 0) = .ret (.str w0) := ix_l (i := 0) rfl
    have i1 : pyIx (.list ((w0 :: w1 :: r).map PyData.str)) (.int 1) = .ret (.str w1) := ix_l (i := 1) rfl
    have n0 : inD true (.str w0) (.tuple [.str "0", .str "1", .str "2", .str "3", .str "4"]) = .ret (.bool (!decide (w0 ∈ DGs))) := by rw [dgs_in o0]; cases decide (w0 ∈ DGs) <;> rfl
    have n1 : inD true (.str w1) (.tuple [.str "on", .str "away", .str "call"]) = .ret (.bool (!decide (w1 ∈ MWs))) := by rw [mws_in o1]; cases decide (w1 ∈ MWs) <;> rfl
    have s2 : pySl (.list ((w0 :: w1 :: r).map PyData.str)) (some 2) none = .ret (.list (r.map PyData.str)) := sl_tlL (ds := PyData.str w0 :: PyData.str w1 :: r.map PyData.str) (i := 2)
    have hz : (r.map PyData.str).length ≤ sizeLine := big (by rw [List.length_map]; omega)
    have nR := strs_neD or'
    have nx := nok_w o1 "call"
    have lc1 : ∀ A : S, lcL (toSlot 3) C__law_move_of_1 E__law_move_of_1 (r.map PyData.str) [.dt (.str p), .dt (.list ((w0 :: w1 :: r).map PyData.str)), .dt (.list (r.map PyData.str)), .un, A] = .ret ((r.filter fun c => !decide (c ∈ DGs)).map PyData.str) := fun A => lcL_filL PyData.str (fun c => !decide (c ∈ DGs)) PyData.str fun c hc => ⟨_, rfl, by
      have q : inD true (.str c) (.tuple [.str "0", .str "1", .str "2", .str "3", .str "4"]) = .ret (.bool (!decide (c ∈ DGs))) := by rw [dgs_in (or' c hc)]; cases decide (c ∈ DGs) <;> rfl
      generalize PyData.list ((w0 :: w1 :: r).map PyData.str) = M1
      generalize PyData.list (r.map PyData.str) = M2
      generalize PyData.str c = SC at *
      simp [C__law_move_of_1, q], fun _ => by
      generalize PyData.list ((w0 :: w1 :: r).map PyData.str) = M1
      generalize PyData.list (r.map PyData.str) = M2
      simp [E__law_move_of_1]⟩
    have k1 := strs_neD (l := r.filter fun c => !decide (c ∈ DGs)) fun x hx => or' x (List.mem_filter.mp hx).1
    have et : enumT (.list (r.map PyData.str)) = .ret ((List.range r.length).map fun i : Nat => (PyData.int (i : Int), PyData.str (r.getD i ""))) := by
      show T.ret (enumD (r.map PyData.str)) = _
      rw [enum_strs]
    have lc2 : lcL (fun p => (toCons (toSlot 4) (toCons (toSlot 3) toNil)) [p.1, p.2]) C__law_move_of_2 E__law_move_of_2 ((List.range r.length).map fun i : Nat => (PyData.int (i : Int), PyData.str (r.getD i ""))) [.dt (.str p), .dt (.list ((w0 :: w1 :: r).map PyData.str)), .dt (.list (r.map PyData.str)), .un, .un] = .ret (((List.range r.length).filter fun i => decide (r.getD i "" ∈ r.take i)).map fun i : Nat => PyData.int (i : Int)) :=
      lcL_filL (fun i : Nat => (PyData.int (i : Int), PyData.str (r.getD i ""))) (fun i => decide (r.getD i "" ∈ r.take i)) (fun i : Nat => PyData.int (i : Int)) fun i hi => ⟨[.dt (.str p), .dt (.list ((w0 :: w1 :: r).map PyData.str)), .dt (.list (r.map PyData.str)), .dt (.str (r.getD i "")), .dt (.int (i : Int))], rfl, by
        have hi : i < r.length := List.mem_range.mp hi
        have oc : PyData.strOk (r.getD i "") = true := by
          rw [List.getD_eq_getElem?_getD, List.getElem?_eq_getElem hi]
          exact or' _ (List.getElem_mem hi)
        have st : pySl (.list (r.map PyData.str)) none (some (i : Int)) = .ret (.list ((r.take i).map PyData.str)) := by
          have q := sl_hdL (ds := r.map PyData.str) (i := i)
          rw [← List.map_take] at q
          exact q
        have q := in_l (neg := false) (w := r.getD i "") (W := r.take i) oc fun u hu => or' u (List.mem_of_mem_take hu)
        have b0 : (decide (r.getD i "" ∈ r.take i) != false) = decide (r.getD i "" ∈ r.take i) := by cases decide (r.getD i "" ∈ r.take i) <;> rfl
        rw [b0] at q
        generalize PyData.list ((w0 :: w1 :: r).map PyData.str) = M1
        generalize decide (r.getD i "" ∈ r.take i) = kk at *
        generalize PyData.list ((r.take i).map PyData.str) = M3 at *
        generalize PyData.list (r.map PyData.str) = M2 at *
        generalize PyData.str (r.getD i "") = SC at *
        simp [C__law_move_of_2, st, q, noP, asInt], fun _ => by
        generalize PyData.list ((w0 :: w1 :: r).map PyData.str) = M1
        generalize PyData.list (r.map PyData.str) = M2
        simp [E__law_move_of_2]⟩
    have k2 : pyNe (.list (((List.range r.length).filter fun i => decide (r.getD i "" ∈ r.take i)).map fun i : Nat => PyData.int (i : Int))) (.list []) = .ret (.bool (!decide r.Nodup)) := by
      have q := ne_nilD (ro_lay ((List.range r.length).filter fun i => decide (r.getD i "" ∈ r.take i))) (by
        have : ∀ l : List Nat, PyData.depthAll (roL l) = 0 := by
          intro l
          unfold roL
          induction l with
          | nil => rfl
          | cons i l ih => rw [List.map_cons]; simp only [PyData.depthAll, ih, PyData.depth]; rfl
        rw [this]; decide)
      refine q.trans ?_
      congr 3
      rw [Bool.eq_iff_iff, decide_eq_true_eq, nodup_take, List.isEmpty_iff]
      unfold roL
      rw [List.map_eq_nil_iff, List.filter_eq_nil_iff]
      constructor
      · intro z i hi
        have := z i (List.mem_range.mpr hi)
        simpa using this
      · intro z i hi
        have := z i (List.mem_range.mp hi)
        simpa using this
    have q := lawM_gen (V := mvT (dgV w0) w1 (r.map dgV)) (h := (dgV w0 : Int)) (LL := roL (r.map dgV)) sp rfl ln (by omega) i0 i1 n0 n1 s2 hz nR nx lc1 k1 et (big (by rw [List.length_map, List.length_range]; omega)) lc2 k2 (fun z1 z2 => by
      have hd : ∀ c ∈ r, c ∈ DGs := fun c hc => by
        have z2 : (r.filter fun c => !decide (c ∈ DGs)).isEmpty = true := by simpa using z2
        rw [List.isEmpty_iff, List.filter_eq_nil_iff] at z2
        have := z2 c hc
        simpa using this
      refine ⟨int2_dg (of_decide_eq_true z1), fun A => ?_, big (by rw [roL_len, List.length_map]; omega), addT (by simp [roL]; omega)⟩
      have e : roL (r.map dgV) = r.map fun c => PyData.int (dgV c : Int) := by unfold roL; rw [List.map_map]; rfl
      rw [e]
      refine lcL_mapL PyData.str (fun c => PyData.int (dgV c : Int)) fun c hc => ⟨_, rfl, ?_⟩
      have g := int2_dg (hd c hc)
      generalize PyData.list ((w0 :: w1 :: r).map PyData.str) = M1
      generalize PyData.list (r.map PyData.str) = M2
      generalize PyData.str c = SC at *
      simp [E__law_move_of_3, g])
    rw [q]
    congr 2
    have eb := cond_eb (w0 := w0) (w1 := w1) (r := r)
    show MOV _ _ _ _ _ _ _ = _
    unfold MOV
    rw [eb]
    rw [pmD_cons]
end Zk27
namespace Zk27
open PySem PySem.Spec PyProof.Rows L2 Y
/-! ### any text read as a run: the whole text -/
def rdH : List Str → Nat → Except Nat (List HMv)
  | [], _ => .ok []
  | p :: ps, k => match pmH (Txt.split p " ") with
    | some m => if k < 400 then (match rdH ps (k + 1) with | .ok r => .ok (m :: r) | .error j => .error j) else .error k
    | none => .error k
def partsT (t : Str) : List Str := if t.length = 0 then [] else Txt.split t "; "
def dueT (t : Str) : D := match rdH (partsT t) 0 with
  | .ok r => .list [.str "told", .tuple (r.map HMv.d)]
  | .error j => .list [.str "text", .int (j : Int), .bool true]
theorem rdH_ok : ∀ {ps : List Str} {k : Nat} {r : List HMv}, k ≤ 400 → rdH ps k = .ok r → (∀ m ∈ r, m.Ok) ∧ k + r.length ≤ 400
  | [], k, r, hk, h => by cases h; exact ⟨(fun m hm => nomatch hm), by simpa using hk⟩
  | p :: ps, k, r, hk, h => by
    unfold rdH at h
    split at h
    · rename_i m hm
      split at h
      · rename_i h4
        cases q : rdH ps (k + 1) with
        | ok r2 =>
          rw [q] at h
          cases h
          obtain ⟨h1, h2⟩ := rdH_ok (by omega) q
          refine ⟨fun x hx => ?_, by rw [List.length_cons]; omega⟩
          rcases List.mem_cons.mp hx with rfl | hx
          · exact pmH_ok hm
          · exact h1 x hx
        | error j => rw [q] at h; cases h
      · cases h
    · cases h
theorem rdH_err : ∀ {ps : List Str} {k j : Nat}, k ≤ 400 → rdH ps k = .error j → j ≤ 400
  | [], k, j, _, h => by cases h
  | p :: ps, k, j, hk, h => by
    unfold rdH at h
    split at h
    · split at h
      · cases q : rdH ps (k + 1) with
        | ok r2 => rw [q] at h; cases h
        | error j2 => rw [q] at h; cases h; exact rdH_err (by omega) q
      · cases h; exact hk
    · cases h; exact hk
theorem raise_x {c : Str} {f : Rho → T (List D)} {ρ : Rho} {d : D} (h : f ρ = .ret [d]) : raise1 c f ρ = .ret (.xc ⟨c, some d⟩ ρ) := by
  unfold raise1 Y.atS
  rw [h]
  rfl
theorem forL_xc {α : Type} {gg : α → Rho → Option Rho} {F : Rho → T Out} {a : α} {as : List α} {ρ ρ1 ρ2 : Rho} {ev : Ev} (h1 : gg a ρ = some ρ1) (h2 : F ρ1 = .ret (.xc ev ρ2)) : Y.forL gg F (a :: as) ρ = .ret (.xc ev ρ2) := by
  simp only [Y.forL, h1, h2]
  rfl
theorem seqS_xcY {F K : Rho → T Out} {ρ ρ' : Rho} {ev : Ev} (h : F ρ = .ret (.xc ev ρ')) : seqS F K ρ = .ret (.xc ev ρ') := by unfold seqS; rw [h]; rfl
theorem rd_good {p : Str} {m : HMv} (h : TxtG p) (hm : pmH (Txt.split p " ") = some m) {k : Int} (hk : k < 400) {t P : D} {acc : List D} (ha : acc.length ≤ 400) {c6 c7 : S} :
    B_read_run_2 (rdS t P acc (.dt (.int k)) (.dt (.str p)) c6 c7) = .ret (.nx (rdS t P (acc ++ [m.d]) (.dt (.int k)) (.dt (.str p)) (.dt m.d) c7)) := by
  have r : F__read_move [.str p, .dict handsT] = .ret m.d := by rw [readM h]; unfold pmD; rw [hm]
  have ei : pyIs m.d .none = .ret (.bool false) := rfl
  have eq4 : pyEq (.int k) (.int 400) = .ret (.bool false) := eq_i.trans (by rw [beq_false_of_ne (by omega)])
  have tb : truth (.bool false) = .ret false := rfl
  have hz : acc.length < sizeLine := Nat.lt_of_le_of_lt ha (by rw [sizeLine_eq]; decide)
  unfold B_read_run_2 rdS
  generalize F__read_move = FR at *
  generalize m.d = MD at *
  generalize PyData.dict handsT = HT at *
  have ap := e_app (i := 3) (ρ := [S.dt t, S.dt HT, S.dt P, S.ow acc, S.dt (.int k), S.dt (.str p), S.dt MD, c7]) (f := gv 6) (ds := acc) rfl
  simp [r, ei, eq4, K_MAX_MOVES, tb, hz, ap]
theorem rd_bad {p : Str} (h : TxtG p) {k : Int} (hb : pmH (Txt.split p " ") = none ∨ k = 400) {t P : D} {acc : List D} {c6 c7 : S} :
    ∃ ρ', B_read_run_2 (rdS t P acc (.dt (.int k)) (.dt (.str p)) c6 c7) = .ret (.xc ⟨"BadText", some (.int k)⟩ ρ') := by
  have r := readM h
  have n0 : pyIs .none .none = .ret (.bool true) := rfl
  refine ⟨rdS t P acc (.dt (.int k)) (.dt (.str p)) (.dt (pmD (Txt.split p " "))) c7, ?_⟩
  cases q : pmH (Txt.split p " ") with
  | none =>
    have e : pmD (Txt.split p " ") = .none := by unfold pmD; rw [q]
    rw [e] at r ⊢
    unfold B_read_run_2 rdS
    generalize F__read_move = FR at *
    generalize PyData.dict handsT = HT at *
    have rx := raise_x (c := "BadText") (f := consT (gv 4) nilA) (ρ := [S.dt t, S.dt HT, S.dt P, S.ow acc, S.dt (.int k), S.dt (.str p), S.dt .none, c7]) (d := .int k) (by simp)
    generalize raise1 "BadText" (consT (gv 4) nilA) = RX at *
    simp [r, n0]
    exact seqS_xcY rx
  | some m =>
    have hk : k = 400 := by
      rcases hb with z | z
      · rw [q] at z; cases z
      · exact z
    have e : pmD (Txt.split p " ") = m.d := by unfold pmD; rw [q]
    rw [e] at r ⊢
    have ei : pyIs m.d .none = .ret (.bool false) := rfl
    have eq4 : pyEq (.int k) (.int 400) = .ret (.bool true) := eq_i.trans (by rw [hk]; rfl)
    have tb : ∀ b, truth (.bool b) = .ret b := fun _ => rfl
    unfold B_read_run_2 rdS
    generalize F__read_move = FR at *
    generalize m.d = MD at *
    generalize PyData.dict handsT = HT at *
    have rx := raise_x (c := "BadText") (f := consT (gv 4) nilA) (ρ := [S.dt t, S.dt HT, S.dt P, S.ow acc, S.dt (.int k), S.dt (.str p), S.dt MD, c7]) (d := .int k) (by simp)
    generalize raise1 "BadText" (consT (gv 4) nilA) = RX at *
    simp [r, ei, eq4, K_MAX_MOVES, tb]
    exact seqS_xcY rx
theorem rd_all {t P : D} : ∀ (ps : List Str) (k : Nat) (acc : List D) (c4 c5 c6 c7 : S), (∀ p ∈ ps, TxtG p) → k ≤ 400 → acc.length = k →
    match rdH ps k with
    | .ok r => ∃ c4' c5' c6', Y.forL (fun p => (toCons (toSlot 4) (toCons (toSlot 5) toNil)) [p.1, p.2]) B_read_run_2 ((upto (k : Int) ps.length).zip (ps.map PyData.str)) (rdS t P acc c4 c5 c6 c7) = .ret (.nx (rdS t P (acc ++ r.map HMv.d) c4' c5' c6' c7))
    | .error j => ∃ ρ', Y.forL (fun p => (toCons (toSlot 4) (toCons (toSlot 5) toNil)) [p.1, p.2]) B_read_run_2 ((upto (k : Int) ps.length).zip (ps.map PyData.str)) (rdS t P acc c4 c5 c6 c7) = .ret (.xc ⟨"BadText", some (.int (j : Int))⟩ ρ')
  | [], k, acc, c4, c5, c6, c7, _, _, _ => ⟨c4, c5, c6, by simp [Y.forL]⟩
  | p :: ps, k, acc, c4, c5, c6, c7, o, hk, ha => by
    have op := o p List.mem_cons_self
    have up : upto (k : Int) (p :: ps).length = .int (k : Int) :: upto ((k + 1 : Nat) : Int) ps.length := by
      rw [List.length_cons, upto_succ]; rfl
    rw [up, List.map_cons, List.zip_cons_cons]
    cases q : pmH (Txt.split p " ") with
    | none =>
      have e : rdH (p :: ps) k = .error k := by unfold rdH; rw [q]
      rw [e]
      obtain ⟨ρ', z⟩ := rd_bad op (.inl q) (k := (k : Int)) (t := t) (P := P) (acc := acc) (c6 := c6) (c7 := c7)
      exact ⟨ρ', forL_xc rfl z⟩
    | some m =>
      by_cases h4 : k < 400
      · have ih := rd_all (t := t) (P := P) ps (k + 1) (acc ++ [m.d]) (.dt (.int k)) (.dt (.str p)) (.dt m.d) c7 (fun x hx => o x (List.mem_cons_of_mem _ hx)) (by omega) (by simp; omega)
        have st := rd_good op q (k := (k : Int)) (by omega) (t := t) (P := P) (acc := acc) (by omega) (c6 := c6) (c7 := c7)
        cases z : rdH ps (k + 1) with
        | ok r =>
          have e : rdH (p :: ps) k = .ok (m :: r) := by unfold rdH; rw [q]; simp only [if_pos h4, z]
          rw [e]
          rw [z] at ih
          obtain ⟨a, b, c, ih⟩ := ih
          refine ⟨a, b, c, ?_⟩
          rw [forL_step (ρ1 := rdS t P acc (.dt (.int k)) (.dt (.str p)) c6 c7) rfl st, ih]
          simp
        | error j =>
          have e : rdH (p :: ps) k = .error j := by unfold rdH; rw [q]; simp only [if_pos h4, z]
          rw [e]
          rw [z] at ih
          obtain ⟨ρ', ih⟩ := ih
          refine ⟨ρ', ?_⟩
          rw [forL_step (ρ1 := rdS t P acc (.dt (.int k)) (.dt (.str p)) c6 c7) rfl st, ih]
      · have e : rdH (p :: ps) k = .error k := by unfold rdH; rw [q]; simp only [if_neg h4]
        rw [e]
        obtain ⟨ρ', z⟩ := rd_bad op (.inr (by omega)) (k := (k : Int)) (t := t) (P := P) (acc := acc) (c6 := c6) (c7 := c7)
        exact ⟨ρ', forL_xc rfl z⟩
end Zk27
namespace Zk27
open PySem PySem.Spec PyProof.Rows L2 Y
/-! ### any text read as a run: what both tell -/
theorem ld_good {p : Str} {m : HMv} (h : TxtG p) (hm : pmH (Txt.split p " ") = some m) {k : Int} (hk : k < 400) {V : D} {acc : List D} (ha : acc.length ≤ 400) {c4 : S} :
    B__law_due_1 [.dt V, .ow acc, .dt (.int k), .dt (.str p), c4] = .ret (.nx [.dt V, .ow (acc ++ [m.d]), .dt (.int k), .dt (.str p), .dt m.d]) := by
  have r : F__law_move_of [.str p] = .ret m.d := by rw [lawM h]; unfold pmD; rw [hm]
  have ei : pyIs m.d .none = .ret (.bool false) := rfl
  have hz : acc.length < sizeLine := Nat.lt_of_le_of_lt ha (by rw [sizeLine_eq]; decide)
  unfold B__law_due_1
  generalize F__law_move_of = FR at *
  generalize m.d = MD at *
  have ap := e_app (i := 1) (ρ := [S.dt V, S.ow acc, S.dt (.int k), S.dt (.str p), S.dt MD]) (f := gv 4) (ds := acc) rfl
  simp [r, ei, hk, hz, ap]
theorem ld_bad {p : Str} (h : TxtG p) {k : Int} (hb : pmH (Txt.split p " ") = none ∨ k = 400) {V : D} {acc : List D} {c4 : S} :
    B__law_due_1 [.dt V, .ow acc, .dt (.int k), .dt (.str p), c4] = .ret (.rt (.list [.str "text", .int k, .bool true])) := by
  have r := lawM h
  have n0 : pyIs .none .none = .ret (.bool true) := rfl
  unfold B__law_due_1
  by_cases hk : k < 400
  · have e : pmD (Txt.split p " ") = .none := by
      rcases hb with z | z
      · unfold pmD; rw [z]
      · omega
    rw [e] at r
    generalize F__law_move_of = FR at *
    simp [r, n0, hk]
  · generalize F__law_move_of = FR at *
    simp [n0, hk]
theorem ld_all {V : D} : ∀ (ps : List Str) (k : Nat) (acc : List D) (c2 c3 c4 : S), (∀ p ∈ ps, TxtG p) → k ≤ 400 → acc.length = k →
    match rdH ps k with
    | .ok r => ∃ c2' c3' c4', Y.forL (fun p => (toCons (toSlot 2) (toCons (toSlot 3) toNil)) [p.1, p.2]) B__law_due_1 ((upto (k : Int) ps.length).zip (ps.map PyData.str)) [.dt V, .ow acc, c2, c3, c4] = .ret (.nx [.dt V, .ow (acc ++ r.map HMv.d), c2', c3', c4'])
    | .error j => Y.forL (fun p => (toCons (toSlot 2) (toCons (toSlot 3) toNil)) [p.1, p.2]) B__law_due_1 ((upto (k : Int) ps.length).zip (ps.map PyData.str)) [.dt V, .ow acc, c2, c3, c4] = .ret (.rt (.list [.str "text", .int (j : Int), .bool true]))
  | [], k, acc, c2, c3, c4, _, _, _ => ⟨c2, c3, c4, by simp [Y.forL]⟩
  | p :: ps, k, acc, c2, c3, c4, o, hk, ha => by
    have op := o p List.mem_cons_self
    have up : upto (k : Int) (p :: ps).length = .int (k : Int) :: upto ((k + 1 : Nat) : Int) ps.length := by
      rw [List.length_cons, upto_succ]; rfl
    rw [up, List.map_cons, List.zip_cons_cons]
    cases q : pmH (Txt.split p " ") with
    | none =>
      have e : rdH (p :: ps) k = .error k := by unfold rdH; rw [q]
      rw [e]
      exact forL_ret rfl (ld_bad op (.inl q))
    | some m =>
      by_cases h4 : k < 400
      · have ih := ld_all (V := V) ps (k + 1) (acc ++ [m.d]) (.dt (.int k)) (.dt (.str p)) (.dt m.d) (fun x hx => o x (List.mem_cons_of_mem _ hx)) (by omega) (by simp; omega)
        have st := ld_good op q (k := (k : Int)) (by omega) (V := V) (acc := acc) (by omega) (c4 := c4)
        cases z : rdH ps (k + 1) with
        | ok r =>
          have e : rdH (p :: ps) k = .ok (m :: r) := by unfold rdH; rw [q]; simp only [if_pos h4, z]
          rw [e]
          rw [z] at ih
          obtain ⟨a, b, c, ih⟩ := ih
          refine ⟨a, b, c, ?_⟩
          rw [forL_step (ρ1 := [.dt V, .ow acc, .dt (.int k), .dt (.str p), c4]) rfl st, ih]
          simp
        | error j =>
          have e : rdH (p :: ps) k = .error j := by unfold rdH; rw [q]; simp only [if_pos h4, z]
          rw [e]
          rw [z] at ih
          show Y.forL _ _ _ _ = _
          rw [forL_step (ρ1 := [.dt V, .ow acc, .dt (.int k), .dt (.str p), c4]) rfl st, ih]
      · have e : rdH (p :: ps) k = .error k := by unfold rdH; rw [q]; simp only [if_neg h4]
        rw [e]
        exact forL_ret rfl (ld_bad op (.inr (by omega)))
theorem partsT_G {t : Str} (h : TxtG t) : ∀ p ∈ partsT t, TxtG p := by
  unfold partsT
  split
  · exact fun p hp => nomatch hp
  · exact fun p hp => h.part hp
theorem partsT_len {t : Str} (h : TxtG t) : (partsT t).length ≤ 16002 := by
  unfold partsT
  split
  · exact Nat.zero_le _
  · have := split_many (x := t) (y := "; ")
    have := h.len
    omega
theorem enum_parts (ps : List Str) : enumT (.list (ps.map PyData.str)) = .ret ((upto 0 ps.length).zip (ps.map PyData.str)) := by
  show T.ret (enumD (ps.map PyData.str)) = _
  unfold enumD
  rw [List.length_map]
theorem run_xcY {n : Nat} {F : Rho → T Out} {ds : List D} {ev : Ev} {ρ : Rho} (h : F (ini n ds) = .ret (.xc ev ρ)) : Y.run n F ds = .exc ev := by
  unfold Y.run
  rw [h]
  rfl
theorem readR {t : Str} (h : TxtG t) : F_read_run [.str t] = match rdH (partsT t) 0 with
    | .ok r => .ret (.tuple (r.map HMv.d))
    | .error j => .exc ⟨"BadText", some (.int (j : Int))⟩ := by
  have e0 : ini 8 [.str t] = [.dt (.str t), .un, .un, .un, .un, .un, .un, .un] := rfl
  have k1 : isi1 "str" (.str t) = .ret (.bool true) := rfl
  have tb : truth (.bool true) = .ret true := rfl
  have tr : truth (.str t) = .ret (!(t.length == 0)) := by
    show Y.ask _ _ = _
    rw [ask_t (big (by have := h.len; omega))]
    congr 1
    rw [Bool.eq_iff_iff]
    simp
  have dc : dcD [7] (fun ρ => ((cD K_MAX_HANDS) ρ).bind range1) (toSlot 7) yesT (E_read_run_1k) (E_read_run_1v) [.dt (.str t), .un, .un, .un, .un, .un, .un, .un] = .ret (.dict handsT) := by rfl
  have pt : ifT (fun ρ => ((gv 0) ρ).bind truth) (mOp isStr splitD (gv 0) (cD (.str "; "))) (lstD nilA) [.dt (.str t), .dt (.dict handsT), .un, .un, .un, .un, .un, .un] = .ret (.list ((partsT t).map PyData.str)) := by
    simp only [ifT_eq, gv_0, T.ret_bind, tr]
    unfold partsT
    by_cases z : t.length = 0
    · have e : (t.length == 0) = true := by simpa using z
      rw [e, if_pos z]
      simp
    · have e : (t.length == 0) = false := by simpa using z
      have sp := split_dT (x := t) (y := "; ") h.len (by decide +kernel)
      rw [e, if_neg z]
      simp only [Bool.not_false, if_true, mOp, gv_0, T.ret_bind, isStr, ask_true, cD, sp]
  have lp := rd_all (t := .str t) (P := .list ((partsT t).map PyData.str)) (partsT t) 0 [] .un .un .un .un (partsT_G h) (by decide) rfl
  have et := enum_parts (partsT t)
  cases q : rdH (partsT t) 0 with
  | ok r =>
    rw [q] at lp
    obtain ⟨c4, c5, c6, lp⟩ := lp
    unfold rdS at lp
    rw [List.nil_append] at lp
    have hr := rdH_ok (by decide) q
    have hz : (r.map HMv.d).length ≤ sizeLine := big (by rw [List.length_map]; omega)
    have tu : tup1 (.list (r.map HMv.d)) = .ret (.tuple (r.map HMv.d)) := rfl
    show F_read_run [.str t] = .ret (.tuple (r.map HMv.d))
    refine run_rt ?_
    rw [e0]
    have lp : Y.forL (fun p => (toCons (toSlot 4) (toCons (toSlot 5) toNil)) [p.1, p.2]) B_read_run_2 ((upto 0 (partsT t).length).zip ((partsT t).map PyData.str)) _ = _ := lp
    generalize (upto 0 (partsT t).length).zip ((partsT t).map PyData.str) = EE at *
    generalize PyData.list ((partsT t).map PyData.str) = PP at *
    generalize r.map HMv.d = DD at *
    generalize (!(t.length == 0)) = NE at *
    unfold D_read_run
    generalize B_read_run_2 = BB at *
    generalize hD : dcD [7] (fun ρ => ((cD K_MAX_HANDS) ρ).bind range1) (toSlot 7) yesT (E_read_run_1k) (E_read_run_1v) = DC at *
    generalize hP : ifT (fun ρ => ((gv 0) ρ).bind truth) (mOp isStr splitD (gv 0) (cD (.str "; "))) (lstD nilA) = PT at *
    generalize PyData.dict handsT = HT at *
    simp [k1, tb, dc, pt, et, lp, frzS, tu]
  | error j =>
    rw [q] at lp
    obtain ⟨ρ', lp⟩ := lp
    unfold rdS at lp
    show F_read_run [.str t] = .exc ⟨"BadText", some (.int (j : Int))⟩
    refine run_xcY (F := D_read_run) (n := 8) (ρ := ρ') ?_
    rw [e0]
    have lp : Y.forL (fun p => (toCons (toSlot 4) (toCons (toSlot 5) toNil)) [p.1, p.2]) B_read_run_2 ((upto 0 (partsT t).length).zip ((partsT t).map PyData.str)) _ = _ := lp
    generalize (upto 0 (partsT t).length).zip ((partsT t).map PyData.str) = EE at *
    generalize PyData.list ((partsT t).map PyData.str) = PP at *
    generalize (!(t.length == 0)) = NE at *
    unfold D_read_run
    generalize B_read_run_2 = BB at *
    generalize hD : dcD [7] (fun ρ => ((cD K_MAX_HANDS) ρ).bind range1) (toSlot 7) yesT (E_read_run_1k) (E_read_run_1v) = DC at *
    generalize hP : ifT (fun ρ => ((gv 0) ρ).bind truth) (mOp isStr splitD (gv 0) (cD (.str "; "))) (lstD nilA) = PT at *
    generalize PyData.dict handsT = HT at *
    simp [k1, tb, dc, pt, et, lp]
    try rfl
theorem readN {v : D} (k1 : isi1 "str" v = .ret (.bool false)) : F_read_run [v] = .exc ⟨"BadText", some (.int ((0 : Nat) : Int))⟩ := by
  have e0 : ini 8 [v] = [.dt v, .un, .un, .un, .un, .un, .un, .un] := rfl
  have tb : ∀ b, truth (.bool b) = .ret b := fun _ => rfl
  refine run_xcY (F := D_read_run) (n := 8) (ρ := [.dt v, .un, .un, .un, .un, .un, .un, .un]) ?_
  rw [e0]
  have rx := raise_x (c := "BadText") (f := consT (cD (.int 0)) nilA) (ρ := [.dt v, .un, .un, .un, .un, .un, .un, .un]) (d := .int 0) (by simp)
  unfold D_read_run
  generalize raise1 "BadText" (consT (cD (.int 0)) nilA) = RX at *
  simp [k1, tb]
  exact seqS_xcY rx
/-! heard -/
theorem heard_ok {v R : D} {nm : Bool} (h : F_read_run [v] = .ret R) : F__law_heard [v, .bool nm] = .ret (.list [.str "told", R]) := by
  refine run_rt ?_
  have e0 : ini 3 [v, .bool nm] = [.dt v, .dt (.bool nm), .un] := rfl
  rw [e0]
  have tb : ∀ b, truth (.bool b) = .ret b := fun _ => rfl
  have ek : Y.ask ((gK 0 1 [0] [] [v]).length = 1) (F_read_run (gK 0 1 [0] [] [v])) = .ret R := (ask_t rfl).trans h
  have q : (retS (lstD (consT (cD (.str "told")) (consT (ifT (fun ρ => ((gv 1) ρ).bind truth) (callK0 1 1 [0] F_read_run (consT (gv 0) nilA)) (callD 1 F_read_run (consT (gv 0) nilA))) nilA)))) [.dt v, .dt (.bool nm), .un] = .ret (.rt (.list [.str "told", R])) := by
    cases nm <;> simp [tb, ek, h]
  unfold D__law_heard tryG
  rw [q]
  rfl
theorem heard_bad {v : D} {nm : Bool} {j : Int} (h : F_read_run [v] = .exc ⟨"BadText", some (.int j)⟩) : F__law_heard [v, .bool nm] = .ret (.list [.str "text", .int j, .bool true]) := by
  refine run_rt ?_
  have e0 : ini 3 [v, .bool nm] = [.dt v, .dt (.bool nm), .un] := rfl
  rw [e0]
  have tb : ∀ b, truth (.bool b) = .ret b := fun _ => rfl
  have ek : Y.ask ((gK 0 1 [0] [] [v]).length = 1) (F_read_run (gK 0 1 [0] [] [v])) = .exc ⟨"BadText", some (.int j)⟩ := (ask_t rfl).trans h
  have q : (lstD (consT (cD (.str "told")) (consT (ifT (fun ρ => ((gv 1) ρ).bind truth) (callK0 1 1 [0] F_read_run (consT (gv 0) nilA)) (callD 1 F_read_run (consT (gv 0) nilA))) nilA))) [.dt v, .dt (.bool nm), .un] = .exc ⟨"BadText", some (.int j)⟩ := by
    cases nm <;> simp [tb, ek, h]
  have q2 : (retS (lstD (consT (cD (.str "told")) (consT (ifT (fun ρ => ((gv 1) ρ).bind truth) (callK0 1 1 [0] F_read_run (consT (gv 0) nilA)) (callD 1 F_read_run (consT (gv 0) nilA))) nilA)))) [.dt v, .dt (.bool nm), .un] = .ret (.xc ⟨"BadText", some (.int j)⟩ [.dt v, .dt (.bool nm), .un]) := by
    unfold retS Y.atS
    rw [q]; rfl
  have h1 : isExcG 2 true [.dt v, .dt (.bool nm), .dt (hdl (-1))] = .ret (.bool true) := ask_t rfl
  have h2 : fldD ⟨"BadText", some (.int j)⟩ "place" 2 [.dt v, .dt (.bool nm), .dt (hdl (-1))] = .ret (.int j) := ask_t ⟨rfl, by show excF "BadText" = "place"; decide +kernel⟩
  have q3 : (lstD (consT (cD (.str "text")) (consT (fldD ⟨"BadText", some (.int j)⟩ "place" 2) (consT (isExcG 2 true) nilA)))) [.dt v, .dt (.bool nm), .dt (hdl (-1))] = .ret (.list [.str "text", .int j, .bool true]) := by
    simp [h1, h2]
  unfold D__law_heard tryG
  rw [q2, T.ret_bind]
  dsimp only
  have tk : tkOf "BadText" "BadText" = some true := by unfold tkOf; rw [if_pos rfl]
  rw [tk]
  dsimp only
  have q4 : (if ("BadText" : Str) = "BadText" then (lstD (consT (cD (.str "text")) (consT (fldD ⟨"BadText", some (.int j)⟩ "place" 2) (consT (isExcG 2 true) nilA)))) ([S.dt v, .dt (.bool nm), .un].set 2 (.dt (hdl (-1)))) else .bad) = .ret (.list [.str "text", .int j, .bool true]) := by
    rw [if_pos rfl]; exact q3
  rw [q4]
  rfl
theorem heard_T {t : Str} (h : TxtG t) {nm : Bool} : F__law_heard [.str t, .bool nm] = .ret (dueT t) := by
  have r := readR h
  unfold dueT
  cases q : rdH (partsT t) 0 with
  | ok rr => rw [q] at r; exact heard_ok r
  | error j => rw [q] at r; exact heard_bad r
theorem due_N {v : D} (k1 : isi1 "str" v = .ret (.bool false)) : F__law_due [v] = .ret (.list [.str "text", .int ((0 : Nat) : Int), .bool true]) := by
  refine run_rt ?_
  have e0 : ini 5 [v] = [.dt v, .un, .un, .un, .un] := rfl
  rw [e0]
  have tb : ∀ b, truth (.bool b) = .ret b := fun _ => rfl
  unfold D__law_due
  simp [k1, tb]
theorem due_T {t : Str} (h : TxtG t) : F__law_due [.str t] = .ret (dueT t) := by
  refine run_rt ?_
  have e0 : ini 5 [.str t] = [.dt (.str t), .un, .un, .un, .un] := rfl
  rw [e0]
  have tb : ∀ b, truth (.bool b) = .ret b := fun _ => rfl
  have k1 : isi1 "str" (.str t) = .ret (.bool true) := rfl
  have pt : ifT (opT pyNe (gv 0) (cD (.str ""))) (mOp isStr splitD (gv 0) (cD (.str "; "))) (lstD nilA) [.dt (.str t), .ow [], .un, .un, .un] = .ret (.list ((partsT t).map PyData.str)) := by
    have ne := nok_w h.ok ""
    unfold partsT
    by_cases z : t.length = 0
    · have e : t = "" := by
        apply cl_inj
        have : (cl t).length = 0 := by rw [len_cl]; exact z
        rw [List.length_eq_zero_iff.mp this]
        rfl
      have e2 : (t == ("" : Str)) = true := by rw [e]; rfl
      rw [e2] at ne
      rw [if_pos z]
      simp [ne]
    · have e2 : (t == ("" : Str)) = false := by
        cases q : (t == ("" : Str)) with
        | false => rfl
        | true =>
          have : t = "" := by simpa using q
          rw [this] at z
          exact absurd rfl z
      have sp := split_dT (x := t) (y := "; ") h.len (by decide +kernel)
      have iz : Y.ask (isStr (.str t) = true) (splitD (.str t) (.str "; ")) = .ret (.list ((Txt.split t "; ").map PyData.str)) := (ask_t (show isStr (.str t) = true from rfl)).trans sp
      rw [e2] at ne
      rw [if_neg z]
      simp [ne, mOp, iz]
  have lp := ld_all (V := .str t) (partsT t) 0 [] .un .un .un (partsT_G h) (by decide) rfl
  have et := enum_parts (partsT t)
  unfold dueT
  cases q : rdH (partsT t) 0 with
  | ok r =>
    rw [q] at lp
    obtain ⟨c2, c3, c4, lp⟩ := lp
    rw [List.nil_append] at lp
    have lp : Y.forL (fun p => (toCons (toSlot 2) (toCons (toSlot 3) toNil)) [p.1, p.2]) B__law_due_1 ((upto 0 (partsT t).length).zip ((partsT t).map PyData.str)) _ = _ := lp
    have tu : tup1 (.list (r.map HMv.d)) = .ret (.tuple (r.map HMv.d)) := rfl
    show D__law_due _ = .ret (.rt (.list [.str "told", .tuple (r.map HMv.d)]))
    generalize (upto 0 (partsT t).length).zip ((partsT t).map PyData.str) = EE at *
    generalize PyData.list ((partsT t).map PyData.str) = PP at *
    generalize r.map HMv.d = DD at *
    unfold D__law_due
    generalize B__law_due_1 = BB at *
    generalize hP : ifT (opT pyNe (gv 0) (cD (.str ""))) (mOp isStr splitD (gv 0) (cD (.str "; "))) (lstD nilA) = PT at *
    simp [k1, tb, pt, et, lp, frzS, tu]
  | error j =>
    rw [q] at lp
    have lp : Y.forL (fun p => (toCons (toSlot 2) (toCons (toSlot 3) toNil)) [p.1, p.2]) B__law_due_1 ((upto 0 (partsT t).length).zip ((partsT t).map PyData.str)) _ = _ := lp
    show D__law_due _ = .ret (.rt (.list [.str "text", .int (j : Int), .bool true]))
    generalize (upto 0 (partsT t).length).zip ((partsT t).map PyData.str) = EE at *
    generalize PyData.list ((partsT t).map PyData.str) = PP at *
    unfold D__law_due
    generalize B__law_due_1 = BB at *
    generalize hP : ifT (opT pyNe (gv 0) (cD (.str ""))) (mOp isStr splitD (gv 0) (cD (.str "; "))) (lstD nilA) = PT at *
    simp [k1, tb, pt, et, lp]
end Zk27
namespace Zk27
open PySem PySem.Spec PyProof.Rows L2 Y
/-! ### texts of runs written; runs compared and shown -/
theorem rp_dg {i : Nat} (h : i < 5) : Rp 10 0 (.int (i : Int)) := by
  have : i = 0 ∨ i = 1 ∨ i = 2 ∨ i = 3 ∨ i = 4 := by omega
  rcases this with rfl | rfl | rfl | rfl | rfl <;> exact ⟨by decide +kernel, rfl, Nat.le_refl _, ⟨by decide +kernel, by decide +kernel⟩⟩
theorem rp_hm {m : HMv} (o : m.Ok) : Rp 600 1 m.d := by
  obtain ⟨a, b, _, l⟩ := ok_h o
  refine (rp_tup (n := 42) (k := 0) (ds := itemsM m) fun d hd => ?_).mono (by rw [items_len]; omega) (Nat.le_refl _)
  rcases List.mem_cons.mp hd with rfl | hd
  · exact (rp_dg a).mono (by decide) (Nat.le_refl _)
  rcases List.mem_cons.mp hd with rfl | hd
  · exact rp_str (mw_gd o.w).1
  · obtain ⟨i, hi, rfl⟩ := List.mem_map.mp hd
    exact (rp_dg (b i hi)).mono (by decide) (Nat.le_refl _)
theorem rp_runH {r : List HMv} (o : ∀ m ∈ r, m.Ok) (hl : r.length ≤ 400) : Rp 300000 2 (runD r) := by
  refine (rp_tup (n := 600) (k := 1) (ds := r.map HMv.d) fun d hd => ?_).mono (by rw [List.length_map]; omega) (Nat.le_refl _)
  obtain ⟨m, hm, rfl⟩ := List.mem_map.mp hd
  exact rp_hm (o m hm)
theorem rp_rtxt {r : List HMv} (o : ∀ m ∈ r, m.Ok) (hl : r.length ≤ 400) : Rp 200000 0 (.str (runT r)) := (rp_str (gd_runT o hl)).mono (by decide) (Nat.le_refl _)
theorem rp_both {r : List HMv} (o : ∀ m ∈ r, m.Ok) (hl : r.length ≤ 400) : Rp 700000 3 (.list [.str (runT r), runD r]) := by
  refine (rp_list (n := 300000) (k := 2) fun d hd => ?_).mono (by simp) (Nat.le_refl _)
  rcases List.mem_cons.mp hd with rfl | hd
  · exact (rp_rtxt o hl).mono (by decide) (by decide)
  · rw [List.mem_singleton.mp hd]; exact rp_runH o hl
end Zk27
namespace Zk27
open PySem PySem.Spec PyProof.Rows L2 Y
/-! ### any text read as a run: shown; texts drawn -/
theorem rp_due {t : Str} : Rp 700000 4 (dueT t) := by
  unfold dueT
  cases q : rdH (partsT t) 0 with
  | ok r =>
    obtain ⟨h1, h2⟩ := rdH_ok (by decide) q
    have r1 : Rp 300000 3 (.str "told") := (rp_str (n := 100) ⟨by decide +kernel, by decide +kernel⟩).mono (by decide) (by decide)
    have r2 : Rp 300000 3 (.tuple (r.map HMv.d)) := (rp_runH h1 (by omega)).mono (by decide) (by decide)
    exact (rp_list (n := 300000) (k := 3) fun d hd => by
      rcases List.mem_cons.mp hd with rfl | hd
      · exact r1
      · rw [List.mem_singleton.mp hd]; exact r2).mono (by simp) (by decide)
  | error j =>
    have hj := rdH_err (by decide) q
    have r1 : Rp 3000 3 (.str "text") := (rp_str (n := 100) ⟨by decide +kernel, by decide +kernel⟩).mono (by decide) (by decide)
    have r2 : Rp 3000 3 (.int (j : Int)) := (rp_int (by omega)).mono (by decide) (by decide)
    have r3 : Rp 3000 3 (.bool true) := (rp_bool true).mono (by decide) (by decide)
    exact (rp_list (n := 3000) (k := 3) fun d hd => by
      simp only [List.mem_cons, List.not_mem_nil, or_false] at hd
      rcases hd with rfl | rfl | rfl
      · exact r1
      · exact r2
      · exact r3).mono (by simp) (by decide)
theorem ne_selfT {x : Str} (h : PyData.strOk x = true) : pyNe (.str x) (.str x) = .ret (.bool false) := by
  have q := ne_s h h
  rw [beq_self_eq_true] at q
  exact q
/-- what is heard of a value is what is due -/
def SameV (v : D) : Prop := ∃ R : D, (∀ nm, F__law_heard [v, .bool nm] = .ret R) ∧ F__law_due [v] = .ret R ∧ Rp 700000 4 R
theorem same_T {t : Str} (h : TxtG t) : SameV (.str t) := ⟨_, fun nm => heard_T h, due_T h, rp_due⟩
theorem same_N {v : D} (k1 : isi1 "str" v = .ret (.bool false)) : SameV v := ⟨_, fun nm => heard_bad (readN k1), due_N k1, by
  have r1 : Rp 3000 3 (.str "text") := (rp_str (n := 100) ⟨by decide +kernel, by decide +kernel⟩).mono (by decide) (by decide)
  have r2 : Rp 3000 3 (.int ((0 : Nat) : Int)) := (rp_int (by decide)).mono (by decide) (by decide)
  have r3 : Rp 3000 3 (.bool true) := (rp_bool true).mono (by decide) (by decide)
  exact (rp_list (n := 3000) (k := 3) fun d hd => by
    simp only [List.mem_cons, List.not_mem_nil, or_false] at hd
    rcases hd with rfl | rfl | rfl
    · exact r1
    · exact r2
    · exact r3).mono (by simp) (by decide)⟩
theorem gdG {n : Nat} {t : Str} (h : Gd n t) (hn : n ≤ 3500) : TxtG t := ⟨h.2, by have := h.1; omega, by have := spc_le t; have := h.1; omega⟩
theorem lc_draw {α : Type} {gg : α → Rho → Option Rho} {e : Rho → T D} {ρ : Rho} {m : Nat} {P : D → Prop} : ∀ {as : List α}, (∀ a ∈ as, ∃ ρ1, gg a ρ = some ρ1 ∧ Tl (e ρ1) m P) → Tl (lcL gg yesT e as ρ) (as.length * m) fun ds => ds.length = as.length ∧ ∀ d ∈ ds, P d
  | [], _ => .ret ⟨rfl, fun _ h => nomatch h⟩
  | a :: as, h => by
    obtain ⟨ρ1, h1, h2⟩ := h a List.mem_cons_self
    have ih := lc_draw (as := as) fun c hc => h c (List.mem_cons_of_mem _ hc)
    simp only [lcL, h1]
    show Tl (T.bind (noexc (e ρ1)) _) _ _
    refine Tl.bd (m0 := m) h2.noexc (by rw [List.length_cons, Nat.succ_mul]; omega) ?_
    intro d hd
    refine Tl.bd (m0 := as.length * m) ih (by rw [List.length_cons, Nat.succ_mul]; omega) ?_
    rintro ds ⟨hl, hds⟩
    exact .ret ⟨by rw [List.length_cons, List.length_cons, hl], fun x hx => by
      rcases List.mem_cons.mp hx with rfl | hx
      · exact hd
      · exact hds x hx⟩
/-- a text of n signs at most -/
def TxD (n : Nat) (d : D) : Prop := ∃ t, d = .str t ∧ Gd n t
theorem txds {n : Nat} : ∀ {ds : List D}, (∀ d ∈ ds, TxD n d) → ∃ ts : List Str, ds = ts.map PyData.str ∧ ∀ t ∈ ts, Gd n t
  | [], _ => ⟨[], rfl, fun _ h => nomatch h⟩
  | d :: ds, h => by
    obtain ⟨t, rfl, g⟩ := h d List.mem_cons_self
    obtain ⟨ts, rfl, gs⟩ := txds fun e he => h e (List.mem_cons_of_mem _ he)
    refine ⟨t :: ts, rfl, fun x hx => ?_⟩
    rcases List.mem_cons.mp hx with rfl | hx
    · exact g
    · exact gs x hx
theorem sum_gd {n : Nat} : ∀ {ts : List Str}, (∀ t ∈ ts, Gd n t) → (ts.map fun y : Str => y.length).sum ≤ ts.length * n
  | [], _ => by simp
  | t :: ts, h => by
    have := sum_gd fun e he => h e (List.mem_cons_of_mem t he)
    have := (h t List.mem_cons_self).1
    simp only [List.map_cons, List.sum_cons, List.length_cons, Nat.succ_mul]
    omega
theorem join_g {n : Nat} {ts : List Str} (h : ∀ t ∈ ts, Gd n t) (hl : ts.length * (n + 2) ≤ 100000) : joinD (.str "; ") (.list (ts.map PyData.str)) = .ret (.str (Txt.join "; " ts)) ∧ Gd (ts.length * (n + 2)) (Txt.join "; " ts) := by
  refine ⟨join_d ?_, ?_⟩
  · have := sum_gd h
    have e : ("; " : Str).length = 2 := by decide +kernel
    rw [e]
    rw [Nat.mul_add] at hl
    omega
  · have e : Txt.join "; " ts = Str.join "; " ts := TL.join_eq _ _
    rw [e]
    exact gd_jn ⟨by decide +kernel, by decide +kernel⟩ ts h
def RT8 : List Str := ["0 on", "4 away", "3 call", "1 call 0", "2 call 4 3 0", "0 call 0 1 2 3 4", "1 on", "2 on"]
theorem rt8_ok : ∀ x ∈ RT8, Gd 17 x := by
  have k : ∀ x ∈ RT8, x.length ≤ 17 ∧ PyData.strOk x = true := by decide +kernel
  exact fun x hx => ⟨(k x hx).1, (k x hx).2⟩
theorem pick_tx {n : Nat} {W : List Str} (h0 : 0 < W.length) (h1 : W.length < 1000) (h : ∀ x ∈ W, Gd n x) : Tl (F__law_pick [hdl 0, .list (W.map PyData.str)]) 1 (TxD n) :=
  (pick_okB (by rw [List.length_map]; exact h0) (by rw [List.length_map]; omega)).imp fun d hd => by
    obtain ⟨x, hx, rfl⟩ := List.mem_map.mp hd
    exact ⟨x, rfl, h x hx⟩
theorem right_gen {FD FK : List D → T D} {E1 : Rho → T D} {P : D} (hD : FD = drawF) (he : ∀ (UU : List D), UU.length ≤ 7 → Tl (lcL (toSlot 2) yesT E1 UU [.dt (hdl 0), .dt P, .un]) 7 fun ds => ∃ ts : List Str, ds = ts.map PyData.str ∧ (∀ t ∈ ts, Gd 17 t) ∧ ts.length ≤ 7) :
    Tl ((retS (mOp isStr joinD (cD (.str "; ")) (asData (lcD [2] (fun ρ => ((op2 pyAdd (cD (.int 1)) (callD 2 FD (consT (gv 0) (consT (cD (.int 7)) nilA)))) ρ).bind range1) (toSlot 2) yesT (E1))))) [.dt (hdl 0), .dt P, .un]) 8 fun o => ∃ d, o = .rt d ∧ TxD 140 d := by
  subst hD
  simp [mOp, drawF, asData]
  refine Tl.dr (by decide) (by decide) (by decide) fun r r0 r1 => ?_
  have rg : range1 (.int (1 + r)) = .ret (upto 0 (1 + r).toNat) := range1_ok (by omega) (by omega)
  have q := he (upto 0 (1 + r).toNat) (by rw [upto_len]; omega)
  have hz : (upto 0 (1 + r).toNat).length ≤ sizeLine := size15 (by rw [upto_len]; omega)
  generalize upto 0 (1 + r).toNat = UU at *
  have z : Tl (Y.atT ((lcL (toSlot 2) yesT E1 UU [.dt (hdl 0), .dt P, .un]).bind fun a => joinD (.str "; ") (.list a)) (fun d => T.ret (Out.rt d)) [.dt (hdl 0), .dt P, .un]) 7 fun o => ∃ d, o = .rt d ∧ TxD 140 d := by
    refine Tl.atB q (Nat.le_refl _) ?_
    rintro ds ⟨ts, rfl, h1, h2⟩
    have hm : ts.length * 19 ≤ 7 * 19 := Nat.mul_le_mul_right _ h2
    obtain ⟨j1, j2⟩ := join_g h1 (by omega)
    rw [j1, atT_ret]
    exact .ret ⟨_, rfl, _, rfl, j2.mono (by omega)⟩
  rw [atT_def] at z
  simp [rg, hz]
  exact z
end Zk27
namespace Zk27
open PySem PySem.Spec PyProof.Rows L2 Y
/-! ### any text read as a run: texts drawn, and spoilt -/
def RIGHT27 (FD : List D → T D) (E1 : Rho → T D) : Rho → T Out := (retS (mOp isStr joinD (cD (.str "; ")) (asData (lcD [2] (fun ρ => ((op2 pyAdd (cD (.int 1)) (callD 2 FD (consT (gv 0) (consT (cD (.int 7)) nilA)))) ρ).bind range1) (toSlot 2) yesT (E1)))))
theorem right_is : D__law_right = seqS (asgS 1 (lstD (consT (cD (.str "0 on")) (consT (cD (.str "4 away")) (consT (cD (.str "3 call")) (consT (cD (.str "1 call 0")) (consT (cD (.str "2 call 4 3 0")) (consT (cD (.str "0 call 0 1 2 3 4")) (consT (cD (.str "1 on")) (consT (cD (.str "2 on")) nilA)))))))))) (RIGHT27 F__law_draw E__law_right_1) := rfl
theorem right_ok : Tl (F__law_right [hdl 0]) 8 (TxD 140) := by
  refine Tl.rn (n := 3) (F := D__law_right) ?_
  have e0 : ini 3 [hdl 0] = [.dt (hdl 0), .un, .un] := rfl
  have q := right_gen (FD := F__law_draw) (FK := F__law_pick) (E1 := E__law_right_1) (P := .list (RT8.map PyData.str)) rfl fun UU hU => by
    have h := lc_draw (gg := toSlot 2) (e := E__law_right_1) (ρ := [.dt (hdl 0), .dt (.list (RT8.map PyData.str)), .un]) (m := 1) (P := TxD 17) (as := UU) fun d _ => ⟨_, rfl, by
      have p := pick_tx (W := RT8) (by decide) (by decide) rt8_ok
      generalize RT8.map PyData.str = RR at *
      simp [E__law_right_1]
      exact p⟩
    refine h.mono (by omega) ?_
    rintro ds ⟨hl, hd⟩
    obtain ⟨ts, rfl, o⟩ := txds hd
    rw [List.length_map] at hl
    exact ⟨ts, rfl, o, by omega⟩
  rw [e0, right_is]
  have ls : (lstD (consT (cD (.str "0 on")) (consT (cD (.str "4 away")) (consT (cD (.str "3 call")) (consT (cD (.str "1 call 0")) (consT (cD (.str "2 call 4 3 0")) (consT (cD (.str "0 call 0 1 2 3 4")) (consT (cD (.str "1 on")) (consT (cD (.str "2 on")) nilA))))))))) [.dt (hdl 0), .un, .un] = .ret (.list (RT8.map PyData.str)) := by
    simp [RT8]
  rw [q_asgS, ls, atT_ret]
  exact q
theorem gd_sub {n : Nat} {t p : Str} (h : Gd n t) (s : (cl p).Sublist (cl t)) : Gd n p := by
  refine ⟨?_, ?_⟩
  · have := s.length_le
    rw [len_cl, len_cl] at this
    have := h.1
    omega
  · rw [strOk_iff]
    intro c hc
    exact strOk_iff.mp h.2 c (s.subset hc)
theorem gd_cut {n : Nat} {t : Str} (h : Gd n t) (lo hi : Option Int) : Gd n (cutS t lo hi) := gd_sub h (by
  unfold cutS
  show (List.toArray _).toList.Sublist _
  rw [List.toList_toArray]
  exact (List.take_sublist _ _).trans (List.drop_sublist _ _))
theorem cut_d {n : Nat} {t : Str} (h : Gd n t) (hn : n ≤ 1000) (lo hi : Option Int) : pySlS (.str t) lo hi = .ret (.str (cutS t lo hi)) := ask_t (big (by have := h.1; omega))
def SG16 : List Str := ["0", "4", "5", " ", "  ", ";", "; ", "on", "call", "away", " 0", "x", "\n", "-", ",", " call 1 1"]
def SG17 : List Str := ["0", "4", "5", " ", "  ", ";", "; ", "on", "call", "away", " 0", "x", "\n", "-", ",", " call 1 1", "; 1 on"]
theorem sg_ok : ∀ x ∈ SG17, Gd 9 x := by
  have k : ∀ x ∈ SG17, x.length ≤ 9 ∧ PyData.strOk x = true := by decide +kernel
  exact fun x hx => ⟨(k x hx).1, (k x hx).2⟩
def BREST (FK : List D → T D) : Rho → T Out :=
    (seqS (asgS 2 (lstD (consT (cD (.str "0")) (consT (cD (.str "4")) (consT (cD (.str "5")) (consT (cD (.str " ")) (consT (cD (.str "  ")) (consT (cD (.str ";")) (consT (cD (.str "; ")) (consT (cD (.str "on")) (consT (cD (.str "call")) (consT (cD (.str "away")) (consT (cD (.str " 0")) (consT (cD (.str "x")) (consT (cD (.str "\n")) (consT (cD (.str "-")) (consT (cD (.str ",")) (consT (cD (.str " call 1 1")) nilA))))))))))))))))))
    (seqS (asgS 2 (op2 pyAdd (gv 2) (lstD (consT (cD (.str "; 1 on")) nilA))))
    (seqS (ifS (opT pyLt (gv 3) (cD (.int 4))) (retS (op2 pyAdd (op2 pyAdd (fun ρ => ((gv 1) ρ).bind fun x => (noP ρ).bind fun lo => ((fun ρ => ((gv 4) ρ).bind asInt) ρ).bind fun hi => pySlS x lo hi) (ifT (opT pyGt (gv 3) (cD (.int 0))) (callD 2 FK (consT (gv 0) (consT (gv 2) nilA))) (cD (.str "")))) (fun ρ => ((gv 1) ρ).bind fun x => ((fun ρ => ((op2 pyAdd (gv 4) (fun ρ => ((consT (op2 pyEq (op2 pyMod (gv 3) (cD (.int 2))) (cD (.int 0))) nilA) ρ).bind (only int1))) ρ).bind asInt) ρ).bind fun lo => (noP ρ).bind fun hi => pySlS x lo hi))) skipS)
    (seqS (ifS (opT pyEq (gv 3) (cD (.int 4))) (retS (op2 pyAdd (callD 2 FK (consT (gv 0) (consT (lstD (consT (cD (.str " ")) (consT (cD (.str "; ")) (consT (cD (.str "5 on; ")) nilA)))) nilA))) (gv 1))) skipS)
    (retS (op2 pyAdd (gv 1) (callD 2 FK (consT (gv 0) (consT (lstD (consT (cD (.str "; ")) (consT (cD (.str " ")) (consT (cD (.str ";")) (consT (cD (.str " 0")) (consT (cD (.str "; 0")) nilA)))))) nilA)))))))))
theorem bent_is : D__law_bent = seqS (parS 3 4 (consT (callD 2 F__law_draw (consT (gv 0) (consT (cD (.int 6)) nilA))) (consT (callD 2 F__law_draw (consT (gv 0) (consT (op2 pyAdd (fun ρ => ((consT (gv 1) nilA) ρ).bind (only len1)) (cD (.int 1))) nilA))) nilA))) (BREST F__law_pick) := rfl
theorem brest_ok {FK : List D → T D} {n : Nat} {t : Str} {r p : Int} (g : Gd n t) (hn : n ≤ 400) (r0 : 0 ≤ r) (r1 : r < 6)
    (pL : ∀ W : List Str, 0 < W.length → W.length < 1000 → (∀ x ∈ W, Gd 9 x) → Tl (FK [hdl 0, .list (W.map PyData.str)]) 1 (TxD 9)) :
    Tl (BREST FK [.dt (hdl 0), .dt (.str t), .un, .dt (.int r), .dt (.int p)]) 1 fun o => ∃ d, o = .rt d ∧ TxD (2 * n + 10) d := by
  have cu := cut_d g (by omega)
  have gc := gd_cut g
  have p1 := pL SG17 (by decide) (by decide) sg_ok
  have p2 := pL [" ", "; ", "5 on; "] (by decide) (by decide) (by
    have k : ∀ x ∈ ([" ", "; ", "5 on; "] : List Str), x.length ≤ 9 ∧ PyData.strOk x = true := by decide +kernel
    exact fun x hx => ⟨(k x hx).1, (k x hx).2⟩)
  have p3 := pL ["; ", " ", ";", " 0", "; 0"] (by decide) (by decide) (by
    have k : ∀ x ∈ (["; ", " ", ";", " 0", "; 0"] : List Str), x.length ≤ 9 ∧ PyData.strOk x = true := by decide +kernel
    exact fun x hx => ⟨(k x hx).1, (k x hx).2⟩)
  have la : ∀ xs ys : List D, xs.length + ys.length ≤ 1000 → pyAdd (.list xs) (.list ys) = .ret (.list (xs ++ ys)) := fun xs ys h => ask_t (size15 h)
  have ge : Gd 0 ("" : Str) := ⟨by decide +kernel, by decide +kernel⟩
  have sa : ∀ x y : Str, x.length ≤ 2000 → y.length ≤ 2000 → pyAdd (.str x) (.str y) = .ret (.str (x ++ y)) := fun x y hx hy => add_s (by omega)
  have l2 := la (SG16.map PyData.str) [.str "; 1 on"] (by decide)
  have ll : SG16.map PyData.str ++ [.str "; 1 on"] = SG17.map PyData.str := rfl
  rw [ll] at l2
  have cl1 : ∀ lo hi, (cutS t lo hi).length ≤ 2000 := fun lo hi => by have := (gc lo hi).1; omega
  have h4 : ∀ k : Int, r = k → (r % 2 == 0) = (k % 2 == 0) := fun k z => by rw [z]
  have ls : (lstD (consT (cD (.str "0")) (consT (cD (.str "4")) (consT (cD (.str "5")) (consT (cD (.str " ")) (consT (cD (.str "  ")) (consT (cD (.str ";")) (consT (cD (.str "; ")) (consT (cD (.str "on")) (consT (cD (.str "call")) (consT (cD (.str "away")) (consT (cD (.str " 0")) (consT (cD (.str "x")) (consT (cD (.str "\n")) (consT (cD (.str "-")) (consT (cD (.str ",")) (consT (cD (.str " call 1 1")) nilA))))))))))))))))) [.dt (hdl 0), .dt (.str t), .un, .dt (.int r), .dt (.int p)] = .ret (.list (SG16.map PyData.str)) := by simp [SG16]
  have eL3 : PyData.list [.str " ", .str "; ", .str "5 on; "] = .list ((([" ", "; ", "5 on; "] : List Str)).map PyData.str) := rfl
  have eL5 : PyData.list [.str "; ", .str " ", .str ";", .str " 0", .str "; 0"] = .list (((["; ", " ", ";", " 0", "; 0"] : List Str)).map PyData.str) := rfl
  have ib1 : int1 (.bool true) = .ret (.int 1) := rfl
  have mid : ∀ {S : List D} {ρ : Rho}, Tl (FK [hdl 0, .list S]) 1 (TxD 9) → ∀ (kb : Bool) (b : Int), int1 (.bool kb) = .ret (.int b) → True = True → Tl (Y.atT ((FK [hdl 0, .list S]).bind fun a => (pyAdd (.str (cutS t none (some p))) a).bind fun x => (int1 (.bool kb)).bind fun a => (pyAdd (.int p) a).bind fun a => (match a with | PyData.int i => T.ret (some i) | x => T.bad).bind fun a => pyAdd x (.str (cutS t a none))) (fun d => T.ret (Out.rt d)) ρ) 1 fun o => ∃ d, o = .rt d ∧ TxD (2 * n + 10) d := by
    intro S ρ pp kb b hb _
    refine Tl.atB pp (Nat.le_refl _) ?_
    rintro _ ⟨x, rfl, gx⟩
    have e1 := sa (cutS t none (some p)) x (cl1 _ _) (by have := gx.1; omega)
    have ga := (gc none (some p)).app gx
    have e2 := sa (cutS t none (some p) ++ x) (cutS t (some (p + b)) none) (by have := ga.1; omega) (cl1 _ _)
    have gb := ga.app (gc (some (p + b)) none)
    generalize cutS t none (some p) ++ x = AA at *
    generalize cutS t none (some p) = CA at *
    have ad : pyAdd (.int p) (.int b) = .ret (.int (p + b)) := rfl
    rw [e1, T.ret_bind, hb, T.ret_bind, ad, T.ret_bind]
    show Tl (Y.atT ((T.ret (some (p + b))).bind fun a => pyAdd (.str AA) (.str (cutS t a none))) (fun d => T.ret (Out.rt d)) ρ) (1 - 1) _
    rw [T.ret_bind, e2, atT_ret]
    exact .ret ⟨_, rfl, _, rfl, gb.mono (by omega)⟩
  unfold BREST
  rw [q_asgS, ls, atT_ret]
  show Tl (seqS _ _ [.dt (hdl 0), .dt (.str t), .dt (.list (SG16.map PyData.str)), .dt (.int r), .dt (.int p)]) 1 _
  generalize SG17.map PyData.str = S17 at *
  generalize SG16.map PyData.str = S16 at *
  rcases (show r = 0 ∨ r = 1 ∨ r = 2 ∨ r = 3 ∨ r = 4 ∨ r = 5 by omega) with rfl | rfl | rfl | rfl | rfl | rfl
  all_goals simp [l2, cu, noP, asInt]
  · have e1 := sa (cutS t none (some p)) "" (cl1 _ _) (by decide +kernel)
    have ga := (gc none (some p)).app ge
    have e2 := sa (cutS t none (some p) ++ "") (cutS t (some (p + 1)) none) (by have := ga.1; omega) (cl1 _ _)
    have gb := ga.app (gc (some (p + 1)) none)
    generalize cutS t none (some p) ++ "" = AA at *
    generalize cutS t none (some p) = CA at *
    simp [e1, ib1]
    rw [e2, atT_ret]
    exact .ret ⟨_, rfl, _, rfl, gb.mono (by omega)⟩
  · exact mid p1 false 0 rfl rfl
  · exact mid p1 true 1 rfl rfl
  · exact mid p1 false 0 rfl rfl
  · rw [eL3]
    refine Tl.atB p2 (Nat.le_refl _) ?_
    rintro _ ⟨x, rfl, gx⟩
    have e1 := sa x t (by have := gx.1; omega) (by have := g.1; omega)
    rw [e1, atT_ret]
    exact .ret ⟨_, rfl, _, rfl, (gx.app g).mono (by omega)⟩
  · rw [eL5]
    refine Tl.atB p3 (Nat.le_refl _) ?_
    rintro _ ⟨x, rfl, gx⟩
    have e1 := sa t x (by have := g.1; omega) (by have := gx.1; omega)
    rw [e1, atT_ret]
    exact .ret ⟨_, rfl, _, rfl, (g.app gx).mono (by omega)⟩
theorem bent_ok {n : Nat} {t : Str} (g : Gd n t) (hn : n ≤ 400) : Tl (F__law_bent [hdl 0, .str t]) 3 (TxD (2 * n + 10)) := by
  refine Tl.rn (n := 5) (F := D__law_bent) ?_
  have e0 : ini 5 [hdl 0, .str t] = [.dt (hdl 0), .dt (.str t), .un, .un, .un] := rfl
  rw [e0, bent_is]
  have ln : len1 (.str t) = .ret (.int (t.length : Int)) := ask_t (big (by have := g.1; omega))
  have hl := g.1
  have q := fun (r p : Int) r0 r1 => brest_ok (FK := F__law_pick) (r := r) (p := p) g hn r0 r1 fun W h0 h1 h => pick_tx h0 h1 h
  have hD : F__law_draw = drawF := rfl
  rw [hD]
  generalize BREST F__law_pick = BB at *
  simp [drawF, ln]
  refine Tl.dr (by decide) (by decide) (by decide) fun r r0 r1 => ?_
  refine Tl.dr (by omega) (by omega) (by decide) fun p p0 p1 => ?_
  simp
  exact q r p r0 r1
end Zk27
namespace Zk27
open PySem PySem.Spec PyProof.Rows L2 Y
/-! ### any text read as a run: the turns, the odd ones -/
theorem in1_ok {v : D} (h : SameV v) {c0 c1 c3 c4 c5 c6 : S} {tn nth : Int} : B_law_1 [c0, c1, .dt (.int tn), c3, c4, c5, c6, .dt (.int nth), .dt v] = .ret (.nx [c0, c1, .dt (.int tn), c3, c4, c5, c6, .dt (.int nth), .dt v]) := by
  obtain ⟨R, h1, h2, r⟩ := h
  have rR := r.repr (by decide) (by decide)
  have ne := ne_selfT r.gd.2
  have m5 : pyMod (.int tn) (.int 5) = .ret (.int (tn % 5)) := ask_t (by decide)
  unfold B_law_1
  generalize F__law_heard = FH at *
  generalize F__law_due = FU at *
  simp [h1, h2, rR, ne]
theorem in3_ok {v : D} (h : SameV v) {c0 c1 c2 c3 c5 c6 c7 c8 : S} : B_law_3 [c0, c1, c2, c3, .dt v, c5, c6, c7, c8] = .ret (.nx [c0, c1, c2, c3, .dt v, c5, c6, c7, c8]) := by
  obtain ⟨R, h1, h2, r⟩ := h
  have rR := r.repr (by decide) (by decide)
  have ne := ne_selfT r.gd.2
  unfold B_law_3
  generalize F__law_heard = FH at *
  generalize F__law_due = FU at *
  simp [h1, h2, rR, ne]
theorem in3_loop {c0 c1 c2 c3 c5 c6 c7 c8 : S} : ∀ (vs : List D) (c4 : S), (∀ v ∈ vs, SameV v) → ∃ c4', Y.forL (toSlot 4) B_law_3 vs [c0, c1, c2, c3, c4, c5, c6, c7, c8] = .ret (.nx [c0, c1, c2, c3, c4', c5, c6, c7, c8])
  | [], c4, _ => ⟨c4, rfl⟩
  | v :: vs, c4, h => by
    obtain ⟨x, r⟩ := in3_loop (c0 := c0) (c1 := c1) (c2 := c2) (c3 := c3) (c5 := c5) (c6 := c6) (c7 := c7) (c8 := c8) vs (.dt v) fun u hu => h u (List.mem_cons_of_mem _ hu)
    exact ⟨x, (forL_step (ρ1 := [c0, c1, c2, c3, .dt v, c5, c6, c7, c8]) rfl (in3_ok (h v List.mem_cons_self))).trans r⟩
def BODY27 (FR FB : List D → T D) (B1 : Rho → T Out) : Rho → T Out :=
    (seqS (asgS 6 (callD 1 FR (consT (gv 1) nilA)))
    (seqS (asgS 4 (ifT (opT pyEq (op2 pyMod (gv 2) (cD (.int 4))) (cD (.int 3))) (callD 2 FB (consT (gv 1) (consT (callD 2 FB (consT (gv 1) (consT (gv 6) nilA))) nilA))) (callD 2 FB (consT (gv 1) (consT (gv 6) nilA)))))
    (forD (fun ρ => ((lstD (consT (gv 4) (consT (gv 6) nilA))) ρ).bind enumT) (fun p => (toCons (toSlot 7) (toCons (toSlot 8) toNil)) [p.1, p.2]) (B1))))
theorem body27_is : B_law_2 = BODY27 F__law_right F__law_bent B_law_1 := rfl
def Lw27 (c0 : S) (o : Out) : Prop := ∃ c2 c3 c4 c5 c6 c7 c8, o = .nx [c0, .dt (hdl 0), c2, c3, c4, c5, c6, c7, c8]
theorem turn27_gen {FR FB : List D → T D} {B1 : Rho → T Out} {c0 c3 c4 c5 c6 c7 c8 : S} {tn : Int} (hR : Tl (FR [hdl 0]) 8 (TxD 140)) (hB : ∀ (n : Nat) (t : Str), Gd n t → n ≤ 400 → Tl (FB [hdl 0, .str t]) 3 (TxD (2 * n + 10)))
    (h1 : ∀ (v : D) (c4 c6 : S) (nth : Int), TxD 600 v → B1 [c0, .dt (hdl 0), .dt (.int tn), c3, c4, c5, c6, .dt (.int nth), .dt v] = .ret (.nx [c0, .dt (hdl 0), .dt (.int tn), c3, c4, c5, c6, .dt (.int nth), .dt v])) :
    Tl (BODY27 FR FB B1 [c0, .dt (hdl 0), .dt (.int tn), c3, c4, c5, c6, c7, c8]) 14 (Lw27 c0) := by
  have m4 : pyMod (.int tn) (.int 4) = .ret (.int (tn % 4)) := ask_t (by decide)
  have fin : ∀ v t : D, TxD 600 v → TxD 600 t → Tl (forD (fun ρ => ((lstD (consT (gv 4) (consT (gv 6) nilA))) ρ).bind enumT) (fun p => (toCons (toSlot 7) (toCons (toSlot 8) toNil)) [p.1, p.2]) (B1) [c0, .dt (hdl 0), .dt (.int tn), c3, .dt v, c5, .dt t, c7, c8]) 0 (Lw27 c0) := fun v t hv ht => by
    have et : enumT (.list [v, t]) = .ret [(.int 0, v), (.int 1, t)] := rfl
    have it : ((lstD (consT (gv 4) (consT (gv 6) nilA))) [c0, .dt (hdl 0), .dt (.int tn), c3, .dt v, c5, .dt t, c7, c8]).bind enumT = .ret [(.int 0, v), (.int 1, t)] := by simp [et]
    rw [forD_eq, it, atT_ret]
    have s1 := h1 v (.dt v) (.dt t) 0 hv
    have s2 := h1 t (.dt v) (.dt t) 1 ht
    rw [forL_step (ρ1 := [c0, .dt (hdl 0), .dt (.int tn), c3, .dt v, c5, .dt t, .dt (.int 0), .dt v]) rfl s1, forL_step (ρ1 := [c0, .dt (hdl 0), .dt (.int tn), c3, .dt v, c5, .dt t, .dt (.int 1), .dt t]) rfl s2]
    exact .ret ⟨_, _, _, _, _, _, _, rfl⟩
  unfold BODY27
  generalize forD (fun ρ => ((lstD (consT (gv 4) (consT (gv 6) nilA))) ρ).bind enumT) (fun p => (toCons (toSlot 7) (toCons (toSlot 8) toNil)) [p.1, p.2]) (B1) = FF at *
  simp
  refine Tl.at0 hR (by decide) ?_
  rintro _ ⟨t, rfl, g⟩
  have b1 := hB 140 t g (by decide)
  by_cases h4 : tn % 4 = 3
  · simp [m4, h4]
    refine Tl.atB b1 (show 3 ≤ 6 by decide) ?_
    rintro _ ⟨t2, rfl, g2⟩
    refine Tl.at0 (hB 290 t2 g2 (by decide)) (by decide) ?_
    rintro _ ⟨t3, rfl, g3⟩
    exact (fin _ _ ⟨t3, rfl, g3.mono (by decide)⟩ ⟨t, rfl, g.mono (by decide)⟩).mono (by decide) fun _ z => z
  · simp [m4, h4]
    refine Tl.at0 b1 (show 3 ≤ 6 by decide) ?_
    rintro _ ⟨t2, rfl, g2⟩
    exact (fin _ _ ⟨t2, rfl, g2.mono (by decide)⟩ ⟨t, rfl, g.mono (by decide)⟩).mono (by decide) fun _ z => z
theorem turn27 {c0 c3 c4 c5 c6 c7 c8 : S} {tn : Int} : Tl (B_law_2 [c0, .dt (hdl 0), .dt (.int tn), c3, c4, c5, c6, c7, c8]) 14 (Lw27 c0) := by
  rw [body27_is]
  refine turn27_gen right_ok (fun n t g hn => bent_ok g hn) fun v c4 c6 nth hv => ?_
  obtain ⟨t, rfl, g⟩ := hv
  exact in1_ok (same_T (gdG g (by decide)))
/-! the odd ones -/
def ODDS (KK : Rho → T Out) : Rho → T Out :=
    (seqS (asgS 3 (lstD (consT (cD (.none)) (consT (cD (.int 0)) (consT (cD (.bool true)) (consT (tupD nilA) (consT (lstD nilA) (consT (cD (.dict [])) (consT (tupD (consT (tupD (consT (cD (.int 0)) (consT (cD (.str "on")) nilA))) nilA)) (consT (lstD (consT (cD (.str "0 on")) nilA)) (consT (cD (.str "")) (consT (cD (.str " ")) (consT (cD (.str ";")) (consT (cD (.str "0 ON")) (consT (cD (.str "0  on")) (consT (cD (.str "00 on")) (consT (cD (.str "0 on;1 on")) nilA)))))))))))))))))
    (seqS (asgS 3 (op2 pyAdd (gv 3) (lstD (consT (cD (.str "on 0")) nilA))))
    (seqS (asgS 3 (op2 pyAdd (gv 3) (lstD (consT (cD (.str "0 call 00")) (consT (cD (.str "5 on")) (consT (cD (.str "0 call 5")) (consT (cD (.str "0 on ")) (consT (cD (.str "call")) (consT (cD (.str "0")) (consT (cD (.str "0 on; ; 1 on")) (consT (op2 pyMulS (cD (.str "9")) (cD (.int 3000))) (consT (op2 pyMulS (cD (.str "; ")) (cD (.int 3000))) nilA))))))))))))
    (seqS (asgS 3 (op2 pyAdd (gv 3) (lstD (consT (op2 pyAdd (op2 pyMulS (cD (.str "1")) (cD (.int 5000))) (cD (.str " on"))) (consT (op2 pyAdd (cD (.str "0 call ")) (op2 pyMulS (cD (.str "1")) (cD (.int 5000)))) (consT (op2 pyAdd (op2 pyAdd (cD (.str "0 on; ")) (op2 pyMulS (cD (.str "0")) (cD (.int 5000)))) (cD (.str " away"))) nilA))))))
    KK))))
def PICKS (FK : List D → T D) (B3 KK : Rho → T Out) : Rho → T Out := seqS (forD (fun ρ => ((lstD (consT (callD 2 FK (consT (gv 1) (consT (gv 3) nilA))) (consT (callD 2 FK (consT (gv 1) (consT (gv 3) nilA))) (consT (callD 2 FK (consT (gv 1) (consT (gv 3) nilA))) nilA)))) ρ).bind seqOf) (toSlot 4) B3) KK
def FIN27 (FK FD FH FU : List D → T D) : Rho → T Out :=
    (seqS (ifS (opT pyGt (callD 2 FD (consT (gv 1) (consT (cD (.int 6)) nilA))) (cD (.int 0))) (retS (cD (.bool true))) skipS)
    (seqS (asgS 5 (callD 2 FK (consT (gv 1) (consT (lstD (consT (cD (.int 399)) (consT (cD (.int 400)) (consT (cD (.int 401)) (consT (cD (.int 700)) nilA))))) nilA))))
    (seqS (asgS 6 (mOp isStr joinD (cD (.str "; ")) (op2 pyRep (lstD (consT (cD (.str "0 on")) (consT (callD 2 FK (consT (gv 1) (consT (lstD (consT (cD (.str "1 call 0")) (consT (cD (.str "2 away")) (consT (cD (.str "3 call")) nilA)))) nilA))) nilA))) (cD (.int 350)))))
    (seqS (asgS 6 (mOp isStr joinD (cD (.str "; ")) (op2 pyAdd (fun ρ => ((mOp isStr splitD (gv 6) (cD (.str "; "))) ρ).bind fun x => (noP ρ).bind fun lo => ((fun ρ => ((op2 pySub (gv 5) (cD (.int 1))) ρ).bind asInt) ρ).bind fun hi => pySl x lo hi) (lstD (consT (callD 2 FK (consT (gv 1) (consT (lstD (consT (cD (.str "0 on")) (consT (cD (.str "x")) (consT (cD (.str "")) nilA)))) nilA))) nilA)))))
    (retS (op2 pyEq (fun ρ => ((consT (callD 2 FH (consT (gv 6) (consT (cD (.bool false)) nilA))) nilA) ρ).bind (only repr1)) (fun ρ => ((consT (callD 1 FU (consT (gv 6) nilA)) nilA) ρ).bind (only repr1))))))))
theorem law27_is : D_law = seqS (forD (fun ρ => ((cD (.int 14)) ρ).bind range1) (toSlot 2) (B_law_2)) (ODDS (PICKS F__law_pick B_law_3 (FIN27 F__law_pick F__law_draw F__law_heard F__law_due))) := rfl
end Zk27
namespace Zk27
open PySem PySem.Spec PyProof.Rows L2 Y
/-! ### any text read as a run: the odd ones, the long one -/
theorem foldl_cps (a : Array Nat) : ∀ (n : Nat) (acc : Array Nat), (List.foldl (· ++ ·) acc (List.replicate n a)).toList = acc.toList ++ (List.replicate n a.toList).flatten
  | 0, acc => by simp
  | n + 1, acc => by
    rw [List.replicate_succ, List.foldl_cons, foldl_cps a n, List.replicate_succ, List.flatten_cons, Array.toList_append, List.append_assoc]
theorem cl_rep (n : Nat) (x : Str) : cl (repS n x) = (List.replicate n (cl x)).flatten := by
  show (List.foldl (· ++ ·) #[] (List.replicate n x.cps)).toList = _
  rw [foldl_cps]
  rfl
theorem flat_lenN {α : Type} (l : List α) : ∀ n : Nat, (List.replicate n l).flatten.length = n * l.length
  | 0 => by simp
  | n + 1 => by rw [List.replicate_succ, List.flatten_cons, List.length_append, flat_lenN l n, Nat.succ_mul, Nat.add_comm]
theorem flat_cntN (l : List Nat) : ∀ n : Nat, (List.replicate n l).flatten.count 32 = n * l.count 32
  | 0 => by simp
  | n + 1 => by rw [List.replicate_succ, List.flatten_cons, List.count_append, flat_cntN l n, Nat.succ_mul, Nat.add_comm]
theorem flat_memN {α : Type} {l : List α} {x : α} : ∀ {n : Nat}, x ∈ (List.replicate n l).flatten → x ∈ l
  | 0, h => by simp at h
  | n + 1, h => by
    rw [List.replicate_succ, List.flatten_cons] at h
    rcases List.mem_append.mp h with h | h
    · exact h
    · exact flat_memN h
structure TxP (L S : Nat) (t : Str) : Prop where
  ok : PyData.strOk t = true
  len : t.length ≤ L
  sp : spc t ≤ S
theorem TxP.G {L S : Nat} {t : Str} (h : TxP L S t) (hL : L ≤ 16000) (hS : S ≤ 3500) : TxtG t := ⟨h.ok, Nat.le_trans h.len hL, Nat.le_trans h.sp hS⟩
theorem TxP.app {L S M U : Nat} {x y : Str} (h : TxP L S x) (g : TxP M U y) : TxP (L + M) (S + U) (x ++ y) := ⟨strOk_app h.ok g.ok, by rw [Str.length_append]; have := h.len; have := g.len; omega, by rw [spc_app]; have := h.sp; have := g.sp; omega⟩
theorem gdP {n : Nat} {t : Str} (h : Gd n t) : TxP n n t := ⟨h.2, h.1, Nat.le_trans (spc_le t) h.1⟩
theorem repP {L S : Nat} {x : Str} (h : TxP L S x) (n : Nat) : TxP (n * L) (n * S) (repS n x) := by
  refine ⟨?_, ?_, ?_⟩
  · rw [strOk_iff]
    intro c hc
    have hc : c ∈ cl (repS n x) := hc
    rw [cl_rep] at hc
    exact strOk_iff.mp h.ok c (flat_memN hc)
  · rw [← len_cl, cl_rep, flat_lenN, len_cl]
    exact Nat.mul_le_mul_left _ h.len
  · unfold spc
    rw [cl_rep, flat_cntN]
    exact Nat.mul_le_mul_left _ h.sp
theorem mulS_ok {z : Str} (n : Nat) (h1 : 2 ≤ n) (h2 : n < 100000) (h3 : z.length ≠ 0) (h4 : z.length * n ≤ 100000) : pyMulS (.str z) (.int (n : Int)) = .ret (.str (repS n z)) := by
  show Y.ask _ _ = _
  rw [ask_t ⟨by omega, by omega, h3, by rw [Int.toNat_natCast]; exact h4⟩, Int.toNat_natCast]
theorem faV {a : D} {l : List D} (h : SameV a) (t : ∀ d ∈ l, SameV d) : ∀ d ∈ a :: l, SameV d := fun d hd => by
  rcases List.mem_cons.mp hd with rfl | hd
  · exact h
  · exact t d hd
theorem fnV : ∀ d ∈ ([] : List D), SameV d := fun _ h => nomatch h
theorem gdS {n : Nat} {t : Str} (h : Gd n t) (hn : n ≤ 3500) : SameV (.str t) := same_T (gdG h hn)
theorem strs_V {W : List Str} (h : ∀ x ∈ W, x.length ≤ 100 ∧ PyData.strOk x = true) : ∀ d ∈ W.map PyData.str, SameV d := fun d hd => by
  obtain ⟨x, hx, rfl⟩ := List.mem_map.mp hd
  exact gdS (n := 100) ⟨(h x hx).1, (h x hx).2⟩ (by decide)
theorem odds_gen {KK : Rho → T Out} {m : Nat} {P : Out → Prop} {T9 TS T1 T0 A1 A2 A3 A4 : Str} {c0 c2 c3 c4 c5 c6 c7 c8 : S}
    (m9 : pyMulS (.str "9") (.int 3000) = .ret (.str T9)) (ms : pyMulS (.str "; ") (.int 3000) = .ret (.str TS)) (m1 : pyMulS (.str "1") (.int 5000) = .ret (.str T1)) (m0 : pyMulS (.str "0") (.int 5000) = .ret (.str T0))
    (a1 : pyAdd (.str T1) (.str " on") = .ret (.str A1)) (a2 : pyAdd (.str "0 call ") (.str T1) = .ret (.str A2)) (a3 : pyAdd (.str "0 on; ") (.str T0) = .ret (.str A3)) (a4 : pyAdd (.str A3) (.str " away") = .ret (.str A4))
    (v9 : SameV (.str T9)) (vs : SameV (.str TS)) (v1 : SameV (.str A1)) (v2 : SameV (.str A2)) (v4 : SameV (.str A4))
    (hk : ∀ X : List D, (∀ v ∈ X, SameV v) → X.length = 28 → Tl (KK [c0, .dt (hdl 0), c2, .dt (.list X), c4, c5, c6, c7, c8]) m P) :
    Tl (ODDS KK [c0, .dt (hdl 0), c2, c3, c4, c5, c6, c7, c8]) m P := by
  have la : ∀ xs ys : List D, xs.length + ys.length ≤ 1000 → pyAdd (.list xs) (.list ys) = .ret (.list (xs ++ ys)) := fun xs ys h => ask_t (size15 h)
  have p1 : ∀ d ∈ [PyData.none, .int 0, .bool true, .tuple [], .list [], .dict [], .tuple [.tuple [.int 0, .str "on"]], .list [.str "0 on"], .str "", .str " ", .str ";", .str "0 ON", .str "0  on", .str "00 on", .str "0 on;1 on"], SameV d :=
    faV (same_N rfl) (faV (same_N rfl) (faV (same_N rfl) (faV (same_N rfl) (faV (same_N rfl) (faV (same_N rfl) (faV (same_N rfl) (faV (same_N rfl) (strs_V (W := ["", " ", ";", "0 ON", "0  on", "00 on", "0 on;1 on"]) (by decide +kernel)))))))))
  have p2 : ∀ d ∈ [PyData.str "on 0"], SameV d := strs_V (W := ["on 0"]) (by decide +kernel)
  have p3 : ∀ d ∈ [PyData.str "0 call 00", .str "5 on", .str "0 call 5", .str "0 on ", .str "call", .str "0", .str "0 on; ; 1 on"], SameV d := strs_V (W := ["0 call 00", "5 on", "0 call 5", "0 on ", "call", "0", "0 on; ; 1 on"]) (by decide +kernel)
  have p3' : ∀ d ∈ [PyData.str "0 call 00", .str "5 on", .str "0 call 5", .str "0 on ", .str "call", .str "0", .str "0 on; ; 1 on", .str T9, .str TS], SameV d := fun d hd => by
    have hd : d ∈ [PyData.str "0 call 00", .str "5 on", .str "0 call 5", .str "0 on ", .str "call", .str "0", .str "0 on; ; 1 on"] ++ [.str T9, .str TS] := hd
    rcases List.mem_append.mp hd with q | q
    · exact p3 d q
    · exact faV v9 (faV vs fnV) d q
  have p4 : ∀ d ∈ [PyData.str A1, .str A2, .str A4], SameV d := faV v1 (faV v2 (faV v4 fnV))
  have ap : ∀ l1 l2 : List D, (∀ d ∈ l1, SameV d) → (∀ d ∈ l2, SameV d) → ∀ d ∈ l1 ++ l2, SameV d := fun l1 l2 h1 h2 d hd => (List.mem_append.mp hd).elim (h1 d) (h2 d)
  have q4 := ap _ _ (ap _ _ (ap _ _ p1 p2) p3') p4
  clear p1 p2 p3 p3' p4
  obtain ⟨X1, e1⟩ : ∃ X, X = [PyData.none, .int 0, .bool true, .tuple [], .list [], .dict [], .tuple [.tuple [.int 0, .str "on"]], .list [.str "0 on"], .str "", .str " ", .str ";", .str "0 ON", .str "0  on", .str "00 on", .str "0 on;1 on"] := ⟨_, rfl⟩
  obtain ⟨X2, e2⟩ : ∃ X, X = [PyData.str "on 0"] := ⟨_, rfl⟩
  obtain ⟨X3, e3⟩ : ∃ X, X = [PyData.str "0 call 00", .str "5 on", .str "0 call 5", .str "0 on ", .str "call", .str "0", .str "0 on; ; 1 on", .str T9, .str TS] := ⟨_, rfl⟩
  obtain ⟨X4, e4⟩ : ∃ X, X = [PyData.str A1, .str A2, .str A4] := ⟨_, rfl⟩
  rw [← e1, ← e2, ← e3, ← e4] at q4
  have l1 : X1.length = 15 := by rw [e1]; rfl
  have l2 : X2.length = 1 := by rw [e2]; rfl
  have l3 : X3.length = 9 := by rw [e3]; rfl
  have l4 : X4.length = 3 := by rw [e4]; rfl
  have c2' := la X1 X2 (by omega)
  have c3' := la (X1 ++ X2) X3 (by simp only [List.length_append]; omega)
  have c4' := la (X1 ++ X2 ++ X3) X4 (by simp only [List.length_append]; omega)
  have z := hk _ q4 (by simp only [List.length_append]; omega)
  have k1 : (lstD (consT (cD (.none)) (consT (cD (.int 0)) (consT (cD (.bool true)) (consT (tupD nilA) (consT (lstD nilA) (consT (cD (.dict [])) (consT (tupD (consT (tupD (consT (cD (.int 0)) (consT (cD (.str "on")) nilA))) nilA)) (consT (lstD (consT (cD (.str "0 on")) nilA)) (consT (cD (.str "")) (consT (cD (.str " ")) (consT (cD (.str ";")) (consT (cD (.str "0 ON")) (consT (cD (.str "0  on")) (consT (cD (.str "00 on")) (consT (cD (.str "0 on;1 on")) nilA)))))))))))))))) [c0, .dt (hdl 0), c2, c3, c4, c5, c6, c7, c8] = .ret (.list X1) := by
    rw [e1]; simp
  have k2 : ∀ A, (lstD (consT (cD (.str "on 0")) nilA)) [c0, .dt (hdl 0), c2, A, c4, c5, c6, c7, c8] = .ret (.list X2) := fun A => by
    rw [e2]; simp
  have k3 : ∀ A, (lstD (consT (cD (.str "0 call 00")) (consT (cD (.str "5 on")) (consT (cD (.str "0 call 5")) (consT (cD (.str "0 on ")) (consT (cD (.str "call")) (consT (cD (.str "0")) (consT (cD (.str "0 on; ; 1 on")) (consT (op2 pyMulS (cD (.str "9")) (cD (.int 3000))) (consT (op2 pyMulS (cD (.str "; ")) (cD (.int 3000))) nilA)))))))))) [c0, .dt (hdl 0), c2, A, c4, c5, c6, c7, c8] = .ret (.list X3) := fun A => by
    rw [e3]; simp [m9, ms]
  have k4 : ∀ A, (lstD (consT (op2 pyAdd (op2 pyMulS (cD (.str "1")) (cD (.int 5000))) (cD (.str " on"))) (consT (op2 pyAdd (cD (.str "0 call ")) (op2 pyMulS (cD (.str "1")) (cD (.int 5000)))) (consT (op2 pyAdd (op2 pyAdd (cD (.str "0 on; ")) (op2 pyMulS (cD (.str "0")) (cD (.int 5000)))) (cD (.str " away"))) nilA)))) [c0, .dt (hdl 0), c2, A, c4, c5, c6, c7, c8] = .ret (.list X4) := fun A => by
    rw [e4]; simp [m1, m0, a1, a2, a3, a4]
  have s2 : ∀ A : D, (op2 pyAdd (gv 3) (lstD (consT (cD (.str "on 0")) nilA))) [c0, .dt (hdl 0), c2, .dt A, c4, c5, c6, c7, c8] = pyAdd A (.list X2) := fun A => by
    show ((gv 3) _).bind _ = _
    have g3 : (gv 3) [c0, .dt (hdl 0), c2, .dt A, c4, c5, c6, c7, c8] = .ret A := rfl
    rw [g3, T.ret_bind, k2, T.ret_bind]
  have s3 : ∀ A : D, (op2 pyAdd (gv 3) (lstD (consT (cD (.str "0 call 00")) (consT (cD (.str "5 on")) (consT (cD (.str "0 call 5")) (consT (cD (.str "0 on ")) (consT (cD (.str "call")) (consT (cD (.str "0")) (consT (cD (.str "0 on; ; 1 on")) (consT (op2 pyMulS (cD (.str "9")) (cD (.int 3000))) (consT (op2 pyMulS (cD (.str "; ")) (cD (.int 3000))) nilA))))))))))) [c0, .dt (hdl 0), c2, .dt A, c4, c5, c6, c7, c8] = pyAdd A (.list X3) := fun A => by
    show ((gv 3) _).bind _ = _
    have g3 : (gv 3) [c0, .dt (hdl 0), c2, .dt A, c4, c5, c6, c7, c8] = .ret A := rfl
    rw [g3, T.ret_bind, k3, T.ret_bind]
  have s4 : ∀ A : D, (op2 pyAdd (gv 3) (lstD (consT (op2 pyAdd (op2 pyMulS (cD (.str "1")) (cD (.int 5000))) (cD (.str " on"))) (consT (op2 pyAdd (cD (.str "0 call ")) (op2 pyMulS (cD (.str "1")) (cD (.int 5000)))) (consT (op2 pyAdd (op2 pyAdd (cD (.str "0 on; ")) (op2 pyMulS (cD (.str "0")) (cD (.int 5000)))) (cD (.str " away"))) nilA))))) [c0, .dt (hdl 0), c2, .dt A, c4, c5, c6, c7, c8] = pyAdd A (.list X4) := fun A => by
    show ((gv 3) _).bind _ = _
    have g3 : (gv 3) [c0, .dt (hdl 0), c2, .dt A, c4, c5, c6, c7, c8] = .ret A := rfl
    rw [g3, T.ret_bind, k4, T.ret_bind]
  unfold ODDS
  rw [q_asgS, k1, atT_ret]
  show Tl (seqS _ _ [c0, .dt (hdl 0), c2, .dt (.list X1), c4, c5, c6, c7, c8]) m P
  rw [q_asgS, s2, c2', atT_ret]
  show Tl (seqS _ _ [c0, .dt (hdl 0), c2, .dt (.list (X1 ++ X2)), c4, c5, c6, c7, c8]) m P
  rw [q_asgS, s3, c3', atT_ret]
  show Tl (seqS _ _ [c0, .dt (hdl 0), c2, .dt (.list (X1 ++ X2 ++ X3)), c4, c5, c6, c7, c8]) m P
  rw [q_asgS, s4, c4', atT_ret]
  exact z
theorem odds_ok {KK : Rho → T Out} {m : Nat} {P : Out → Prop} {c0 c2 c3 c4 c5 c6 c7 c8 : S}
    (hk : ∀ X : List D, (∀ v ∈ X, SameV v) → X.length = 28 → Tl (KK [c0, .dt (hdl 0), c2, .dt (.list X), c4, c5, c6, c7, c8]) m P) :
    Tl (ODDS KK [c0, .dt (hdl 0), c2, c3, c4, c5, c6, c7, c8]) m P := by
  have one : ∀ x ∈ (["9", "1", "0"] : List Str), TxP 1 0 x := by
    have k : ∀ x ∈ (["9", "1", "0"] : List Str), PyData.strOk x = true ∧ x.length ≤ 1 ∧ spc x ≤ 0 := by decide +kernel
    exact fun x hx => ⟨(k x hx).1, (k x hx).2.1, (k x hx).2.2⟩
  have semi : TxP 2 1 ("; " : Str) := ⟨by decide +kernel, by decide +kernel, by decide +kernel⟩
  have t9 := one "9" (by decide +kernel)
  have t1 := one "1" (by decide +kernel)
  have t0 := one "0" (by decide +kernel)
  have hon : TxP 3 1 (" on" : Str) := ⟨by decide +kernel, by decide +kernel, by decide +kernel⟩
  have hcall : TxP 7 2 ("0 call " : Str) := ⟨by decide +kernel, by decide +kernel, by decide +kernel⟩
  have hsem : TxP 6 2 ("0 on; " : Str) := ⟨by decide +kernel, by decide +kernel, by decide +kernel⟩
  have haw : TxP 5 1 (" away" : Str) := ⟨by decide +kernel, by decide +kernel, by decide +kernel⟩
  have m9 := mulS_ok (z := "9") 3000 (by decide) (by decide) (by decide +kernel) (by decide +kernel)
  have ms := mulS_ok (z := "; ") 3000 (by decide) (by decide) (by decide +kernel) (by decide +kernel)
  have m1 := mulS_ok (z := "1") 5000 (by decide) (by decide) (by decide +kernel) (by decide +kernel)
  have m0 := mulS_ok (z := "0") 5000 (by decide) (by decide) (by decide +kernel) (by decide +kernel)
  have r9 := repP t9 3000
  have rs := repP semi 3000
  have r1 := repP t1 5000
  have r0 := repP t0 5000
  generalize repS 3000 "9" = T9 at *
  generalize repS 3000 "; " = TS at *
  generalize repS 5000 "1" = T1 at *
  generalize repS 5000 "0" = T0 at *
  have sa : ∀ x y : Str, x.length ≤ 10000 → y.length ≤ 10000 → pyAdd (.str x) (.str y) = .ret (.str (x ++ y)) := fun x y hx hy => ask_t (big (by omega))
  have a1 := sa T1 " on" (by have := r1.len; omega) (by decide +kernel)
  have a2 := sa "0 call " T1 (by decide +kernel) (by have := r1.len; omega)
  have a3 := sa "0 on; " T0 (by decide +kernel) (by have := r0.len; omega)
  have p3 := hsem.app r0
  have a4 := sa ("0 on; " ++ T0) " away" (by have := p3.len; omega) (by decide +kernel)
  exact odds_gen m9 ms m1 m0 a1 a2 a3 a4 (same_T (r9.G (by decide) (by decide))) (same_T (rs.G (by decide) (by decide))) (same_T ((r1.app hon).G (by decide) (by decide))) (same_T ((hcall.app r1).G (by decide) (by decide))) (same_T ((p3.app haw).G (by decide) (by decide))) hk
end Zk27
namespace Zk27
open PySem PySem.Spec PyProof.Rows L2 Y
/-! ### any text read as a run: the last text, the law -/
theorem picks_gen {FK : List D → T D} {B3 KK : Rho → T Out} {X : List D} {m : Nat} {P : Out → Prop} {c0 c2 c4 c5 c6 c7 c8 : S} (pL : Tl (FK [hdl 0, .list X]) 1 SameV)
    (hF : ∀ (vs : List D) (c4 : S), (∀ v ∈ vs, SameV v) → ∃ c4', Y.forL (toSlot 4) B3 vs [c0, .dt (hdl 0), c2, .dt (.list X), c4, c5, c6, c7, c8] = .ret (.nx [c0, .dt (hdl 0), c2, .dt (.list X), c4', c5, c6, c7, c8]))
    (hk : ∀ c4, Tl (KK [c0, .dt (hdl 0), c2, .dt (.list X), c4, c5, c6, c7, c8]) m P) :
    Tl (PICKS FK B3 KK [c0, .dt (hdl 0), c2, .dt (.list X), c4, c5, c6, c7, c8]) (3 + m) P := by
  unfold PICKS
  simp
  refine Tl.atB pL (by omega) fun a ha => ?_
  refine Tl.atB pL (by omega) fun b hb => ?_
  refine Tl.atB pL (by omega) fun c hc => ?_
  obtain ⟨c4', q⟩ := hF [a, b, c] c4 (faV ha (faV hb (faV hc fnV)))
  simp [q]
  exact (hk c4').mono (by omega) fun _ z => z
structure TxQ (x : Str) : Prop where
  g : Gd 8 x
  s : spc x ≤ 2
  n : (59 : Nat) ∉ x.cps.toList
def TxQD (d : D) : Prop := ∃ x, d = .str x ∧ TxQ x
theorem txq_all {W : List Str} (h : ∀ x ∈ W, x.length ≤ 8 ∧ PyData.strOk x = true ∧ spc x ≤ 2 ∧ (59 : Nat) ∉ x.cps.toList) : ∀ x ∈ W, TxQ x := fun x hx => ⟨⟨(h x hx).1, (h x hx).2.1⟩, (h x hx).2.2.1, (h x hx).2.2.2⟩
theorem spc_join : ∀ {ts : List Str}, (∀ t ∈ ts, spc t ≤ 2) → spc (Str.join "; " ts) ≤ ts.length * 3
  | [], _ => by
    have e : Str.join "; " [] = Str.empty := rfl
    rw [e]; decide +kernel
  | [x], h => by
    have := h x List.mem_cons_self
    show spc x ≤ _
    simp; omega
  | x :: y :: r, h => by
    have ih := spc_join (ts := y :: r) fun t ht => h t (List.mem_cons_of_mem _ ht)
    have hx := h x List.mem_cons_self
    have e : Str.join "; " (x :: y :: r) = x ++ "; " ++ Str.join "; " (y :: r) := rfl
    have e2 : spc ("; " : Str) = 1 := by decide +kernel
    rw [e, spc_app, spc_app, e2]
    simp only [List.length_cons] at ih ⊢
    omega
theorem join_same {ts : List Str} (h : ∀ t ∈ ts, TxQ t) (hl : ts.length ≤ 701) : joinD (.str "; ") (.list (ts.map PyData.str)) = .ret (.str (Txt.join "; " ts)) ∧ TxtG (Txt.join "; " ts) := by
  obtain ⟨j1, j2⟩ := join_g (n := 8) (ts := ts) (fun t ht => (h t ht).g) (by
    have : ts.length * 10 ≤ 701 * 10 := Nat.mul_le_mul_right _ hl
    omega)
  refine ⟨j1, j2.2, by have := j2.1; have : ts.length * 10 ≤ 701 * 10 := Nat.mul_le_mul_right _ hl; omega, ?_⟩
  have e : Txt.join "; " ts = Str.join "; " ts := TL.join_eq _ _
  rw [e]
  have := spc_join fun t ht => (h t ht).s
  have : ts.length * 3 ≤ 701 * 3 := Nat.mul_le_mul_right _ hl
  omega
theorem rep_pairs {x : Str} (hx : TxQ x) (h0 : TxQ "0 on") : ∃ ps : List Str, pyRep (.list [.str "0 on", .str x]) (.int 350) = .ret (.list (ps.map PyData.str)) ∧ (∀ p ∈ ps, TxQ p) ∧ ps.length = 700 ∧ ps ≠ [] := by
  obtain ⟨N, hN⟩ : ∃ N : Nat, N = 350 := ⟨_, rfl⟩
  have hl : (List.replicate N ([("0 on" : Str), x])).flatten.length = N * 2 := flat_lenN _ N
  refine ⟨(List.replicate N ([("0 on" : Str), x])).flatten, ?_, fun p hp => ?_, by omega, fun z => ?_⟩
  · have q : pyRep (.list [.str "0 on", .str x]) (.int (N : Int)) = .ret (.list (List.replicate ((N : Int)).toNat [PyData.str "0 on", .str x]).flatten) := ask_t ⟨by omega, by omega, by simp⟩
    have e : ((350 : Int)) = ((N : Nat) : Int) := by rw [hN]; rfl
    rw [e, q, Int.toNat_natCast]
    congr 2
    have : ∀ n : Nat, (List.replicate n [PyData.str "0 on", .str x]).flatten = ((List.replicate n [("0 on" : Str), x]).flatten).map PyData.str := by
      intro n
      induction n with
      | zero => rfl
      | succ n ih => rw [List.replicate_succ, List.replicate_succ, List.flatten_cons, List.flatten_cons, List.map_append, ih]; rfl
    exact this N
  · have := flat_memN hp
    simp only [List.mem_cons, List.not_mem_nil, or_false] at this
    rcases this with rfl | rfl
    · exact h0
    · exact hx
  · rw [z] at hl
    simp at hl
    omega
def SameF (FH FU : List D → T D) (v : D) : Prop := ∃ R : D, FH [v, .bool false] = .ret R ∧ FU [v] = .ret R ∧ Rp 700000 4 R
theorem fin27_gen {FK FD FH FU : List D → T D} (hD : FD = drawF) (p1 : Tl (FK [hdl 0, .list [.int 399, .int 400, .int 401, .int 700]]) 1 fun d => ∃ k : Nat, d = .int ((k + 1 : Nat) : Int) ∧ k ≤ 700) (p2 : Tl (FK [hdl 0, .list [.str "1 call 0", .str "2 away", .str "3 call"]]) 1 TxQD) (p3 : Tl (FK [hdl 0, .list [.str "0 on", .str "x", .str ""]]) 1 TxQD)
    (rp : ∀ x, TxQ x → ∃ ps : List Str, pyRep (.list [.str "0 on", .str x]) (.int 350) = .ret (.list (ps.map PyData.str)) ∧ (∀ p ∈ ps, TxQ p) ∧ ps.length = 700 ∧ ps ≠ []) (sm : ∀ t, TxtG t → SameF FH FU (.str t)) {c0 c2 c3 c4 c5 c6 c7 c8 : S} :
    Tl (FIN27 FK FD FH FU [c0, .dt (hdl 0), c2, c3, c4, c5, c6, c7, c8]) 4 fun o => o = .rt (.bool true) := by
  subst hD
  unfold FIN27
  simp [drawF]
  refine Tl.dr (by decide) (by decide) (by decide) fun r r0 r1 => ?_
  by_cases h0 : 0 < r
  · simp [h0]
    exact .ret rfl
  · simp [h0]
    refine Tl.at0 p1 (by decide) ?_
    rintro _ ⟨k, rfl, hk⟩
    simp [mOp]
    refine Tl.atB p2 (show 1 ≤ 2 by decide) ?_
    rintro _ ⟨x, rfl, hx⟩
    obtain ⟨ps, q1, q2, q3, q4⟩ := rp x hx
    obtain ⟨j1, g1⟩ := join_same q2 (by omega)
    have sp := split_dT (x := Txt.join "; " ps) (y := "; ") g1.len (by decide +kernel)
    have es : Txt.split (Txt.join "; " ps) "; " = ps := TL.split_join (s := 59) (S := [32]) (by decide +kernel) (by decide +kernel) q4 fun p hp => (q2 p hp).n
    rw [es] at sp
    rw [q1, T.ret_bind, j1, atT_ret]
    generalize Txt.join "; " ps = S1 at *
    have i1 : isStr (.str S1) = true := rfl
    have sl : pySl (.list (ps.map PyData.str)) none (some (k : Int)) = .ret (.list ((ps.take k).map PyData.str)) := by
      have q := sl_hdL (ds := ps.map PyData.str) (i := k)
      rw [← List.map_take] at q
      exact q
    have sb : pySub (.int ((k : Int) + 1)) (.int 1) = .ret (.int (k : Int)) := by
      show T.ret (PyData.int ((k : Int) + 1 - 1)) = _
      rw [Int.add_sub_cancel]
    simp [sp, i1, sb, asInt, sl]
    refine Tl.atB p3 (show 1 ≤ 1 by decide) ?_
    rintro _ ⟨y, rfl, hy⟩
    have ad : pyAdd (.list ((ps.take k).map PyData.str)) (.list [.str y]) = .ret (.list ((ps.take k ++ [y]).map PyData.str)) := by
      have q : pyAdd (.list ((ps.take k).map PyData.str)) (.list [.str y]) = .ret (.list ((ps.take k).map PyData.str ++ [.str y])) := ask_t (big (by simp; omega))
      rw [q, List.map_append]; rfl
    obtain ⟨j2, g2⟩ := join_same (ts := ps.take k ++ [y]) (fun t ht => by
      rcases List.mem_append.mp ht with q | q
      · exact q2 t (List.mem_of_mem_take q)
      · rw [List.mem_singleton.mp q]; exact hy) (by simp; omega)
    obtain ⟨R, f1, f2, rr⟩ := sm _ g2
    have rR := rr.repr (by decide) (by decide)
    have eq := eq_s rr.gd.2 rr.gd.2
    rw [beq_self_eq_true] at eq
    rw [List.map_take] at ad
    rw [ad, T.ret_bind, j2, atT_ret]
    generalize Txt.join "; " (ps.take k ++ [y]) = S2 at *
    simp [f1, f2, rR, eq]
    exact .ret rfl
theorem drg27 {k : Nat} (h : k ≤ 100) : range1 (.int (k : Int)) = .ret (upto 0 k) := range1_ok (by omega) (by omega)
theorem law27_gen {BB KK : Rho → T Out} {UU : List D} (rg : range1 (.int 14) = .ret UU) (hU : UU = upto 0 14) (l2 : ∀ (tn : Int) (c0 c3 c4 c5 c6 c7 c8 : S), Tl (BB [c0, .dt (hdl 0), .dt (.int tn), c3, c4, c5, c6, c7, c8]) 14 (Lw27 c0))
    (lf : ∀ (c0 c2 c3 c4 c5 c6 c7 c8 : S), Tl (KK [c0, .dt (hdl 0), c2, c3, c4, c5, c6, c7, c8]) 7 fun o => o = .rt (.bool true)) {c0 : S} :
    Tl ((seqS (forD (fun ρ => ((cD (.int 14)) ρ).bind range1) (toSlot 2) BB) KK) [c0, .dt (hdl 0), .un, .un, .un, .un, .un, .un, .un]) 250 fun o => o = .rt (.bool true) := by
  have it : ∀ ρ : Rho, ((cD (.int 14)) ρ).bind range1 = .ret UU := fun ρ => by
    have e : (cD (.int 14)) ρ = .ret (.int 14) := rfl
    rw [e, T.ret_bind, rg]
  generalize hit : (fun ρ : Rho => ((cD (.int 14)) ρ).bind range1) = it' at *
  have it2 : ∀ ρ, it' ρ = .ret UU := fun ρ => by rw [← hit]; exact it ρ
  clear hit it rg
  subst hU
  obtain ⟨N, hN⟩ : ∃ N, N = 250 := ⟨_, rfl⟩
  obtain ⟨M, hM⟩ : ∃ M, M = 14 := ⟨_, rfl⟩
  rw [← hM] at l2
  rw [← hN]
  rw [q_for, it2, atT_ret]
  refine Tl.loop (m0 := M) (fun n ρ => ∃ c2 c3 c4 c5 c6 c7 c8, ρ = [c0, .dt (hdl 0), c2, c3, c4, c5, c6, c7, c8]) 14 (by rw [upto_len]; decide) (by omega) ⟨_, _, _, _, _, _, _, rfl⟩ ?_ ?_
  · rintro x c ρ hx ⟨c2, c3, c4, c5, c6, c7, c8, rfl⟩
    obtain ⟨x3, rfl⟩ := upto_at hx
    refine ⟨_, rfl, (l2 _ c0 c3 c4 c5 c6 c7 c8).imp ?_⟩
    rintro _ ⟨d2, d3, d4, d5, d6, d7, d8, rfl⟩
    exact ⟨_, rfl, _, _, _, _, _, _, _, rfl⟩
  · rintro ρ' ⟨c2, c3, c4, c5, c6, c7, c8, rfl⟩
    exact (lf c0 c2 c3 c4 c5 c6 c7 c8).mono (by omega) fun _ z => z
theorem law_math : LawMath := by
  have e0 : rho0 9 = [.un, .dt (hdl 0), .un, .un, .un, .un, .un, .un, .un] := rfl
  have h : Tl (D_law (rho0 9)) 250 fun o => o = .rt (.bool true) := by
    rw [e0, law27_is]
    refine law27_gen (BB := B_law_2) (drg27 (k := 14) (by decide)) rfl (fun tn c0 c3 c4 c5 c6 c7 c8 => turn27) fun c0 c2 c3 c4 c5 c6 c7 c8 => ?_
    refine odds_ok fun X hX hl => ?_
    have p0 : Tl (F__law_pick [hdl 0, .list X]) 1 SameV := (pick_okB (by omega) (by omega)).imp hX
    refine picks_gen (m := 4) p0 (fun vs c4 hv => in3_loop vs c4 hv) fun c4 => ?_
    have w2 : ∀ x ∈ (["1 call 0", "2 away", "3 call"] : List Str), TxQ x := txq_all (by decide +kernel)
    have w3 : ∀ x ∈ (["0 on", "x", ""] : List Str), TxQ x := txq_all (by decide +kernel)
    refine fin27_gen (FK := F__law_pick) (FD := F__law_draw) (FH := F__law_heard) (FU := F__law_due) rfl ?_ ?_ ?_ (fun x hx => rep_pairs hx (w3 _ List.mem_cons_self)) fun t ht => ?_
    · refine (pick_okB (ds := [.int 399, .int 400, .int 401, .int 700]) (by decide) (by decide)).imp fun d hd => ?_
      simp only [List.mem_cons, List.not_mem_nil, or_false] at hd
      rcases hd with rfl | rfl | rfl | rfl
      · exact ⟨398, rfl, by decide⟩
      · exact ⟨399, rfl, by decide⟩
      · exact ⟨400, rfl, by decide⟩
      · exact ⟨699, rfl, by decide⟩
    · exact (pick_okB (ds := (["1 call 0", "2 away", "3 call"] : List Str).map PyData.str) (by decide) (by decide)).imp fun d hd => by
        obtain ⟨x, hx, rfl⟩ := List.mem_map.mp hd
        exact ⟨x, rfl, w2 x hx⟩
    · exact (pick_okB (ds := (["0 on", "x", ""] : List Str).map PyData.str) (by decide) (by decide)).imp fun d hd => by
        obtain ⟨x, hx, rfl⟩ := List.mem_map.mp hd
        exact ⟨x, rfl, w3 x hx⟩
    · obtain ⟨R, a, b, c⟩ := same_T ht
      exact ⟨R, a false, b, c⟩
  exact h.run' _ _ _ (by decide) fun o c z _ _ => z
end Zk27
namespace Zk27
open PySem PySem.Spec PyProof.Rows L2 Y
theorem all_k {P : Program} {w : World} {K : PySem.W.Frag} {h : Heap} {mg : Str → Option Value} {fa : Addr} (X : K.In h) (G : h.Ns mainGlobals mg) (hfa : mg "law" = some (.ref fa)) (jm : ∀ ns : List Int, ns.length ≤ 63 → PotMath (F__law_pot ns)) (lm : LawMath)
    {f_is_within : Addr} {od_is_within an_is_within : Option Addr} {sl_is_within : Array (Option Value)} {oc_is_within kV_is_within dc_is_within pm_is_within cd_is_within ct_is_within : Value}
    {f__law_pot : Addr} {od__law_pot an__law_pot : Option Addr} {sl__law_pot : Array (Option Value)} {oc__law_pot kV__law_pot dc__law_pot pm__law_pot cd__law_pot ct__law_pot : Value}
    {f__law_draw : Addr} {od__law_draw an__law_draw : Option Addr} {sl__law_draw : Array (Option Value)} {oc__law_draw kV__law_draw dc__law_draw pm__law_draw cd__law_draw ct__law_draw : Value}
    {f__law_move_of : Addr} {od__law_move_of an__law_move_of : Option Addr} {sl__law_move_of : Array (Option Value)} {oc__law_move_of kV__law_move_of dc__law_move_of pm__law_move_of cd__law_move_of ct__law_move_of : Value}
    {f_is_formed : Addr} {od_is_formed an_is_formed : Option Addr} {sl_is_formed : Array (Option Value)} {oc_is_formed kV_is_formed dc_is_formed pm_is_formed cd_is_formed ct_is_formed : Value}
    {f__law_pick : Addr} {od__law_pick an__law_pick : Option Addr} {sl__law_pick : Array (Option Value)} {oc__law_pick kV__law_pick dc__law_pick pm__law_pick cd__law_pick ct__law_pick : Value}
    {f__law_due : Addr} {od__law_due an__law_due : Option Addr} {sl__law_due : Array (Option Value)} {oc__law_due kV__law_due dc__law_due pm__law_due cd__law_due ct__law_due : Value}
    {f__read_move : Addr} {od__read_move an__read_move : Option Addr} {sl__read_move : Array (Option Value)} {oc__read_move kV__read_move dc__read_move pm__read_move cd__read_move ct__read_move : Value}
    {f__law_right : Addr} {od__law_right an__law_right : Option Addr} {sl__law_right : Array (Option Value)} {oc__law_right kV__law_right dc__law_right pm__law_right cd__law_right ct__law_right : Value}
    {f__law_bent : Addr} {od__law_bent an__law_bent : Option Addr} {sl__law_bent : Array (Option Value)} {oc__law_bent kV__law_bent dc__law_bent pm__law_bent cd__law_bent ct__law_bent : Value}
    {f_read_run : Addr} {od_read_run an_read_run : Option Addr} {sl_read_run : Array (Option Value)} {oc_read_run kV_read_run dc_read_run pm_read_run cd_read_run ct_read_run : Value}
    {f__law_heard : Addr} {od__law_heard an__law_heard : Option Addr} {sl__law_heard : Array (Option Value)} {oc__law_heard kV__law_heard dc__law_heard pm__law_heard cd__law_heard ct__law_heard : Value}
    {f_law : Addr} {od_law an_law : Option Addr} {sl_law : Array (Option Value)} {oc_law kV_law dc_law pm_law cd_law ct_law : Value}
    {u_MAX_HANDS : Value}
    {u_MAX_MOVES : Value}
    {u_MOVE_WORDS : Value}
    {q_SleepError : Addr}
    {q_BadText fi_BadText N_BadText : Addr} {nm_BadText qn_BadText : Str} {bs_BadText sub_BadText : List Value} {sn_BadText : List Str} {ab_BadText : Bool} {col_BadText : Option Bool} {dd_BadText : Option Addr} {m0_BadText m1_BadText m2_BadText m3_BadText m5_BadText : Option Value} {odi_BadText ani_BadText : Option Addr} {sli_BadText : Array (Option Value)} {oci_BadText dci_BadText pmi_BadText cdi_BadText cti_BadText kVi_BadText : Value}
    (a_is_within : PySem.W.nsIn K mainGlobals "is_within" = some (some (.ref f_is_within)))
    (l_is_within : K.lookup f_is_within = some ⟨oc_is_within, od_is_within, .func (PySem.W.fnOf "is_within" "is_within" (defArgs s_is_within) (defBody s_is_within) (defScope s_is_within) .none kV_is_within dc_is_within pm_is_within an_is_within cd_is_within ct_is_within), sl_is_within⟩)
    (c_is_within : PySem.W.codeIn K cd_is_within "is_within" = true)
    (k_is_within : PySem.W.keepIn K (.ref f_is_within) = true)
    (a__law_pot : PySem.W.nsIn K mainGlobals "_law_pot" = some (some (.ref f__law_pot)))
    (l__law_pot : K.lookup f__law_pot = some ⟨oc__law_pot, od__law_pot, .func (PySem.W.fnOf "_law_pot" "_law_pot" (defArgs s__law_pot) (defBody s__law_pot) (defScope s__law_pot) .none kV__law_pot dc__law_pot pm__law_pot an__law_pot cd__law_pot ct__law_pot), sl__law_pot⟩)
    (c__law_pot : PySem.W.codeIn K cd__law_pot "_law_pot" = true)
    (k__law_pot : PySem.W.keepIn K (.ref f__law_pot) = true)
    (a__law_draw : PySem.W.nsIn K mainGlobals "_law_draw" = some (some (.ref f__law_draw)))
    (l__law_draw : K.lookup f__law_draw = some ⟨oc__law_draw, od__law_draw, .func (PySem.W.fnOf "_law_draw" "_law_draw" (defArgs s__law_draw) (defBody s__law_draw) (defScope s__law_draw) .none kV__law_draw dc__law_draw pm__law_draw an__law_draw cd__law_draw ct__law_draw), sl__law_draw⟩)
    (c__law_draw : PySem.W.codeIn K cd__law_draw "_law_draw" = true)
    (k__law_draw : PySem.W.keepIn K (.ref f__law_draw) = true)
    (a__law_move_of : PySem.W.nsIn K mainGlobals "_law_move_of" = some (some (.ref f__law_move_of)))
    (l__law_move_of : K.lookup f__law_move_of = some ⟨oc__law_move_of, od__law_move_of, .func (PySem.W.fnOf "_law_move_of" "_law_move_of" (defArgs s__law_move_of) (defBody s__law_move_of) (defScope s__law_move_of) .none kV__law_move_of dc__law_move_of pm__law_move_of an__law_move_of cd__law_move_of ct__law_move_of), sl__law_move_of⟩)
    (c__law_move_of : PySem.W.codeIn K cd__law_move_of "_law_move_of" = true)
    (k__law_move_of : PySem.W.keepIn K (.ref f__law_move_of) = true)
    (a_is_formed : PySem.W.nsIn K mainGlobals "is_formed" = some (some (.ref f_is_formed)))
    (l_is_formed : K.lookup f_is_formed = some ⟨oc_is_formed, od_is_formed, .func (PySem.W.fnOf "is_formed" "is_formed" (defArgs s_is_formed) (defBody s_is_formed) (defScope s_is_formed) .none kV_is_formed dc_is_formed pm_is_formed an_is_formed cd_is_formed ct_is_formed), sl_is_formed⟩)
    (c_is_formed : PySem.W.codeIn K cd_is_formed "is_formed" = true)
    (k_is_formed : PySem.W.keepIn K (.ref f_is_formed) = true)
    (a__law_pick : PySem.W.nsIn K mainGlobals "_law_pick" = some (some (.ref f__law_pick)))
    (l__law_pick : K.lookup f__law_pick = some ⟨oc__law_pick, od__law_pick, .func (PySem.W.fnOf "_law_pick" "_law_pick" (defArgs s__law_pick) (defBody s__law_pick) (defScope s__law_pick) .none kV__law_pick dc__law_pick pm__law_pick an__law_pick cd__law_pick ct__law_pick), sl__law_pick⟩)
    (c__law_pick : PySem.W.codeIn K cd__law_pick "_law_pick" = true)
    (k__law_pick : PySem.W.keepIn K (.ref f__law_pick) = true)
    (a__law_due : PySem.W.nsIn K mainGlobals "_law_due" = some (some (.ref f__law_due)))
    (l__law_due : K.lookup f__law_due = some ⟨oc__law_due, od__law_due, .func (PySem.W.fnOf "_law_due" "_law_due" (defArgs s__law_due) (defBody s__law_due) (defScope s__law_due) .none kV__law_due dc__law_due pm__law_due an__law_due cd__law_due ct__law_due), sl__law_due⟩)
    (c__law_due : PySem.W.codeIn K cd__law_due "_law_due" = true)
    (k__law_due : PySem.W.keepIn K (.ref f__law_due) = true)
    (a__read_move : PySem.W.nsIn K mainGlobals "_read_move" = some (some (.ref f__read_move)))
    (l__read_move : K.lookup f__read_move = some ⟨oc__read_move, od__read_move, .func (PySem.W.fnOf "_read_move" "_read_move" (defArgs s__read_move) (defBody s__read_move) (defScope s__read_move) .none kV__read_move dc__read_move pm__read_move an__read_move cd__read_move ct__read_move), sl__read_move⟩)
    (c__read_move : PySem.W.codeIn K cd__read_move "_read_move" = true)
    (k__read_move : PySem.W.keepIn K (.ref f__read_move) = true)
    (a__law_right : PySem.W.nsIn K mainGlobals "_law_right" = some (some (.ref f__law_right)))
    (l__law_right : K.lookup f__law_right = some ⟨oc__law_right, od__law_right, .func (PySem.W.fnOf "_law_right" "_law_right" (defArgs s__law_right) (defBody s__law_right) (defScope s__law_right) .none kV__law_right dc__law_right pm__law_right an__law_right cd__law_right ct__law_right), sl__law_right⟩)
    (c__law_right : PySem.W.codeIn K cd__law_right "_law_right" = true)
    (k__law_right : PySem.W.keepIn K (.ref f__law_right) = true)
    (a__law_bent : PySem.W.nsIn K mainGlobals "_law_bent" = some (some (.ref f__law_bent)))
    (l__law_bent : K.lookup f__law_bent = some ⟨oc__law_bent, od__law_bent, .func (PySem.W.fnOf "_law_bent" "_law_bent" (defArgs s__law_bent) (defBody s__law_bent) (defScope s__law_bent) .none kV__law_bent dc__law_bent pm__law_bent an__law_bent cd__law_bent ct__law_bent), sl__law_bent⟩)
    (c__law_bent : PySem.W.codeIn K cd__law_bent "_law_bent" = true)
    (k__law_bent : PySem.W.keepIn K (.ref f__law_bent) = true)
    (a_read_run : PySem.W.nsIn K mainGlobals "read_run" = some (some (.ref f_read_run)))
    (l_read_run : K.lookup f_read_run = some ⟨oc_read_run, od_read_run, .func (PySem.W.fnOf "read_run" "read_run" (defArgs s_read_run) (defBody s_read_run) (defScope s_read_run) .none kV_read_run dc_read_run pm_read_run an_read_run cd_read_run ct_read_run), sl_read_run⟩)
    (c_read_run : PySem.W.codeIn K cd_read_run "read_run" = true)
    (k_read_run : PySem.W.keepIn K (.ref f_read_run) = true)
    (a__law_heard : PySem.W.nsIn K mainGlobals "_law_heard" = some (some (.ref f__law_heard)))
    (l__law_heard : K.lookup f__law_heard = some ⟨oc__law_heard, od__law_heard, .func (PySem.W.fnOf "_law_heard" "_law_heard" (defArgs s__law_heard) (defBody s__law_heard) (defScope s__law_heard) .none kV__law_heard dc__law_heard pm__law_heard an__law_heard cd__law_heard ct__law_heard), sl__law_heard⟩)
    (c__law_heard : PySem.W.codeIn K cd__law_heard "_law_heard" = true)
    (k__law_heard : PySem.W.keepIn K (.ref f__law_heard) = true)
    (a_law : PySem.W.nsIn K mainGlobals "law" = some (some (.ref f_law)))
    (l_law : K.lookup f_law = some ⟨oc_law, od_law, .func (PySem.W.fnOf "law" "law" (defArgs s_law) (defBody s_law) (defScope s_law) .none kV_law dc_law pm_law an_law cd_law ct_law), sl_law⟩)
    (c_law : PySem.W.codeIn K cd_law "law" = true)
    (k_law : PySem.W.keepIn K (.ref f_law) = true)
    (y_abs : PySem.W.nsIn K mainGlobals "abs" = some none)
    (y_all : PySem.W.nsIn K mainGlobals "all" = some none)
    (y_bool : PySem.W.nsIn K mainGlobals "bool" = some none)
    (y_enumerate : PySem.W.nsIn K mainGlobals "enumerate" = some none)
    (y_int : PySem.W.nsIn K mainGlobals "int" = some none)
    (y_isinstance : PySem.W.nsIn K mainGlobals "isinstance" = some none)
    (y_len : PySem.W.nsIn K mainGlobals "len" = some none)
    (y_range : PySem.W.nsIn K mainGlobals "range" = some none)
    (y_repr : PySem.W.nsIn K mainGlobals "repr" = some none)
    (y_set : PySem.W.nsIn K mainGlobals "set" = some none)
    (y_str : PySem.W.nsIn K mainGlobals "str" = some none)
    (y_tuple : PySem.W.nsIn K mainGlobals "tuple" = some none)
    (a_MAX_HANDS : PySem.W.nsIn K mainGlobals "MAX_HANDS" = some (some u_MAX_HANDS))
    (d_MAX_HANDS : kD K K_MAX_HANDS u_MAX_HANDS = true)
    (a_MAX_MOVES : PySem.W.nsIn K mainGlobals "MAX_MOVES" = some (some u_MAX_MOVES))
    (d_MAX_MOVES : kD K K_MAX_MOVES u_MAX_MOVES = true)
    (a_MOVE_WORDS : PySem.W.nsIn K mainGlobals "MOVE_WORDS" = some (some u_MOVE_WORDS))
    (d_MOVE_WORDS : kD K K_MOVE_WORDS u_MOVE_WORDS = true)
    (a_SleepError : PySem.W.nsIn K mainGlobals "SleepError" = some (some (.ref q_SleepError)))
    (k_SleepError : PySem.W.keepIn K (.ref q_SleepError) = true)
    (x_SleepError : PySem.W.excIn K q_SleepError [.type "ValueError", .type "Exception", .type "BaseException", .type "object"] "ValueError.__new__" = true)
    (s_b_SleepError : PySem.W.subIn K (.ref q_SleepError) (.type "BaseException") = some true)
    (t_SleepError : PySem.W.typeIn K (.ref q_SleepError) = some (.type "type"))
    (d_SleepError : PySem.W.hasDictIn K q_SleepError = true)
    (s_s_SleepError : PySem.W.subIn K (.ref q_SleepError) (.ref q_SleepError) = some true)
    (hg_SleepError : PySem.W.findIn K (.ref q_SleepError) "__getattribute__" = some (some (.builtin "BaseException.__getattribute__")))
    (hk_SleepError : PySem.W.findIn K (.ref q_SleepError) "__getattr__" = some none)
    (ha_SleepError : PySem.W.findIn K (.ref q_SleepError) "__class__" = some (some (.builtin "object.__class__")))
    (hn_SleepError : PySem.W.specialIn K (.builtin "object.__class__") "__get__" = some (some (.builtin "getset_descriptor.__get__")))
    (ht_SleepError : PySem.W.takesIn K (.builtin "object.__class__") = some true)
    (hm_SleepError : PySem.W.mroIn K q_SleepError (.type "object") = some true)
    (a_BadText : PySem.W.nsIn K mainGlobals "BadText" = some (some (.ref q_BadText)))
    (k_BadText : PySem.W.keepIn K (.ref q_BadText) = true)
    (xl_BadText : K.lookup q_BadText = some (excClassObj nm_BadText qn_BadText q_BadText N_BadText bs_BadText [.ref q_SleepError, .type "ValueError", .type "Exception", .type "BaseException", .type "object"] true sn_BadText sub_BadText ab_BadText col_BadText dd_BadText m0_BadText m1_BadText m2_BadText m3_BadText m5_BadText "ValueError.__new__"))
    (sa_BadText : PySem.W.findIn K (.ref q_BadText) "__setattr__" = some (some (.builtin "object.__setattr__")))
    (s_b_BadText : PySem.W.subIn K (.ref q_BadText) (.type "BaseException") = some true)
    (t_BadText : PySem.W.typeIn K (.ref q_BadText) = some (.type "type"))
    (d_BadText : PySem.W.hasDictIn K q_BadText = true)
    (s_s_BadText : PySem.W.subIn K (.ref q_BadText) (.ref q_BadText) = some true)
    (nf_BadText : PySem.W.findIn K (.ref q_BadText) "place" = some none)
    (ii_BadText : PySem.W.findIn K (.ref q_BadText) "__init__" = some (some (.ref fi_BadText)))
    (ti_BadText : PySem.W.typeIn K (.ref fi_BadText) = some (.type "function"))
    (li_BadText : K.lookup fi_BadText = some ⟨oci_BadText, odi_BadText, .func (PySem.W.fnOf "__init__" "BadText.__init__" (defArgs si_BadText) (defBody si_BadText) (defScope si_BadText) .none kVi_BadText dci_BadText pmi_BadText ani_BadText cdi_BadText cti_BadText), sli_BadText⟩)
    (ci_BadText : PySem.W.codeIn K cdi_BadText "BadText.__init__" = true)
    (ki_BadText : PySem.W.keepIn K (.ref fi_BadText) = true)
    (hg_BadText : PySem.W.findIn K (.ref q_BadText) "__getattribute__" = some (some (.builtin "BaseException.__getattribute__")))
    (hk_BadText : PySem.W.findIn K (.ref q_BadText) "__getattr__" = some none)
    (ha_BadText : PySem.W.findIn K (.ref q_BadText) "__class__" = some (some (.builtin "object.__class__")))
    (hn_BadText : PySem.W.specialIn K (.builtin "object.__class__") "__get__" = some (some (.builtin "getset_descriptor.__get__")))
    (ht_BadText : PySem.W.takesIn K (.builtin "object.__class__") = some true)
    (hm_BadText : PySem.W.mroIn K q_BadText (.type "object") = some true)
    (kit_BadText_SleepError : PySem.W.kitOne K (.ref q_BadText) (.ref q_SleepError) = some true) :
    ∃ fd : FuncData, (∀ (s : Shared) (v : Value), BindsTo s fd ⟨[v], []⟩ [("script", v)]) ∧ ∀ base : Heap, K.In base → base.Ns mainGlobals mg → FnG P w K mg base 6 fa fd ["script"] (spLaw K 63) := by
  have e := hfa.symm.trans (PySem.W.mg_of X G a_law)
  cases e
  have g_is_within := fun_mk (st := s_is_within) l_is_within c_is_within k_is_within
  have m_is_within := PySem.W.mg_of X G a_is_within
  have b_is_within := g_is_within.binds (ps := ["value", "least", "most"]) fun _ _ _ _ _ _ us hl => match us, hl with | [_, _, _], _ => rfl
  have g__law_pot := fun_mk (st := s__law_pot) l__law_pot c__law_pot k__law_pot
  have m__law_pot := PySem.W.mg_of X G a__law_pot
  have b__law_pot := g__law_pot.binds (ps := ["script"]) fun _ _ _ _ _ _ us hl => match us, hl with | [_], _ => rfl
  have g__law_draw := fun_mk (st := s__law_draw) l__law_draw c__law_draw k__law_draw
  have m__law_draw := PySem.W.mg_of X G a__law_draw
  have b__law_draw := g__law_draw.binds (ps := ["pot", "many"]) fun _ _ _ _ _ _ us hl => match us, hl with | [_, _], _ => rfl
  have g__law_move_of := fun_mk (st := s__law_move_of) l__law_move_of c__law_move_of k__law_move_of
  have m__law_move_of := PySem.W.mg_of X G a__law_move_of
  have b__law_move_of := g__law_move_of.binds (ps := ["text"]) fun _ _ _ _ _ _ us hl => match us, hl with | [_], _ => rfl
  have g_is_formed := fun_mk (st := s_is_formed) l_is_formed c_is_formed k_is_formed
  have m_is_formed := PySem.W.mg_of X G a_is_formed
  have b_is_formed := g_is_formed.binds (ps := ["value", "many"]) fun _ _ _ _ _ _ us hl => match us, hl with | [_, _], _ => rfl
  have g__law_pick := fun_mk (st := s__law_pick) l__law_pick c__law_pick k__law_pick
  have m__law_pick := PySem.W.mg_of X G a__law_pick
  have b__law_pick := g__law_pick.binds (ps := ["pot", "items"]) fun _ _ _ _ _ _ us hl => match us, hl with | [_, _], _ => rfl
  have g__law_due := fun_mk (st := s__law_due) l__law_due c__law_due k__law_due
  have m__law_due := PySem.W.mg_of X G a__law_due
  have b__law_due := g__law_due.binds (ps := ["value"]) fun _ _ _ _ _ _ us hl => match us, hl with | [_], _ => rfl
  have g__read_move := fun_mk (st := s__read_move) l__read_move c__read_move k__read_move
  have m__read_move := PySem.W.mg_of X G a__read_move
  have b__read_move := g__read_move.binds (ps := ["part", "hands"]) fun _ _ _ _ _ _ us hl => match us, hl with | [_, _], _ => rfl
  have g__law_right := fun_mk (st := s__law_right) l__law_right c__law_right k__law_right
  have m__law_right := PySem.W.mg_of X G a__law_right
  have b__law_right := g__law_right.binds (ps := ["pot"]) fun _ _ _ _ _ _ us hl => match us, hl with | [_], _ => rfl
  have g__law_bent := fun_mk (st := s__law_bent) l__law_bent c__law_bent k__law_bent
  have m__law_bent := PySem.W.mg_of X G a__law_bent
  have b__law_bent := g__law_bent.binds (ps := ["pot", "text"]) fun _ _ _ _ _ _ us hl => match us, hl with | [_, _], _ => rfl
  have g_read_run := fun_mk (st := s_read_run) l_read_run c_read_run k_read_run
  have m_read_run := PySem.W.mg_of X G a_read_run
  have b_read_run := g_read_run.binds (ps := ["value"]) fun _ _ _ _ _ _ us hl => match us, hl with | [_], _ => rfl
  have g__law_heard := fun_mk (st := s__law_heard) l__law_heard c__law_heard k__law_heard
  have m__law_heard := PySem.W.mg_of X G a__law_heard
  have b__law_heard := g__law_heard.binds (ps := ["value", "is_named"]) fun _ _ _ _ _ _ us hl => match us, hl with | [_, _], _ => rfl
  have g_law := fun_mk (st := s_law) l_law c_law k_law
  have m_law := PySem.W.mg_of X G a_law
  have b_law := g_law.binds (ps := ["script"]) fun _ _ _ _ _ _ us hl => match us, hl with | [_], _ => rfl
  have z_abs := PySem.W.mg_none_of X G y_abs
  have z_all := PySem.W.mg_none_of X G y_all
  have z_bool := PySem.W.mg_none_of X G y_bool
  have z_enumerate := PySem.W.mg_none_of X G y_enumerate
  have z_int := PySem.W.mg_none_of X G y_int
  have z_isinstance := PySem.W.mg_none_of X G y_isinstance
  have z_len := PySem.W.mg_none_of X G y_len
  have z_range := PySem.W.mg_none_of X G y_range
  have z_repr := PySem.W.mg_none_of X G y_repr
  have z_set := PySem.W.mg_none_of X G y_set
  have z_str := PySem.W.mg_none_of X G y_str
  have z_tuple := PySem.W.mg_none_of X G y_tuple
  have gi_BadText := fun_mk (st := si_BadText) li_BadText ci_BadText ki_BadText
  have bi_BadText := gi_BadText.binds (ps := ["self", "place"]) fun _ _ _ _ _ _ us hl => match us, hl with | [_, _], _ => rfl
  have i_BadText : ∀ base, ErrI P w K mg base "BadText" "place" q_BadText fi_BadText _ := fun base => ⟨PySem.W.mg_of X G a_BadText, ⟨⟨_, _, _, _, _, _, _, _, _, _, _, _, _, _, _, xl_BadText, rfl⟩, sa_BadText, s_b_BadText, t_BadText, k_BadText⟩, ii_BadText, ti_BadText, nf_BadText, init_BadText gi_BadText, bi_BadText, d_BadText, s_s_BadText, ⟨hg_BadText, hk_BadText, s_b_BadText, d_BadText, ha_BadText, hn_BadText, ht_BadText, hm_BadText⟩, ⟨hg_BadText, hk_BadText, s_b_BadText, d_BadText⟩, by decide⟩
  have v_MAX_HANDS := And.intro (PySem.W.mg_of X G a_MAX_HANDS) d_MAX_HANDS
  have v_MAX_MOVES := And.intro (PySem.W.mg_of X G a_MAX_MOVES) d_MAX_MOVES
  have v_MOVE_WORDS := And.intro (PySem.W.mg_of X G a_MOVE_WORDS) d_MOVE_WORDS
  have e_SleepError : OwnE K mg "SleepError" q_SleepError := ⟨PySem.W.mg_of X G a_SleepError, k_SleepError, x_SleepError, s_b_SleepError, t_SleepError, d_SleepError, s_s_SleepError, ⟨hg_SleepError, hk_SleepError, s_b_SleepError, d_SleepError, ha_SleepError, hn_SleepError, ht_SleepError, hm_SleepError⟩⟩
  refine ⟨PySem.W.fnOf "law" "law" (defArgs s_law) (defBody s_law) (defScope s_law) .none kV_law dc_law pm_law an_law cd_law ct_law, fun s v => .of_eq rfl, fun base _ _ => ?_⟩
  have i_BadText := i_BadText base
  refine ok_law jm lm g_law (fun sa ns zz => ⟨ok__law_pot z_len z_int z_abs g__law_pot, m__law_pot, g__law_pot, b__law_pot⟩) fun j jo cdv A l s H G HC E hr hg tk => ?_
  have hO : ∀ v, ¬ j.J.O v (-1) := fun v hv => absurd hv.1 (by decide)
  have k_c_is_within : Cal P w j.J K mg base 1 "is_within" s_is_within ["value", "least", "most"] F_is_within f_is_within _ := ⟨ok_is_within z_isinstance z_int z_bool g_is_within, m_is_within, g_is_within, b_is_within⟩
  have k_c__law_draw : Cal P w j.J K mg base 1 "_law_draw" s__law_draw ["pot", "many"] F__law_draw f__law_draw _ := ⟨ok__law_draw jo z_int g__law_draw, m__law_draw, g__law_draw, b__law_draw⟩
  have k_c__law_move_of : Cal P w j.J K mg base 1 "_law_move_of" s__law_move_of ["text"] F__law_move_of f__law_move_of _ := ⟨ok__law_move_of z_len z_enumerate z_int z_tuple g__law_move_of, m__law_move_of, g__law_move_of, b__law_move_of⟩
  have k_c_is_formed : Cal P w j.J K mg base 2 "is_formed" s_is_formed ["value", "many"] F_is_formed f_is_formed _ := ⟨ok_is_formed z_isinstance z_tuple z_len v_MOVE_WORDS (k_c_is_within) z_all z_set g_is_formed, m_is_formed, g_is_formed, b_is_formed⟩
  have k_c__law_pick : Cal P w j.J K mg base 2 "_law_pick" s__law_pick ["pot", "items"] F__law_pick f__law_pick _ := ⟨ok__law_pick (k_c__law_draw) z_len g__law_pick, m__law_pick, g__law_pick, b__law_pick⟩
  have k_c__law_due : Cal P w j.J K mg base 2 "_law_due" s__law_due ["value"] F__law_due f__law_due _ := ⟨ok__law_due z_isinstance z_str z_enumerate (k_c__law_move_of) z_tuple g__law_due, m__law_due, g__law_due, b__law_due⟩
  have k_c__read_move : Cal P w j.J K mg base 3 "_read_move" s__read_move ["part", "hands"] F__read_move f__read_move _ := ⟨ok__read_move z_tuple (k_c_is_formed) v_MAX_HANDS g__read_move, m__read_move, g__read_move, b__read_move⟩
  have k_c__law_right : Cal P w j.J K mg base 3 "_law_right" s__law_right ["pot"] F__law_right f__law_right _ := ⟨ok__law_right (k_c__law_draw) z_range (k_c__law_pick) g__law_right, m__law_right, g__law_right, b__law_right⟩
  have k_c__law_bent : Cal P w j.J K mg base 3 "_law_bent" s__law_bent ["pot", "text"] F__law_bent f__law_bent _ := ⟨ok__law_bent (k_c__law_draw) z_len (k_c__law_pick) z_int g__law_bent, m__law_bent, g__law_bent, b__law_bent⟩
  have k_c_read_run : Cal P w j.J K mg base 4 "read_run" s_read_run ["value"] F_read_run f_read_run _ := ⟨ok_read_run z_isinstance z_str i_BadText v_MAX_HANDS z_range z_enumerate (k_c__read_move) v_MAX_MOVES z_tuple g_read_run, m_read_run, g_read_run, b_read_run⟩
  have k_c__law_heard : Cal P w j.J K mg base 5 "_law_heard" s__law_heard ["value", "is_named"] F__law_heard f__law_heard _ := ⟨ok__law_heard i_BadText (k_c_read_run) kit_BadText_SleepError hO z_isinstance e_SleepError g__law_heard, m__law_heard, g__law_heard, b__law_heard⟩
  exact body_law z_range (k_c__law_right) (k_c__law_bent) z_enumerate (k_c__law_heard) z_repr (k_c__law_due) (k_c__law_pick) (k_c__law_draw) hr hg tk
end Zk27
open PySem PySem.W PyProof.Rows
set_option maxHeartbeats 0 in
theorem PySem.Challenge.cw_leftasleep_k27_whole_spoilt_texts_of_run_holds : PySem.Challenge.rw_leftasleep_k27_whole_spoilt_texts_of_run.Holds := by
  w_on; o_law; k_head; (case hw => w_witness2)
  k_fill
  refine Y.walkG (l := PySem.Challenge.rw_leftasleep_k27_whole_spoilt_texts_of_run) (m := 63) (k := 6) (x := "script") rfl (by decide) rfl ⟨rfl, by decide, by decide⟩ (fun w h Y => PySem.W.kIn_of Y) ?F
  case F =>
    intro w mg fa h KX G hmg
    refine' Zk27.all_k KX G hmg Zk27.jar_math Zk27.law_math ?a_is_within ?l_is_within ?c_is_within ?k_is_within ?a__law_pot ?l__law_pot ?c__law_pot ?k__law_pot ?a__law_draw ?l__law_draw ?c__law_draw ?k__law_draw ?a__law_move_of ?l__law_move_of ?c__law_move_of ?k__law_move_of ?a_is_formed ?l_is_formed ?c_is_formed ?k_is_formed ?a__law_pick ?l__law_pick ?c__law_pick ?k__law_pick ?a__law_due ?l__law_due ?c__law_due ?k__law_due ?a__read_move ?l__read_move ?c__read_move ?k__read_move ?a__law_right ?l__law_right ?c__law_right ?k__law_right ?a__law_bent ?l__law_bent ?c__law_bent ?k__law_bent ?a_read_run ?l_read_run ?c_read_run ?k_read_run ?a__law_heard ?l__law_heard ?c__law_heard ?k__law_heard ?a_law ?l_law ?c_law ?k_law ?y_abs ?y_all ?y_bool ?y_enumerate ?y_int ?y_isinstance ?y_len ?y_range ?y_repr ?y_set ?y_str ?y_tuple ?a_MAX_HANDS ?d_MAX_HANDS ?a_MAX_MOVES ?d_MAX_MOVES ?a_MOVE_WORDS ?d_MOVE_WORDS ?a_SleepError ?k_SleepError ?x_SleepError ?s_b_SleepError ?t_SleepError ?d_SleepError ?s_s_SleepError ?hg_SleepError ?hk_SleepError ?ha_SleepError ?hn_SleepError ?ht_SleepError ?hm_SleepError ?a_BadText ?k_BadText ?xl_BadText ?sa_BadText ?s_b_BadText ?t_BadText ?d_BadText ?s_s_BadText ?nf_BadText ?ii_BadText ?ti_BadText ?li_BadText ?ci_BadText ?ki_BadText ?hg_BadText ?hk_BadText ?ha_BadText ?hn_BadText ?ht_BadText ?hm_BadText ?kit_BadText_SleepError
    (case a_is_within => k_is); (case l_is_within => k_is); (case c_is_within => k_is); (case k_is_within => k_is); (case a__law_pot => k_is); (case l__law_pot => k_is)
    (case c__law_pot => k_is); (case k__law_pot => k_is); (case a__law_draw => k_is); (case l__law_draw => k_is); (case c__law_draw => k_is); (case k__law_draw => k_is)
    (case a__law_move_of => k_is); (case l__law_move_of => k_is); (case c__law_move_of => k_is); (case k__law_move_of => k_is); (case a_is_formed => k_is); (case l_is_formed => k_is)
    (case c_is_formed => k_is); (case k_is_formed => k_is); (case a__law_pick => k_is); (case l__law_pick => k_is); (case c__law_pick => k_is); (case k__law_pick => k_is)
    (case a__law_due => k_is); (case l__law_due => k_is); (case c__law_due => k_is); (case k__law_due => k_is); (case a__read_move => k_is); (case l__read_move => k_is)
    (case c__read_move => k_is); (case k__read_move => k_is); (case a__law_right => k_is); (case l__law_right => k_is); (case c__law_right => k_is); (case k__law_right => k_is)
    (case a__law_bent => k_is); (case l__law_bent => k_is); (case c__law_bent => k_is); (case k__law_bent => k_is); (case a_read_run => k_is); (case l_read_run => k_is)
    (case c_read_run => k_is); (case k_read_run => k_is); (case a__law_heard => k_is); (case l__law_heard => k_is); (case c__law_heard => k_is); (case k__law_heard => k_is)
    (case a_law => k_is); (case l_law => k_is); (case c_law => k_is); (case k_law => k_is); (case y_abs => k_is); (case y_all => k_is)
    (case y_bool => k_is); (case y_enumerate => k_is); (case y_int => k_is); (case y_isinstance => k_is); (case y_len => k_is); (case y_range => k_is)
    (case y_repr => k_is); (case y_set => k_is); (case y_str => k_is); (case y_tuple => k_is); (case a_MAX_HANDS => k_is); (case d_MAX_HANDS => kernel_rfl)
    (case a_MAX_MOVES => k_is); (case d_MAX_MOVES => kernel_rfl); (case a_MOVE_WORDS => k_is); (case d_MOVE_WORDS => kernel_rfl); (case a_SleepError => k_is); (case k_SleepError => k_is)
    (case x_SleepError => k_exc); (case s_b_SleepError => k_is); (case t_SleepError => k_is); (case d_SleepError => k_is); (case s_s_SleepError => k_is); (case hg_SleepError => k_is)
    (case hk_SleepError => k_is); (case ha_SleepError => k_is); (case hn_SleepError => k_is); (case ht_SleepError => k_is); (case hm_SleepError => k_is); (case a_BadText => k_is)
    (case k_BadText => k_is); (case xl_BadText => k_is); (case sa_BadText => k_is); (case s_b_BadText => k_is); (case t_BadText => k_is); (case d_BadText => k_is)
    (case s_s_BadText => k_is); (case nf_BadText => k_is); (case ii_BadText => k_is); (case ti_BadText => k_is); (case li_BadText => k_is); (case ci_BadText => k_is)
    (case ki_BadText => k_is); (case hg_BadText => k_is); (case hk_BadText => k_is); (case ha_BadText => k_is); (case hn_BadText => k_is); (case ht_BadText => k_is)
    (case hm_BadText => k_is); (case kit_BadText_SleepError => kit_is)
