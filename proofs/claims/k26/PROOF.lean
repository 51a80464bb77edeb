import PyProof.Rows.All
import Wide.All
import OpenK.AllK
import Wide.FinOn
import PySem.Challenge.RW_everlit_k26_chains_and_rings_looked_at
import HandS.ForMost
import HandS.Codes
import HandS.Lambda
import HandS.Ends
import HandS.Style
import HandS.More
import HandS.Property
import PyProof.Rows.NestShow
import HandS.RaiseMore
import HandS.SortKw
import KE.DatumOrd
import HandS.TupSets
import KE.KSortTupG
import HandS.DictComp
import HandS.Conv
import HandS.ListItems
import PyProof.DictUpdate
import HandS.Set
import HandS.IsInst
import HandS.Defaults
import HandS.Steps
import HandS.Nested
import HandS.TupAny
import HandS.TupMul
import KE.KEqNest
import KE.DataEq
import PyProof.FactsAll.dict_1
import HandS.SortInts
import HandS.List
import HandS.Strs
import PyProof.EqKinds
import PyProof.FactsAll.subtypes_3
import PyProof.FactsAll.subtypes_4
import HandS.Zip
import KE.KDictZip
import HandS.Star
import HandS.Deep
import PyProof.NeKinds
import PyProof.ReprBulk
import PyProof.CollectWalk
import KE.KDictList
import HandS.EndBits
set_option Elab.async false
set_option linter.all false
set_option maxRecDepth 100000
set_option maxHeartbeats 4000000
/-! Readings by what a value stands for: G holds what never changes again, H all that is tracked; a source of draws may change. -/
namespace Ev
open PySem PySem.Spec L2
abbrev lim : Nat := 1000000
/-- what never changes is there; a dict may be locked -/
def Sm (G H : Hp) : Prop := ∀ b o, G b = some o → H b = some o ∨ ∃ od kvs, o = .dK kvs ∧ H b = some (.frz od (.dK kvs))
def isDk : HO → Bool
  | .dK _ => true
  | _ => false
theorem Sm.x {G H : Hp} {a : Addr} {o : HO} (s : Sm G H) (h : G a = some o) (n : isDk o = false := by rfl) : H a = some o := by
  rcases s a o h with e | ⟨od, kvs, rfl, _⟩
  · exact e
  · cases n
theorem Sm.rd {G H : Hp} {a : Addr} {kvs : List (Key × V)} (s : Sm G H) (h : G a = some (.dK kvs)) : Rd H a (.dK kvs) := by
  rcases s a _ h with e | ⟨od, kvs', e, e2⟩
  · exact .inl e
  · cases e
    exact .inr ⟨od, e2⟩
theorem Sm.of {G H : Hp} (s : Same G H) : Sm G H := fun b o h => .inl (s b o h)
theorem Sm.ne {G H : Hp} (s : Sm G H) {a : Addr} {o : HO} (h : G a = some o) : H a ≠ none := by
  rcases s a o h with e | ⟨od, kvs, _, e⟩ <;> rw [e] <;> exact fun z => nomatch z
theorem Sm.free {G H : Hp} (s : Sm G H) {a : Addr} (h : H a = none) : G a = none := by
  cases q : G a with
  | none => rfl
  | some o => exact absurd h (s.ne q)
theorem Sm.pre {G G1 H : Hp} (s : Same G G1) (t : Sm G1 H) : Sm G H := fun b o h => t b o (s b o h)
/-! ### what a value stands for -/
structure MP where
  pr : Hp → V → Prop
  mono : ∀ {G G' : Hp} {v : V}, Same G G' → pr G v → pr G' v
/-- what may not be one's own: tuples, tables of code objects, and what is told by words of its own -/
def isTp : HO → Bool
  | .tup _ => true
  | .tbl _ => true
  | .ext _ => true
  | .frz _ (.ext _) => true
  | _ => false
def isTb : HO → Bool
  | .tbl _ => true
  | _ => false
theorem isTb_of {o : HO} (h : isTp o = false) : isTb o = false := by
  cases o <;> first | rfl | cases h
structure MO where
  pr : Hp → Addr → HO → Prop
  mono : ∀ {G G' : Hp} {a : Addr} {o : HO}, Same G G' → pr G a o → pr G' a o
  nt : ∀ {G : Hp} {a : Addr} {o : HO}, pr G a o → isTp o = false
def mV (x : V) : MP := ⟨fun _ v => v = x, fun _ h => h⟩
def mEx {α : Type} (P : α → Prop) (R : α → MP) : MP := ⟨fun G v => ∃ x, P x ∧ (R x).pr G v, fun s ⟨x, p, h⟩ => ⟨x, p, (R x).mono s h⟩⟩
def mInts (P : Int → Prop) : MP := mEx P fun i => mV (.int i)
def Zip (G : Hp) : List MP → List V → Prop
  | [], [] => True
  | P :: Ps, v :: vs => P.pr G v ∧ Zip G Ps vs
  | [], _ :: _ => False
  | _ :: _, [] => False
theorem Zip.mono {G G' : Hp} (s : Same G G') : ∀ {Ps : List MP} {vs : List V}, Zip G Ps vs → Zip G' Ps vs
  | [], [], _ => trivial
  | P :: Ps, v :: vs, h => ⟨P.mono s h.1, Zip.mono s h.2⟩
  | [], _ :: _, h => h.elim
  | _ :: _, [], h => h.elim
theorem Zip.len {G : Hp} : ∀ {Ps : List MP} {vs : List V}, Zip G Ps vs → vs.length = Ps.length
  | [], [], _ => rfl
  | P :: Ps, v :: vs, h => congrArg (· + 1) (Zip.len h.2)
  | [], _ :: _, h => h.elim
  | _ :: _, [], h => h.elim
theorem Zip.get {G : Hp} : ∀ {Ps : List MP} {vs : List V} {i : Nat} {P : MP}, Zip G Ps vs → Ps[i]? = some P → ∃ v, vs[i]? = some v ∧ P.pr G v
  | [], _, _, _, _, e => by simp at e
  | P :: Ps, v :: vs, 0, P', h, e => by
    have e' : P = P' := Option.some.inj e
    subst e'
    exact ⟨v, rfl, h.1⟩
  | P :: Ps, v :: vs, i + 1, P', h, e => Zip.get (Ps := Ps) (vs := vs) (i := i) h.2 e
  | _ :: _, [], _, _, h, _ => h.elim
theorem Zip.app {G : Hp} : ∀ {Ps Qs : List MP} {vs ws : List V}, Zip G Ps vs → Zip G Qs ws → Zip G (Ps ++ Qs) (vs ++ ws)
  | [], _, [], _, _, k => k
  | P :: Ps, _, v :: vs, _, h, k => ⟨h.1, Zip.app h.2 k⟩
  | [], _, _ :: _, _, h, _ => h.elim
  | _ :: _, _, [], _, h, _ => h.elim
theorem Zip.take {G : Hp} : ∀ {Ps : List MP} {vs : List V} (i : Nat), Zip G Ps vs → Zip G (Ps.take i) (vs.take i)
  | _, _, 0, _ => by simp [Zip]
  | [], [], i + 1, _ => by simp [Zip]
  | P :: Ps, v :: vs, i + 1, h => ⟨h.1, Zip.take i h.2⟩
  | [], _ :: _, _, h => h.elim
  | _ :: _, [], _, h => h.elim
theorem Zip.drop {G : Hp} : ∀ {Ps : List MP} {vs : List V} (i : Nat), Zip G Ps vs → Zip G (Ps.drop i) (vs.drop i)
  | _, _, 0, h => by simpa using h
  | [], [], i + 1, _ => by simp [Zip]
  | P :: Ps, v :: vs, i + 1, h => Zip.drop i h.2
  | [], _ :: _, _, h => h.elim
  | _ :: _, [], _, h => h.elim
theorem Zip.vals {G : Hp} : ∀ xs : List V, Zip G (xs.map mV) xs
  | [] => trivial
  | _ :: xs => ⟨rfl, Zip.vals xs⟩
theorem Zip.of_vals {G : Hp} : ∀ {xs vs : List V}, Zip G (xs.map mV) vs → vs = xs
  | [], [], _ => rfl
  | x :: xs, v :: vs, h => by rw [show v = x from h.1, Zip.of_vals h.2]
  | [], _ :: _, h => h.elim
  | _ :: _, [], h => h.elim
def mL (Ps : List MP) : MP := ⟨fun G v => ∃ a vs, v = .ref a ∧ G a = some (.lst vs) ∧ Zip G Ps vs, fun s ⟨a, vs, e, h, z⟩ => ⟨a, vs, e, s _ _ h, z.mono s⟩⟩
def mT (Ps : List MP) : MP := ⟨fun G v => ∃ a vs, v = .ref a ∧ G a = some (.tup vs) ∧ Zip G Ps vs, fun s ⟨a, vs, e, h, z⟩ => ⟨a, vs, e, s _ _ h, z.mono s⟩⟩
def oL (Ps : List MP) : MO := ⟨fun G _ o => ∃ vs, o = .lst vs ∧ Zip G Ps vs, fun s ⟨vs, e, z⟩ => ⟨vs, e, z.mono s⟩, fun ⟨_, e, _⟩ => by rw [e]; rfl⟩
/-! ### tables of code objects -/
/-- the tables that the law's defs write into, with the name of their code objects -/
class Tz where
  T : List (Addr × Str)
def TabG (G H : Hp) (P : Addr) (q : Str) : Prop := G P = none ∧ ∃ ps : Array Value, H P = some (.tbl ps) ∧ TriplesOk ps.toList ∧ ∀ (pos : Pos) (cv : Value), codeAmong pos ps.toList = some cv → ∃ c, cv = .ref c ∧ G c = some (LamX.CodeO c q)
/-- the interpreter's own dict of modules is known to stand where it stands: nothing new is laid there -/
def SysT (H : Hp) : Prop := ∃ o φ, H sysModules = some (.frz o (.ext φ))
def Tbs [z : Tz] (G H : Hp) : Prop := (∀ t ∈ z.T, TabG G H t.1 t.2) ∧ SysT H
variable [z : Tz]
/-- what stands there is a thing of one's own, if any -/
def NT (H : Hp) (D : Addr) : Prop := ∀ o, H D = some o → isTp o = false
theorem NT.ne {H : Hp} {D a : Addr} {o : HO} (h : NT H D) (e : H a = some o) (t : isTp o = true) : a ≠ D := fun z => by
  have := h o (by rw [← z]; exact e)
  rw [t] at this
  cases this
theorem SysT.ne {H : Hp} {D : Addr} (t : SysT H) (h : NT H D) : sysModules ≠ D := by
  obtain ⟨o, φ, e⟩ := t
  exact h.ne e rfl
theorem SysT.upd {H : Hp} {D : Addr} {u : HO} (t : SysT H) (h : NT H D) : SysT (L2.upd H D u) := by
  have n := t.ne h
  obtain ⟨o, φ, e⟩ := t
  exact ⟨o, φ, by rw [upd_ne n]; exact e⟩
theorem Tbs.updH {G H : Hp} {D : Addr} {u : HO} (t : Tbs G H) (h : NT H D) : Tbs G (upd H D u) := ⟨fun x hx => by
  obtain ⟨g, ps, e, r⟩ := t.1 x hx
  exact ⟨g, ps, by rw [upd_ne (h.ne e rfl)]; exact e, r⟩, t.2.upd h⟩
theorem TabG.updG {G H : Hp} {P D : Addr} {q : Str} {o : HO} (t : TabG G H P q) (g : G D = none) (ne : P ≠ D) : TabG (upd G D o) H P q := by
  obtain ⟨g', ps, e, r1, r2⟩ := t
  refine ⟨by rw [upd_ne ne]; exact g', ps, e, r1, fun pos cv hc => ?_⟩
  obtain ⟨c, e1, e2⟩ := r2 pos cv hc
  exact ⟨c, e1, by rw [upd_ne (ne_of_none e2 g)]; exact e2⟩
theorem no_tbl {H : Hp} {a : Addr} {u : HO} (h : H a = some u) (nt : isTp u = false := by first | rfl | assumption) : NT H a := fun o z => by
  rw [h] at z
  cases z
  exact nt
theorem nt_none {H : Hp} {a : Addr} (h : H a = none) : NT H a := fun o z => by
  rw [h] at z
  cases z
theorem Tbs.updG {G H : Hp} {D : Addr} {o : HO} (t : Tbs G H) (g : G D = none) (h : NT H D) : Tbs (upd G D o) H := ⟨fun x hx => by
  obtain ⟨g', ps, e, r1, r2⟩ := t.1 x hx
  refine ⟨by rw [upd_ne (h.ne e rfl)]; exact g', ps, e, r1, fun pos cv hc => ?_⟩
  obtain ⟨c, e1, e2⟩ := r2 pos cv hc
  exact ⟨c, e1, by rw [upd_ne (ne_of_none e2 g)]; exact e2⟩, t.2⟩
/-! ### the source of draws -/
def PenAt (G H : Hp) (p : Addr) (n : Nat) : Prop := ∃ (q : Addr) (ns : List Int) (pos left : Int), H p = some (.lst [.ref q, .int pos, .int left]) ∧ G q = some (.lst (ns.map V.int)) ∧ 0 ≤ pos ∧ pos ≤ n
structure PenOk (pn : Option Addr) (G H : Hp) (n : Nat) : Prop where
  pen : ∀ p, pn = some p → G p = none ∧ PenAt G H p n
  tab : Tbs G H
instance {pn : Option Addr} {G H : Hp} {n : Nat} : CoeFun (PenOk pn G H n) (fun _ => ∀ p, pn = some p → G p = none ∧ PenAt G H p n) := ⟨PenOk.pen⟩
theorem PenAt.ne {G H : Hp} {p : Addr} {n : Nat} (h : PenAt G H p n) : H p ≠ none := by
  obtain ⟨q, ns, pos, left, h1, _⟩ := h
  rw [h1]
  exact fun z => nomatch z
theorem PenAt.nt {G H : Hp} {p : Addr} {n : Nat} (h : PenAt G H p n) : NT H p := by
  obtain ⟨q, ns, pos, left, h1, _⟩ := h
  exact no_tbl h1
/-! ### steps of the heap -/
/-- a tuple, a table, a word of its own: may be known later -/
def Kn (H : Hp) (b : Addr) : Prop := ∃ o, H b = some o ∧ isTp o = true
structure Stp (pn : Option Addr) (O : List Addr) (G H G' H' : Hp) : Prop where
  gg : Same G G'
  gh : Sm G' H'
  hh : ∀ b o, H b = some o → pn ≠ some b → b ∉ O → (nt : isTb o = false := by first | rfl | assumption | (apply isTb_of; assumption)) → H' b = some o
  nw : ∀ b, G b = none → H b ≠ none → b ∉ O → pn ≠ some b → G' b = none ∨ Kn H b
  ks : ∀ b, H b ≠ none → H' b ≠ none
  tb : ∀ P q, (P, q) ∈ z.T → TabG G H P q → pn ≠ some P → P ∉ O → TabG G' H' P q
section
variable {pn : Option Addr} {O O' : List Addr} {G H G1 H1 G2 H2 : Hp} {n n' : Nat}
/-- a step that leaves all tables as they are -/
theorem Stp.of5 {G' H' : Hp} (h : Same G G' ∧ Sm G' H' ∧ (∀ b o, H b = some o → pn ≠ some b → b ∉ O → H' b = some o) ∧ (∀ b, G b = none → H b ≠ none → b ∉ O → pn ≠ some b → G' b = none ∨ ∃ xs, H b = some (.tup xs)) ∧ ∀ b, H b ≠ none → H' b ≠ none) : Stp pn O G H G' H' := by
  obtain ⟨gg, gh, hh, nw, ks⟩ := h
  refine ⟨gg, gh, fun b o h n1 n2 _ => hh b o h n1 n2, fun b g h n1 n2 => (nw b g h n1 n2).imp id fun ⟨xs, e⟩ => ⟨_, e, rfl⟩, ks, fun P q _ ⟨g, ps, e, r1, r2⟩ n1 n2 => ⟨?_, ps, hh _ _ e n1 n2, r1, fun pos cv hc => ?_⟩⟩
  · exact (nw P g (by rw [e]; exact fun z => nomatch z) n2 n1).resolve_right fun ⟨xs, z⟩ => by rw [e] at z; cases z
  · obtain ⟨c, e1, e2⟩ := r2 pos cv hc
    exact ⟨c, e1, gg _ _ e2⟩
theorem Stp.refl (e : Sm G H) : Stp pn O G H G H := .of5 ⟨.refl _, e, fun _ _ h _ _ => h, fun _ h _ _ _ => .inl h, fun _ h => h⟩
theorem Stp.back {b : Addr} (a : Stp pn O G H G1 H1) (h : H b ≠ none) (n1 : pn ≠ some b) (n2 : b ∉ O) (e : Kn H1 b) : Kn H b := by
  obtain ⟨o', e1, e2⟩ := e
  cases q : H b with
  | none => exact absurd q h
  | some o =>
    cases nt : isTp o with
    | true => exact ⟨o, q, nt⟩
    | false =>
      have := a.hh b o q n1 n2 (isTb_of nt)
      rw [e1] at this
      cases this
      rw [nt] at e2
      cases e2
theorem Stp.trans (a : Stp pn O G H G1 H1) (b : Stp pn O' G1 H1 G2 H2) (ow : ∀ x ∈ O', x ∈ O ∨ H x = none) : Stp pn O G H G2 H2 :=
  ⟨a.gg.trans b.gg, b.gh,
   fun x o h h1 h2 nt => b.hh x o (a.hh x o h h1 h2) h1 fun z => (ow x z).elim h2 fun e => (by rw [e] at h; cases h),
   fun x h h1 h2 h3 => (a.nw x h h1 h2 h3).elim (fun g => (b.nw x g (a.ks x h1) (fun z => (ow x z).elim h2 fun e => h1 e) h3).imp id fun e => a.back h1 h3 h2 e) .inr,
   fun x h => b.ks x (a.ks x h),
   fun P q m t n1 n2 => b.tb P q m (a.tb P q m t n1 n2) n1 fun z => (ow P z).elim n2 fun e => by
     obtain ⟨_, ps, e2, _⟩ := t
     rw [e] at e2
     cases e2⟩
/-- a new object of one's own is one's own no longer -/
theorem Stp.drop {D : Addr} (e : Sm G H) (k : Stp pn [D] G H G1 H1) (h : H D = none) : Stp pn [] G H G1 H1 := (Stp.refl (O := []) e).trans k fun x hx => .inr (by rw [List.mem_singleton.mp hx]; exact h)
/-- a new object that may change, and its maker's changes -/
theorem Stp.pre {D : Addr} {o : HO} (k : Stp pn [D] G (upd H D o) G1 H1) (h : H D = none) : Stp pn [D] G H G1 H1 :=
  ⟨k.gg, k.gh, fun b u e n1 n2 nt => k.hh b u (by rw [upd_ne (fun z => n2 (by simp [z]))]; exact e) n1 n2, fun b e1 e2 e3 e4 => (k.nw b e1 (by rw [upd_ne (fun z => e3 (by simp [z]))]; exact e2) e3 e4).imp id fun ⟨u, e, nt⟩ => ⟨u, by rwa [upd_ne (fun z => e3 (by simp [z]))] at e, nt⟩, fun b e => k.ks b (by
      by_cases z : b = D
      · exact absurd (by rw [z]; exact h) e
      · rw [upd_ne z]; exact e),
   fun P q m ⟨g, ps, e, r⟩ n1 n2 => k.tb P q m ⟨g, ps, by rw [upd_ne (fun z => n2 (by simp [z]))]; exact e, r⟩ n1 n2⟩
/-- one's own object changes -/
theorem Stp.chg {D : Addr} {u : HO} (e : Sm G H) (g : G D = none) (h : H D ≠ none) : Stp pn [D] G H G (upd H D u) :=
  .of5 ⟨.refl _, fun b o e2 => by
    rw [upd_ne (fun z => by rw [z, g] at e2; cases e2)]
    exact e b o e2, fun b o e _ n2 => by rw [upd_ne (fun z => n2 (by simp [z]))]; exact e, fun b e _ _ _ => .inl e, fun b e => by
      by_cases z : b = D
      · rw [z, upd_same]; exact fun z => nomatch z
      · rw [upd_ne z]; exact e⟩
/-- a new object, made, never changes again -/
theorem Stp.commit {D : Addr} {o o2 : HO} {H3 : Hp} (k : Stp pn [D] G H G1 H1) (h : H D = none) (g : G1 D = none) (same : ∀ b, b ≠ D → H3 b = H1 b) (e3 : H3 D = some o2) (sm : o2 = o ∨ ∃ od kvs, o = .dK kvs ∧ o2 = .frz od (.dK kvs)) : Stp pn [] G H (upd G1 D o) H3 := by
  have s : Same G1 (upd G1 D o) := fun b u e => by rw [upd_ne (ne_of_none e g)]; exact e
  refine ⟨k.gg.trans s, fun b u e => ?_, fun b u e n1 _ nt => ?_, fun b e1 e2 _ e4 => ?_, fun b e => ?_, fun P q m t n1 _ => ?_⟩
  · by_cases x : b = D
    · rw [x, upd_same] at e
      cases e
      rw [x, e3]
      rcases sm with rfl | ⟨od, kvs, rfl, rfl⟩
      · exact .inl rfl
      · exact .inr ⟨od, kvs, rfl, rfl⟩
    · rw [upd_ne x] at e
      rw [same b x]
      exact k.gh b u e
  · have nb : b ≠ D := fun z => by rw [z, h] at e; cases e
    rw [same b nb]
    exact k.hh b u e n1 (by simpa using nb)
  · have nb : b ≠ D := fun z => e2 (by rw [z]; exact h)
    rw [upd_ne nb]
    exact k.nw b e1 e2 (by simpa using nb) e4
  · by_cases x : b = D
    · rw [x, e3]; exact fun z => nomatch z
    · rw [same b x]
      exact k.ks b e
  · have nb : P ≠ D := fun z => by
      obtain ⟨_, ps, e, _⟩ := t
      rw [z, h] at e
      cases e
    obtain ⟨g1, ps, e, r1, r2⟩ := k.tb P q m t n1 (by simpa using nb)
    refine ⟨by rw [upd_ne nb]; exact g1, ps, by rw [same P nb]; exact e, r1, fun pos cv hc => ?_⟩
    obtain ⟨c, e1, e2⟩ := r2 pos cv hc
    exact ⟨c, e1, s _ _ e2⟩
theorem Stp.trans0 (a : Stp pn [] G H G1 H1) (b : Stp pn [] G1 H1 G2 H2) : Stp pn [] G H G2 H2 := a.trans b fun _ h => nomatch h
theorem Stp.more (a : Stp pn [] G H G1 H1) : Stp pn O G H G1 H1 := ⟨a.gg, a.gh, fun x o h h1 _ nt => a.hh x o h h1 (fun z => nomatch z), fun x h h1 _ h3 => a.nw x h h1 (fun z => nomatch z) h3, a.ks, fun P q m t n1 _ => a.tb P q m t n1 fun z => nomatch z⟩
/-- what is one's own is nobody else's behind the step -/
theorem Stp.own_none {a : Addr} {u : HO} (k : Stp pn O G H G1 H1) (g : G a = none) (h : H a = some u) (nt : isTp u = false) (np : pn ≠ some a) (no : a ∉ O) : G1 a = none :=
  (k.nw a g (by rw [h]; exact fun z => nomatch z) no np).resolve_right fun ⟨o, e, e2⟩ => by rw [h] at e; cases e; rw [nt] at e2; cases e2
/-- a pure step leaves the source of draws -/
theorem Tbs.step (t : Tbs G H) (k : Stp pn O G H G1 H1) (hp : ∀ p, pn = some p → NT H p) (hO : ∀ a ∈ O, NT H a) : Tbs G1 H1 := by
  refine ⟨fun x hx => ?_, ?_⟩
  · have h := t.1 x hx
    have h2 := h
    obtain ⟨_, ps, e, _⟩ := h2
    exact k.tb x.1 x.2 hx h (fun z => (hp _ z).ne e rfl rfl) fun z => (hO _ z).ne e rfl rfl
  · obtain ⟨o, φ, e⟩ := t.2
    exact ⟨o, φ, k.hh _ _ e (fun z => (hp _ z).ne e rfl rfl) fun z => (hO _ z).ne e rfl rfl⟩
theorem Stp.pure (a : Stp none [] G H G1 H1) (k : PenOk pn G H n) : Stp pn [] G H G1 H1 ∧ PenOk pn G1 H1 n := by
  refine ⟨⟨a.gg, a.gh, fun b o h _ _ nt => a.hh b o h (fun z => nomatch z) (fun z => nomatch z), fun b g h o _ => a.nw b g h o (fun z => nomatch z), a.ks, fun P q m t _ n2 => a.tb P q m t (fun z => nomatch z) n2⟩, fun p hp => ?_, k.tab.step a (fun p z => nomatch z) fun _ z => nomatch z⟩
  obtain ⟨h1, q, ns, pos, left, h2, h3, h4, h5⟩ := k p hp
  exact ⟨a.own_none h1 h2 rfl (fun z => nomatch z) (fun z => nomatch z), q, ns, pos, left, a.hh _ _ h2 (fun z => nomatch z) (fun z => nomatch z), a.gg _ _ h3, h4, h5⟩
theorem PenOk.updH {D : Addr} {u : HO} (p : PenOk pn G H n) (nD : pn ≠ some D) (hD : NT H D) : PenOk pn G (upd H D u) n :=
  ⟨fun a ha => by
    obtain ⟨h1, q', ns, pos, left, h2, h3, h4, h5⟩ := p a ha
    exact ⟨h1, q', ns, pos, left, (by rw [upd_ne (fun z => nD (by rw [ha, z]))]; exact h2), h3, h4, h5⟩, p.tab.updH hD⟩
theorem PenOk.updG {D : Addr} {o : HO} (p : PenOk pn G H n) (nD : pn ≠ some D) (g : G D = none) (hD : NT H D) : PenOk pn (upd G D o) H n :=
  ⟨fun a ha => by
    obtain ⟨h1, q', ns, pos, left, h2, h3, h4, h5⟩ := p a ha
    exact ⟨by rw [upd_ne (fun z => nD (by rw [ha, z]))]; exact h1, q', ns, pos, left, h2, by rw [upd_ne (ne_of_none h3 g)]; exact h3, h4, h5⟩, p.tab.updG g hD⟩
/-- a new object that never changes again -/
theorem Stp.new {l : Addr} {o : HO} (e : Sm G H) (hl : H l = none) : Stp none [] G H (upd G l o) (upd H l o) := by
  have gl : G l = none := e.free hl
  refine .of5 ⟨fun b u h => ?_, fun b u h => ?_, fun b u h _ _ => ?_, fun b h h1 _ _ => .inl ?_, fun b h => ?_⟩
  · rw [upd_ne (ne_of_none h gl)]; exact h
  · by_cases q : b = l
    · subst q; rw [upd_same] at h ⊢; exact .inl h
    · rw [upd_ne q] at h ⊢; exact e _ _ h
  · rw [upd_ne (ne_of_none h hl)]; exact h
  · have q : b ≠ l := fun z => h1 (by rw [z]; exact hl)
    rw [upd_ne q]; exact h
  · have q : b ≠ l := fun z => h (by rw [z]; exact hl)
    rw [upd_ne q]; exact h
/-- a new object that may change -/
theorem Stp.newH {l : Addr} {o : HO} (e : Sm G H) (hl : H l = none) : Stp none [] G H G (upd H l o) := by
  refine .of5 ⟨.refl _, fun b u h => ?_, fun b u h _ _ => ?_, fun b h _ _ _ => .inl h, fun b h => ?_⟩
  · have q : b ≠ l := fun z => e.ne h (by rw [z]; exact hl)
    rw [upd_ne q]; exact e _ _ h
  · rw [upd_ne (ne_of_none h hl)]; exact h
  · have q : b ≠ l := fun z => h (by rw [z]; exact hl)
    rw [upd_ne q]; exact h
end
/-! ### what stands in the slots -/
inductive Sl where
  | no
  | im (P : MP)
  | own (M : MO)
abbrev Gam := List Sl
def SlOk (pn : Option Addr) (G H : Hp) : Sl → Option V → Prop
  | .no, _ => True
  | .im P, o => ∃ v, o = some v ∧ P.pr G v
  | .own M, o => ∃ a u, o = some (.ref a) ∧ H a = some u ∧ G a = none ∧ pn ≠ some a ∧ M.pr G a u
def Slots (pn : Option Addr) (G H : Hp) : Gam → L2.St → Prop
  | [], [] => True
  | s :: Γ, o :: σ => SlOk pn G H s o ∧ Slots pn G H Γ σ
  | [], _ :: _ => False
  | _ :: _, [] => False
def owns : Gam → L2.St → List Addr
  | .own _ :: Γ, some (.ref a) :: σ => a :: owns Γ σ
  | _ :: Γ, _ :: σ => owns Γ σ
  | _, _ => []
structure Env (pn : Option Addr) (G H : Hp) (Γ : Gam) (σ : L2.St) (n : Nat) : Prop where
  gh : Sm G H
  pen : PenOk pn G H n
  sl : Slots pn G H Γ σ
  nd : (owns Γ σ).Nodup
section
variable {pn : Option Addr} {G H G1 H1 G2 H2 : Hp} {Γ : Gam} {σ : L2.St} {n n' : Nat}
theorem Slots.len {Γ : Gam} {σ : L2.St} (h : Slots pn G H Γ σ) : Γ.length = σ.length := by
  induction Γ generalizing σ with
  | nil => cases σ with
    | nil => rfl
    | cons _ _ => exact h.elim
  | cons s Γ ih => cases σ with
    | nil => exact h.elim
    | cons o σ => exact congrArg (· + 1) (ih h.2)
theorem Slots.get : ∀ {Γ : Gam} {σ : L2.St} {i : Nat} {s : Sl}, Slots pn G H Γ σ → Γ[i]? = some s → ∃ o, σ[i]? = some o ∧ SlOk pn G H s o
  | [], _, _, _, _, e => by simp at e
  | s :: Γ, o :: σ, 0, s', h, e => by
    have e' : s = s' := Option.some.inj e
    subst e'
    exact ⟨o, rfl, h.1⟩
  | s :: Γ, o :: σ, i + 1, s', h, e => Slots.get (Γ := Γ) (σ := σ) (i := i) h.2 e
  | _ :: _, [], _, _, h, _ => h.elim
theorem SlOk.step {s : Sl} {o : Option V} (k : Stp pn [] G H G1 H1) (h : SlOk pn G H s o) : SlOk pn G1 H1 s o := by
  cases s with
  | no => trivial
  | im P =>
    obtain ⟨v, e, q⟩ := h
    exact ⟨v, e, P.mono k.gg q⟩
  | own M =>
    obtain ⟨a, u, e, h1, h2, h3, h4⟩ := h
    have nt := M.nt h4
    exact ⟨a, u, e, k.hh a u h1 h3 (fun z => nomatch z), k.own_none h2 h1 (M.nt h4) h3 (fun z => nomatch z), h3, M.mono k.gg h4⟩
theorem Slots.step (k : Stp pn [] G H G1 H1) : ∀ {Γ : Gam} {σ : L2.St}, Slots pn G H Γ σ → Slots pn G1 H1 Γ σ
  | [], [], _ => trivial
  | s :: Γ, o :: σ, h => ⟨h.1.step k, Slots.step k h.2⟩
  | [], _ :: _, h => h.elim
  | _ :: _, [], h => h.elim
theorem Env.step (E : Env pn G H Γ σ n) (k : Stp pn [] G H G1 H1) (p : PenOk pn G1 H1 n') : Env pn G1 H1 Γ σ n' := ⟨k.gh, p, E.sl.step k, E.nd⟩
theorem owns_tracked : ∀ {Γ : Gam} {σ : L2.St}, Slots pn G H Γ σ → ∀ a ∈ owns Γ σ, H a ≠ none ∧ G a = none ∧ pn ≠ some a
  | [], [], _, a, h => by simp [owns] at h
  | .no :: Γ, o :: σ, k, a, h => owns_tracked k.2 a (by simpa [owns] using h)
  | .im P :: Γ, o :: σ, k, a, h => owns_tracked k.2 a (by simpa [owns] using h)
  | .own M :: Γ, o :: σ, k, a, h => by
    obtain ⟨b, u, e, h1, h2, h3, h4⟩ := k.1
    subst e
    have h' : a = b ∨ a ∈ owns Γ σ := by simpa [owns] using h
    rcases h' with rfl | h'
    · exact ⟨(by rw [h1]; exact fun z => nomatch z), h2, h3⟩
    · exact owns_tracked k.2 a h'
  | [], _ :: _, h, _, _ => h.elim
  | _ :: _, [], h, _, _ => h.elim
end
/-! ### what an expression stands for -/
structure Ev (pn : Option Addr) (te : TE) (Γ : Gam) (c : Nat) (S : MP) : Prop where
  run : ∀ {G H : Hp} {σ : L2.St} {n : Nat}, Env pn G H Γ σ n → n + c ≤ lim → ∀ Q : VK,
    (∀ v G' H' n', Stp pn [] G H G' H' → PenOk pn G' H' n' → n' ≤ n + c → S.pr G' v → Q v H') → te σ H Q
structure EvT (pn : Option Addr) (tt : TT) (Γ : Gam) (c : Nat) (P : Bool → Prop) : Prop where
  run : ∀ {G H : Hp} {σ : L2.St} {n : Nat}, Env pn G H Γ σ n → n + c ≤ lim → ∀ Q : Bool → Hp → Prop,
    (∀ b G' H' n', Stp pn [] G H G' H' → PenOk pn G' H' n' → n' ≤ n + c → P b → Q b H') → tt σ H Q
structure EvA (pn : Option Addr) (ta : TA) (Γ : Gam) (c : Nat) (Ps : List MP) : Prop where
  run : ∀ {G H : Hp} {σ : L2.St} {n : Nat}, Env pn G H Γ σ n → n + c ≤ lim → ∀ Q : List V → Hp → Prop,
    (∀ vs G' H' n', Stp pn [] G H G' H' → PenOk pn G' H' n' → n' ≤ n + c → Zip G' Ps vs → Q vs H') → ta σ H Q
structure EvO (pn : Option Addr) (to : TO) (Γ : Gam) (c : Nat) (o : Option Int) : Prop where
  run : ∀ {G H : Hp} {σ : L2.St} {n : Nat}, Env pn G H Γ σ n → n + c ≤ lim → ∀ Q : Option Int → Hp → Prop,
    (∀ G' H' n', Stp pn [] G H G' H' → PenOk pn G' H' n' → n' ≤ n + c → Q o H') → to σ H Q
/-- a new list, still its maker's -/
structure EvN (pn : Option Addr) (te : TE) (Γ : Gam) (c : Nat) (M : MO) : Prop where
  run : ∀ {G H : Hp} {σ : L2.St} {n : Nat}, Env pn G H Γ σ n → n + c ≤ lim → ∀ Q : VK,
    (∀ a u G' H' n', Stp pn [] G H G' H' → PenOk pn G' H' n' → n' ≤ n + c → H a = none → G' a = none → H' a = some u → M.pr G' a u → Q (.ref a) H') → te σ H Q
/-- operations by values -/
structure RV (r : R2) (S1 S2 S : MP) : Prop where
  run : ∀ {G H : Hp} {x y : V}, Sm G H → S1.pr G x → S2.pr G y → ∀ Q : VK, (∀ z G' H', Stp none [] G H G' H' → S.pr G' z → Q z H') → r x y H Q
structure RU (r : V → Hp → VK → Prop) (S1 S : MP) : Prop where
  run : ∀ {G H : Hp} {x : V}, Sm G H → S1.pr G x → ∀ Q : VK, (∀ z G' H', Stp none [] G H G' H' → S.pr G' z → Q z H') → r x H Q
structure RC (r : List V → Hp → VK → Prop) (Ps : List MP) (S : MP) : Prop where
  run : ∀ {G H : Hp} {vs : List V}, Sm G H → Zip G Ps vs → ∀ Q : VK, (∀ z G' H', Stp none [] G H G' H' → S.pr G' z → Q z H') → r vs H Q
section
variable {pn : Option Addr} {Γ : Gam} {c c1 c2 c3 : Nat} {S S1 S2 S3 : MP} {ta tb tc te : TE} {tt tu : TT} {P P1 P2 : Bool → Prop}
theorem Ev.mono (h : Ev pn te Γ c S) (hs : ∀ G v, S.pr G v → S1.pr G v) (hc : c ≤ c1 := by first | exact Nat.le_refl _ | omega) : Ev pn te Γ c1 S1 := .mk fun E l Q q =>
  h.run E (by omega) Q fun v G' H' n' k p ln s => q v G' H' n' k p (by omega) (hs G' v s)
theorem Ev.more (h : Ev pn te Γ c S) (hc : c ≤ c1) : Ev pn te Γ c1 S := h.mono (fun _ _ s => s) hc
theorem ev_var {i : Nat} (h : Γ[i]? = some (.im S)) : Ev pn (tVar i) Γ 0 S := .mk fun E l Q q => by
  obtain ⟨o, ho, v, rfl, hv⟩ := E.sl.get h
  exact ⟨v, ho, q v _ _ _ (.refl E.gh) E.pen (Nat.le_refl _) hv⟩
theorem ev_c {v : V} : Ev pn (tC v) Γ 0 (mV v) := .mk fun E l Q q => q v _ _ _ (.refl E.gh) E.pen (Nat.le_refl _) rfl
theorem ev_op {r : R2} (ha : Ev pn ta Γ c1 S1) (hb : Ev pn tb Γ c2 S2) (hr : RV r S1 S2 S) : Ev pn (tOp r ta tb) Γ (c1 + c2) S := .mk fun E l Q q =>
  ha.run E (by omega) _ fun x G1 H1 n1 k1 p1 l1 s1 => hb.run (E.step k1 p1) (by omega) _ fun y G2 H2 n2 k2 p2 l2 s2 => hr.run k2.gh (S1.mono k2.gg s1) s2 Q fun z G3 H3 k3 s3 => by
    obtain ⟨k4, p4⟩ := k3.pure p2
    exact q z G3 H3 n2 ((k1.trans0 k2).trans0 k4) p4 (by omega) s3
theorem ev_un {r : V → Hp → VK → Prop} (ha : Ev pn ta Γ c S1) (hr : RU r S1 S) : Ev pn (tUn r ta) Γ c S := .mk fun E l Q q =>
  ha.run E l _ fun x G1 H1 n1 k1 p1 l1 s1 => hr.run k1.gh s1 Q fun z G3 H3 k3 s3 => by
    obtain ⟨k4, p4⟩ := k3.pure p1
    exact q z G3 H3 n1 (k1.trans0 k4) p4 l1 s3
theorem ea_nil : EvA pn tNil Γ 0 [] := .mk fun E l Q q => q [] _ _ _ (.refl E.gh) E.pen (Nat.le_refl _) trivial
theorem ea_cons {tr : TA} {Ps : List MP} (ha : Ev pn ta Γ c1 S) (hr : EvA pn tr Γ c2 Ps) : EvA pn (tCons ta tr) Γ (c1 + c2) (S :: Ps) := .mk fun E l Q q =>
  ha.run E (by omega) _ fun x G1 H1 n1 k1 p1 l1 s1 => hr.run (E.step k1 p1) (by omega) _ fun ys G2 H2 n2 k2 p2 l2 s2 => q (x :: ys) G2 H2 n2 (k1.trans0 k2) p2 (by omega) ⟨S.mono k2.gg s1, s2⟩
theorem ev_cb {r : List V → Hp → VK → Prop} {t : TA} {Ps : List MP} (ha : EvA pn t Γ c Ps) (hr : RC r Ps S) : Ev pn (tCB r t) Γ c S := .mk fun E l Q q =>
  ha.run E l _ fun vs G1 H1 n1 k1 p1 l1 s1 => hr.run k1.gh s1 Q fun z G3 H3 k3 s3 => by
    obtain ⟨k4, p4⟩ := k3.pure p1
    exact q z G3 H3 n1 (k1.trans0 k4) p4 l1 s3
theorem small {n : Nat} (h : n ≤ 100000) : n ≤ sizeLine := Nat.le_trans h (by decide)
theorem ev_lst {t : TA} {Ps : List MP} (ha : EvA pn t Γ c Ps) (hl : Ps.length ≤ 100000 := by first | decide | simp) : Ev pn (tLst t) Γ c (mL Ps) := .mk fun E l Q q =>
  ha.run E l _ fun vs G1 H1 n1 k1 p1 l1 s1 => ⟨small (by rw [s1.len]; exact hl), fun a ha' => by
    have k := Stp.new (o := .lst vs) k1.gh ha'
    obtain ⟨k4, p4⟩ := k.pure p1
    exact q (.ref a) _ _ n1 (k1.trans0 k4) p4 l1 ⟨a, vs, rfl, upd_same, s1.mono k.gg⟩⟩
theorem en_lst {t : TA} {Ps : List MP} (ha : EvA pn t Γ c Ps) (hl : Ps.length ≤ 100000 := by first | decide | simp) : EvN pn (tLst t) Γ c (oL Ps) := .mk fun {G H σ n} E l Q q =>
  ha.run E l _ fun vs G1 H1 n1 k1 p1 l1 s1 => ⟨small (by rw [s1.len]; exact hl), fun a ha' => by
    have k := Stp.newH (o := .lst vs) k1.gh ha'
    obtain ⟨k4, p4⟩ := k.pure p1
    have h0 : H a = none := by
      cases e : H a with
      | none => rfl
      | some o => exact absurd ha' (k1.ks a (by rw [e]; exact fun z => nomatch z))
    exact q a _ _ _ n1 (k1.trans0 k4) p4 l1 h0 (k1.gh.free ha') upd_same ⟨vs, rfl, s1⟩⟩
theorem ev_tup {t : TA} {Ps : List MP} (ha : EvA pn t Γ c Ps) (hl : Ps.length ≤ 100000 := by first | decide | simp) : Ev pn (tTup t) Γ c (mT Ps) := .mk fun E l Q q =>
  ha.run E l _ fun vs G1 H1 n1 k1 p1 l1 s1 => ⟨small (by rw [s1.len]; exact hl), fun a ha' => by
    have k := Stp.new (o := .tup vs) k1.gh ha'
    obtain ⟨k4, p4⟩ := k.pure p1
    exact q (.ref a) _ _ n1 (k1.trans0 k4) p4 l1 ⟨a, vs, rfl, upd_same, s1.mono k.gg⟩⟩
/-! tests -/
theorem EvT.mono (h : EvT pn tt Γ c P) (hs : ∀ b, P b → P1 b) (hc : c ≤ c1 := by first | exact Nat.le_refl _ | omega) : EvT pn tt Γ c1 P1 := .mk fun E l Q q =>
  h.run E (by omega) Q fun v G' H' n' k p ln s => q v G' H' n' k p (by omega) (hs v s)
def mBs (P : Bool → Prop) : MP := mEx P fun b => mV (.bl b)
theorem et_test (h : Ev pn te Γ c (mBs P)) : EvT pn (tTest te) Γ c P := .mk fun E l Q q => h.run E l _ fun v G' H' n' k p ln ⟨b, hb, e⟩ => ⟨b, e, q b G' H' n' k p ln hb⟩
theorem et_B (h : Ev pn te Γ c (mBs P)) : EvT pn (tB te) Γ c P := .mk fun E l Q q => h.run E l _ fun v G' H' n' k p ln ⟨b, hb, e⟩ => ⟨b, e, q b G' H' n' k p ln hb⟩
theorem et_not (h : EvT pn tt Γ c P) : EvT pn (tNot tt) Γ c (fun b => P (!b)) := .mk fun E l Q q => h.run E l _ fun b G' H' n' k p ln hb => q (!b) G' H' n' k p ln (by show P (!(!b)); rw [Bool.not_not]; exact hb)
theorem et_and (h1 : EvT pn tt Γ c1 P1) (h2 : P1 true → EvT pn tu Γ c2 P2) : EvT pn (tAnd tt tu) Γ (c1 + c2) (fun b => (b = true ∧ P1 true ∧ P2 true) ∨ (b = false ∧ (P1 false ∨ (P1 true ∧ P2 false)))) := .mk fun E l Q q =>
  h1.run E (by omega) _ fun b G' H' n' k p ln hb => by
    cases b with
    | true =>
      show tu _ H' Q
      exact (h2 hb).run (E.step k p) (by omega) Q fun b2 G2 H2 n2 k2 p2 l2 hb2 => q b2 G2 H2 n2 (k.trans0 k2) p2 (by omega) (by
        cases b2 with
        | true => exact .inl ⟨rfl, hb, hb2⟩
        | false => exact .inr ⟨rfl, .inr ⟨hb, hb2⟩⟩)
    | false =>
      show Q false H'
      exact q false G' H' n' k p (by omega) (.inr ⟨rfl, .inl hb⟩)
theorem et_or (h1 : EvT pn tt Γ c1 P1) (h2 : P1 false → EvT pn tu Γ c2 P2) : EvT pn (tOr tt tu) Γ (c1 + c2) (fun b => (b = true ∧ (P1 true ∨ (P1 false ∧ P2 true))) ∨ (b = false ∧ P1 false ∧ P2 false)) := .mk fun E l Q q =>
  h1.run E (by omega) _ fun b G' H' n' k p ln hb => by
    cases b with
    | false =>
      show tu _ H' Q
      exact (h2 hb).run (E.step k p) (by omega) Q fun b2 G2 H2 n2 k2 p2 l2 hb2 => q b2 G2 H2 n2 (k.trans0 k2) p2 (by omega) (by
        cases b2 with
        | true => exact .inl ⟨rfl, .inr ⟨hb, hb2⟩⟩
        | false => exact .inr ⟨rfl, hb, hb2⟩)
    | true =>
      show Q true H'
      exact q true G' H' n' k p (by omega) (.inl ⟨rfl, .inl hb⟩)
theorem ev_if (ht : EvT pn tt Γ c1 P) (h1 : P true → Ev pn ta Γ c2 S) (h2 : P false → Ev pn tb Γ c2 S) : Ev pn (tIf tt ta tb) Γ (c1 + c2) S := .mk fun E l Q q =>
  ht.run E (by omega) _ fun b G' H' n' k p ln hb => by
    cases b with
    | true =>
      show ta _ H' Q
      exact (h1 hb).run (E.step k p) (by omega) Q fun v G2 H2 n2 k2 p2 l2 s => q v G2 H2 n2 (k.trans0 k2) p2 (by omega) s
    | false =>
      show tb _ H' Q
      exact (h2 hb).run (E.step k p) (by omega) Q fun v G2 H2 n2 k2 p2 l2 s => q v G2 H2 n2 (k.trans0 k2) p2 (by omega) s
theorem ev_notV (h : Ev pn te Γ c (mBs P)) : Ev pn (tNotV te) Γ c (mBs fun b => P (!b)) := .mk fun E l Q q =>
  h.run E l _ fun v G' H' n' k p ln ⟨b, hb, e⟩ => ⟨b, e, q _ G' H' n' k p ln ⟨!b, (by show P (!(!b)); rw [Bool.not_not]; exact hb), rfl⟩⟩
end
end Ev

set_option Elab.async false
set_option linter.all false
set_option maxRecDepth 100000
set_option maxHeartbeats 4000000
/-! Statements, loops, comprehensions, calls: the same by what slots stand for. -/
namespace Ev
open PySem PySem.Spec L2
variable [z : Tz]
section
variable {pn : Option Addr} {O O' : List Addr} {G H G1 H1 G2 H2 : Hp} {Γ Γ1 Γ2 : Gam} {σ σ1 σ2 : L2.St} {n n1 n2 c c1 c2 : Nat}
structure Go (pn : Option Addr) (Γ : Gam) (σ : L2.St) (G H : Hp) (n c : Nat) (Γ' : Gam) (σ' : L2.St) (G' H' : Hp) (n' : Nat) : Prop where
  env : Env pn G' H' Γ' σ' n'
  stp : Stp pn (owns Γ σ) G H G' H'
  le : n' ≤ n + c
  ow : ∀ b ∈ owns Γ' σ', b ∈ owns Γ σ ∨ H b = none
theorem none_back (k : Stp pn O G H G1 H1) {b : Addr} (h : H1 b = none) : H b = none := by
  cases e : H b with
  | none => rfl
  | some o => exact absurd h (k.ks b (by rw [e]; exact fun z => nomatch z))
theorem Go.refl (E : Env pn G H Γ σ n) : Go pn Γ σ G H n 0 Γ σ G H n := ⟨E, .refl E.gh, Nat.le_refl _, fun _ h => .inl h⟩
theorem Go.trans (a : Go pn Γ σ G H n c1 Γ1 σ1 G1 H1 n1) (b : Go pn Γ1 σ1 G1 H1 n1 c2 Γ2 σ2 G2 H2 n2) : Go pn Γ σ G H n (c1 + c2) Γ2 σ2 G2 H2 n2 :=
  ⟨b.env, a.stp.trans b.stp a.ow, by have := a.le; have := b.le; omega, fun x h => (b.ow x h).elim (a.ow x) fun z => .inr (none_back a.stp z)⟩
theorem Go.more (a : Go pn Γ σ G H n c1 Γ1 σ1 G1 H1 n1) (h : c1 ≤ c2) : Go pn Γ σ G H n c2 Γ1 σ1 G1 H1 n1 := ⟨a.env, a.stp, by have := a.le; omega, a.ow⟩
/-- an expression's step, then a state whose makers' objects are some of those -/
theorem Go.of (E : Env pn G H Γ σ n) (k : Stp pn [] G H G1 H1) (l : n1 ≤ n + c) (E1 : Env pn G1 H1 Γ1 σ1 n1) (ow : ∀ b ∈ owns Γ1 σ1, b ∈ owns Γ σ ∨ H b = none) : Go pn Γ σ G H n c Γ1 σ1 G1 H1 n1 := ⟨E1, k.more, l, ow⟩
end
structure Outs where
  nx : Gam → Prop
  rt : MP
  bk : Gam → Prop := fun _ => False
  ct : Gam → Prop := fun _ => False
structure Sx (pn : Option Addr) (ts : TS) (Γ : Gam) (c : Nat) (O : Outs) : Prop where
  run : ∀ {G H : Hp} {σ : L2.St} {n : Nat} (D : Ends), Env pn G H Γ σ n → n + c ≤ lim →
  (∀ Γ' σ' G' H' n', O.nx Γ' → Go pn Γ σ G H n c Γ' σ' G' H' n' → D.nx σ' H') →
  (∀ v G' H' n', Stp pn (owns Γ σ) G H G' H' → PenOk pn G' H' n' → n' ≤ n + c → O.rt.pr G' v → D.rt v H') →
  (∀ Γ' σ' G' H' n', O.bk Γ' → Go pn Γ σ G H n c Γ' σ' G' H' n' → D.bk σ' H') →
  (∀ Γ' σ' G' H' n', O.ct Γ' → Go pn Γ σ G H n c Γ' σ' G' H' n' → D.ct σ' H') → ts D σ H
/-! ### slots stored -/
section
variable {pn : Option Addr} {G H : Hp} {n : Nat}
theorem Slots.set : ∀ {Γ : Gam} {σ : L2.St} {s : Sl} {o : Option V} (i : Nat), Slots pn G H Γ σ → SlOk pn G H s o → Slots pn G H (Γ.set i s) (σ.set i o)
  | [], [], _, _, _, _, _ => trivial
  | s :: Γ, o :: σ, s', o', 0, h, k => ⟨k, h.2⟩
  | s :: Γ, o :: σ, s', o', i + 1, h, k => ⟨h.1, Slots.set i h.2 k⟩
  | [], _ :: _, _, _, _, h, _ => h.elim
  | _ :: _, [], _, _, _, h, _ => h.elim
def Sl.free : Sl → Bool
  | .own _ => false
  | _ => true
theorem owns_cons_free {s : Sl} {Γ : Gam} {o : Option V} {σ : L2.St} (h : s.free = true) : owns (s :: Γ) (o :: σ) = owns Γ σ := by
  cases s with
  | no => simp [owns]
  | im P => simp [owns]
  | own M => cases h
theorem owns_set_free : ∀ {Γ : Gam} {σ : L2.St} {s : Sl} {o : Option V} (i : Nat), Slots pn G H Γ σ → s.free = true → (owns (Γ.set i s) (σ.set i o)).Sublist (owns Γ σ)
  | [], [], _, _, _, _, _ => by simp [owns]
  | t :: Γ, o :: σ, s', o', 0, h, k => by
    show (owns (s' :: Γ) (o' :: σ)).Sublist _
    rw [owns_cons_free k]
    cases t with
    | no => simp [owns]
    | im P => simp [owns]
    | own M =>
      obtain ⟨a, u, e, _⟩ := h.1
      subst e
      simp [owns]
  | t :: Γ, o :: σ, s', o', i + 1, h, k => by
    have ih := owns_set_free (s := s') (o := o') i h.2 k
    show (owns (t :: Γ.set i s') (o :: σ.set i o')).Sublist _
    cases t with
    | no => simpa [owns] using ih
    | im P => simpa [owns] using ih
    | own M =>
      obtain ⟨a, u, e, _⟩ := h.1
      subst e
      simp only [owns]
      exact ih.cons₂ _
  | [], _ :: _, _, _, _, h, _ => h.elim
  | _ :: _, [], _, _, _, h, _ => h.elim
theorem Env.set {Γ : Gam} {σ : L2.St} {s : Sl} {o : Option V} (i : Nat) (E : Env pn G H Γ σ n) (k : SlOk pn G H s o) (hs : s.free = true) : Env pn G H (Γ.set i s) (σ.set i o) n :=
  ⟨E.gh, E.pen, E.sl.set i k, E.nd.sublist (owns_set_free i E.sl hs)⟩
theorem owns_set_own : ∀ {Γ : Gam} {σ : L2.St} {M : MO} {a : Addr} (i : Nat), Slots pn G H Γ σ → ∀ b ∈ owns (Γ.set i (.own M)) (σ.set i (some (.ref a))), b = a ∨ b ∈ owns Γ σ
  | [], [], _, _, _, _, b, h => by simp [owns] at h
  | t :: Γ, o :: σ, M, a, 0, h, b, hb => by
    have hb' : b = a ∨ b ∈ owns Γ σ := by simpa [owns] using hb
    rcases hb' with e | e
    · exact .inl e
    · refine .inr ?_
      cases t with
      | no => simpa [owns] using e
      | im P => simpa [owns] using e
      | own M' =>
        obtain ⟨a', u, e', _⟩ := h.1
        subst e'
        simp only [owns]
        exact List.mem_cons_of_mem _ e
  | t :: Γ, o :: σ, M, a, i + 1, h, b, hb => by
    have ih := owns_set_own (M := M) (a := a) i h.2
    cases t with
    | no => exact (ih b (by simpa [owns] using hb)).imp id fun z => by simpa [owns] using z
    | im P => exact (ih b (by simpa [owns] using hb)).imp id fun z => by simpa [owns] using z
    | own M' =>
      obtain ⟨a', u, e', _⟩ := h.1
      subst e'
      have hb' : b = a' ∨ b ∈ owns (Γ.set i (.own M)) (σ.set i (some (.ref a))) := by simpa [owns] using hb
      rcases hb' with e | e
      · exact .inr (by simp [owns, e])
      · exact (ih b e).imp id fun z => by simp [owns, z]
  | [], _ :: _, _, _, _, h, _, _ => h.elim
  | _ :: _, [], _, _, _, h, _, _ => h.elim
theorem owns_set_nd : ∀ {Γ : Gam} {σ : L2.St} {M : MO} {a : Addr} (i : Nat), Slots pn G H Γ σ → (owns Γ σ).Nodup → a ∉ owns Γ σ → (owns (Γ.set i (.own M)) (σ.set i (some (.ref a)))).Nodup
  | [], [], _, _, _, _, _, _ => by simp [owns]
  | t :: Γ, o :: σ, M, a, 0, h, nd, na => by
    show (owns (.own M :: Γ) (some (.ref a) :: σ)).Nodup
    simp only [owns]
    cases t with
    | no => exact List.nodup_cons.mpr ⟨by simpa [owns] using na, by simpa [owns] using nd⟩
    | im P => exact List.nodup_cons.mpr ⟨by simpa [owns] using na, by simpa [owns] using nd⟩
    | own M' =>
      obtain ⟨a', u, e', _⟩ := h.1
      subst e'
      simp only [owns] at nd na
      exact List.nodup_cons.mpr ⟨fun z => na (List.mem_cons_of_mem _ z), (List.nodup_cons.mp nd).2⟩
  | t :: Γ, o :: σ, M, a, i + 1, h, nd, na => by
    cases t with
    | no => exact owns_set_nd (M := M) i h.2 (by simpa [owns] using nd) (by simpa [owns] using na)
    | im P => exact owns_set_nd (M := M) i h.2 (by simpa [owns] using nd) (by simpa [owns] using na)
    | own M' =>
      obtain ⟨a', u, e', _⟩ := h.1
      subst e'
      simp only [owns] at nd na
      have n1 := List.nodup_cons.mp nd
      show (owns (.own M' :: Γ.set i (.own M)) (some (.ref a') :: σ.set i (some (.ref a)))).Nodup
      simp only [owns]
      refine List.nodup_cons.mpr ⟨fun z => ?_, owns_set_nd (M := M) i h.2 n1.2 fun z => na (List.mem_cons_of_mem _ z)⟩
      rcases owns_set_own (M := M) (a := a) i h.2 a' z with e | e
      · exact na (by rw [e]; exact List.mem_cons_self ..)
      · exact n1.1 e
  | [], _ :: _, _, _, _, h, _, _ => h.elim
  | _ :: _, [], _, _, _, h, _, _ => h.elim
end
/-! ### statements -/
section
variable {pn : Option Addr} {Γ Γ1 : Gam} {c c1 c2 c3 : Nat} {S S1 S2 : MP} {te ta tb : TE} {tt : TT} {t u ts : TS} {O O1 : Outs} {P : Bool → Prop} {K : PySem.W.Frag}
theorem Sx.mono (h : Sx pn ts Γ c O) (hn : ∀ Γ', O.nx Γ' → O1.nx Γ') (hr : ∀ G v, O.rt.pr G v → O1.rt.pr G v) (hb : ∀ Γ', O.bk Γ' → O1.bk Γ') (hct : ∀ Γ', O.ct Γ' → O1.ct Γ') (hc : c ≤ c1) : Sx pn ts Γ c1 O1 := .mk fun D E l q1 q2 q3 q4 =>
  h.run D E (by omega) (fun _ _ _ _ _ a g => q1 _ _ _ _ _ (hn _ a) (g.more hc)) (fun v G' H' n' k p ln s => q2 v G' H' n' k p (by omega) (hr G' v s))
    (fun _ _ _ _ _ a g => q3 _ _ _ _ _ (hb _ a) (g.more hc)) (fun _ _ _ _ _ a g => q4 _ _ _ _ _ (hct _ a) (g.more hc))
theorem Sx.more (h : Sx pn ts Γ c O) (hc : c ≤ c1) : Sx pn ts Γ c1 O := h.mono (fun _ a => a) (fun _ _ a => a) (fun _ a => a) (fun _ a => a) hc
theorem sx_seq (M : Gam → Prop) (h1 : Sx pn t Γ c1 { O with nx := M }) (h2 : ∀ Γ', M Γ' → Sx pn u Γ' c2 O) : Sx pn (tSeq t u) Γ (c1 + c2) O := .mk fun {G H σ n} D E l q1 q2 q3 q4 => by
  refine h1.run { D with nx := u D } E (by omega) (fun Γ' σ' G' H' n' m g => ?_) (fun v G' H' n' k p ln s => q2 v G' H' n' k p (by omega) s) (fun _ _ _ _ _ a g => q3 _ _ _ _ _ a (g.more (by omega))) (fun _ _ _ _ _ a g => q4 _ _ _ _ _ a (g.more (by omega)))
  have ln := g.le
  exact (h2 Γ' m).run D g.env (by omega) (fun _ _ _ _ _ a g2 => q1 _ _ _ _ _ a (g.trans g2)) (fun v G2 H2 n2 k2 p2 l2 s => q2 v G2 H2 n2 (g.stp.trans k2 g.ow) p2 (by omega) s) (fun _ _ _ _ _ a g2 => q3 _ _ _ _ _ a (g.trans g2)) (fun _ _ _ _ _ a g2 => q4 _ _ _ _ _ a (g.trans g2))
/-- the same where the state behind the first is one -/
theorem sx_seq1 (Γ1 : Gam) (h1 : Sx pn t Γ c1 { O with nx := (· = Γ1) }) (h2 : Sx pn u Γ1 c2 O) : Sx pn (tSeq t u) Γ (c1 + c2) O := sx_seq (· = Γ1) h1 fun Γ' e => by rw [e]; exact h2
theorem sx_next (h : O.nx Γ) : Sx pn tNext Γ 0 O := .mk fun D E l q1 q2 q3 q4 => q1 _ _ _ _ _ h (.refl E)
theorem sx_brk (h : O.bk Γ) : Sx pn tBreak Γ 0 O := .mk fun D E l q1 q2 q3 q4 => q3 _ _ _ _ _ h (.refl E)
theorem sx_cont (h : O.ct Γ) : Sx pn tCont Γ 0 O := .mk fun D E l q1 q2 q3 q4 => q4 _ _ _ _ _ h (.refl E)
theorem sx_ret (h : Ev pn te Γ c S) (hs : ∀ G v, S.pr G v → O.rt.pr G v := by intro _ _ h; exact h) : Sx pn (tRet te) Γ c O := .mk fun D E l q1 q2 q3 q4 => h.run E l _ fun v G' H' n' k p ln s => q2 v G' H' n' k.more p ln (hs G' v s)
theorem sx_set {i : Nat} (h : Ev pn te Γ c S) (hn : O.nx (Γ.set i (.im S))) : Sx pn (tAsg te (gName i)) Γ c O := .mk fun {G H σ n} D E l q1 q2 q3 q4 =>
  h.run E l _ fun v G' H' n' k p ln s => q1 _ _ G' H' n' hn (by
    have E' := E.step k p
    exact .of E k ln (E'.set i ⟨v, rfl, s⟩ rfl) fun b hb => .inl ((owns_set_free i E'.sl rfl).subset hb))
theorem sx_set_own {i : Nat} {M : MO} (h : EvN pn te Γ c M) (hn : O.nx (Γ.set i (.own M))) : Sx pn (tAsg te (gName i)) Γ c O := .mk fun {G H σ n} D E l q1 q2 q3 q4 =>
  h.run E l _ fun a u G' H' n' k p ln ha g0 hu s => q1 _ _ G' H' n' hn (by
    have E' := E.step k p
    have na : a ∉ owns Γ σ := fun z => (owns_tracked E.sl a z).1 ha
    have np : pn ≠ some a := fun z => (p a z).2.ne ∘ (fun e => by
      have := (E.pen a z).2.ne
      exact absurd ha this) <| ha
    refine .of E k ln ⟨E'.gh, p, E'.sl.set i ⟨a, u, rfl, hu, g0, np, s⟩, owns_set_nd i E'.sl E'.nd na⟩ fun b hb => ?_
    rcases owns_set_own i E'.sl b hb with e | e
    · exact .inr (by rw [e]; exact ha)
    · exact .inl e)
theorem sx_if (ht : EvT pn tt Γ c1 P) (h1 : P true → Sx pn t Γ c2 O) (h2 : P false → Sx pn u Γ c2 O) : Sx pn (tIfS tt t u) Γ (c1 + c2) O := .mk fun {G H σ n} D E l q1 q2 q3 q4 => by
  refine ht.run E (by omega) _ fun b G' H' n' k p ln hb => ?_
  have g : Go pn Γ σ G H n c1 Γ σ G' H' n' := .of E k ln (E.step k p) fun _ h => .inl h
  have r1 : ∀ Γ2 σ2 G2 H2 n2, O.nx Γ2 → Go pn Γ σ G' H' n' c2 Γ2 σ2 G2 H2 n2 → D.nx σ2 H2 := fun _ _ _ _ _ a g2 => q1 _ _ _ _ _ a (g.trans g2)
  have r2 : ∀ v G2 H2 n2, Stp pn (owns Γ σ) G' H' G2 H2 → PenOk pn G2 H2 n2 → n2 ≤ n' + c2 → O.rt.pr G2 v → D.rt v H2 := fun v G2 H2 n2 k2 p2 l2 s => q2 v G2 H2 n2 (g.stp.trans k2 g.ow) p2 (by omega) s
  have r3 : ∀ Γ2 σ2 G2 H2 n2, O.bk Γ2 → Go pn Γ σ G' H' n' c2 Γ2 σ2 G2 H2 n2 → D.bk σ2 H2 := fun _ _ _ _ _ a g2 => q3 _ _ _ _ _ a (g.trans g2)
  have r4 : ∀ Γ2 σ2 G2 H2 n2, O.ct Γ2 → Go pn Γ σ G' H' n' c2 Γ2 σ2 G2 H2 n2 → D.ct σ2 H2 := fun _ _ _ _ _ a g2 => q4 _ _ _ _ _ a (g.trans g2)
  cases b with
  | true => exact (h1 hb).run D g.env (by omega) r1 r2 r3 r4
  | false => exact (h2 hb).run D g.env (by omega) r1 r2 r3 r4
/-- what a slot stands for may be said more exactly, case by case -/
theorem Slots.im_ex {G H : Hp} : ∀ {Γ : Gam} {σ : L2.St} {i : Nat} {α : Type} {Px : α → Prop} {R : α → MP}, Slots pn G H Γ σ → Γ[i]? = some (.im (mEx Px R)) → ∃ x, Px x ∧ Slots pn G H (Γ.set i (.im (R x))) σ ∧ owns (Γ.set i (.im (R x))) σ = owns Γ σ
  | [], _, _, _, _, _, _, e => by simp at e
  | s :: Γ, o :: σ, 0, _, Px, R, h, e => by
    have e' : s = .im (mEx Px R) := Option.some.inj e
    subst e'
    obtain ⟨v, rfl, x, px, hx⟩ := h.1
    exact ⟨x, px, ⟨⟨v, rfl, hx⟩, h.2⟩, by simp [owns]⟩
  | s :: Γ, o :: σ, i + 1, _, Px, R, h, e => by
    obtain ⟨x, px, h2, h3⟩ := Slots.im_ex (i := i) h.2 (by simpa using e)
    refine ⟨x, px, ⟨h.1, h2⟩, ?_⟩
    show owns (s :: Γ.set i (.im (R x))) (o :: σ) = owns (s :: Γ) (o :: σ)
    cases s with
    | no => simpa [owns] using h3
    | im P => simpa [owns] using h3
    | own M =>
      obtain ⟨a, u, e', _⟩ := h.1
      subst e'
      simp only [owns]
      rw [h3]
  | _ :: _, [], _, _, _, _, h, _ => h.elim
theorem Sx.of_env (h : ∀ {G H : Hp} {σ : L2.St} {n : Nat}, Env pn G H Γ σ n → ∃ Γ1, Sx pn ts Γ1 c O ∧ Env pn G H Γ1 σ n ∧ owns Γ1 σ = owns Γ σ) : Sx pn ts Γ c O := .mk fun {G H σ n} D E l q1 q2 q3 q4 => by
  obtain ⟨Γ1, hs, E1, eo⟩ := h E
  have f : ∀ {Γ2 σ2 G2 H2 n2}, Go pn Γ1 σ G H n c Γ2 σ2 G2 H2 n2 → Go pn Γ σ G H n c Γ2 σ2 G2 H2 n2 := fun g => ⟨g.env, eo ▸ g.stp, g.le, eo ▸ g.ow⟩
  exact hs.run D E1 l (fun _ _ _ _ _ a g => q1 _ _ _ _ _ a (f g)) (fun v G' H' n' k p ln s => q2 v G' H' n' (eo ▸ k) p ln s) (fun _ _ _ _ _ a g => q3 _ _ _ _ _ a (f g)) (fun _ _ _ _ _ a g => q4 _ _ _ _ _ a (f g))
theorem sx_ex {i : Nat} {α : Type} {Px : α → Prop} {R : α → MP} (hi : Γ[i]? = some (.im (mEx Px R))) (h : ∀ x, Px x → Sx pn ts (Γ.set i (.im (R x))) c O) : Sx pn ts Γ c O := by
  refine Sx.of_env fun E => ?_
  obtain ⟨x, px, h2, h3⟩ := E.sl.im_ex hi
  exact ⟨_, h x px, ⟨E.gh, E.pen, h2, by rw [h3]; exact E.nd⟩, h3⟩
theorem Slots.im_to {G H : Hp} : ∀ {Γ : Gam} {σ : L2.St} {i : Nat} {S S1 : MP}, Slots pn G H Γ σ → Γ[i]? = some (.im S) → (∀ v, S.pr G v → S1.pr G v) → Slots pn G H (Γ.set i (.im S1)) σ ∧ owns (Γ.set i (.im S1)) σ = owns Γ σ
  | [], _, _, _, _, _, e, _ => by simp at e
  | s :: Γ, o :: σ, 0, S, S1, h, e, f => by
    have e' : s = .im S := Option.some.inj e
    subst e'
    obtain ⟨v, rfl, hv⟩ := h.1
    exact ⟨⟨⟨v, rfl, f v hv⟩, h.2⟩, by simp [owns]⟩
  | s :: Γ, o :: σ, i + 1, S, S1, h, e, f => by
    obtain ⟨h2, h3⟩ := Slots.im_to (i := i) h.2 (by simpa using e) f
    refine ⟨⟨h.1, h2⟩, ?_⟩
    show owns (s :: Γ.set i (.im S1)) (o :: σ) = owns (s :: Γ) (o :: σ)
    cases s with
    | no => simpa [owns] using h3
    | im P => simpa [owns] using h3
    | own M =>
      obtain ⟨a, u, e', _⟩ := h.1
      subst e'
      simp only [owns]
      rw [h3]
  | _ :: _, [], _, _, _, h, _, _ => h.elim
theorem sx_im {i : Nat} (S S1 : MP) (hi : Γ[i]? = some (.im S)) (f : ∀ G v, S.pr G v → S1.pr G v) (h : Sx pn ts (Γ.set i (.im S1)) c O) : Sx pn ts Γ c O := by
  refine Sx.of_env fun {G H σ n} E => ?_
  obtain ⟨h2, h3⟩ := E.sl.im_to hi (f G)
  exact ⟨_, h, ⟨E.gh, E.pen, h2, by rw [h3]; exact E.nd⟩, h3⟩
end
end Ev

set_option Elab.async false
set_option linter.all false
set_option maxRecDepth 100000
set_option maxHeartbeats 4000000
/-! What is walked; targets; for; comprehensions; calls and defs. -/
namespace Ev
open PySem PySem.Spec L2
variable [z : Tz]
/-! ### what is walked -/
structure Its (J : It) (G0 : Hp) (Ps : List MP) : Prop where
  go : ∀ {G H : Hp} {i : Nat}, Same G0 G → Sm G H → i < Ps.length → J.go i H
  yld : ∀ {G H : Hp} {i : Nat} {x : V} {H' : Hp} {P : MP}, Same G0 G → Sm G H → Ps[i]? = some P → J.yld i H x H' → ∃ G', Stp none [] G H G' H' ∧ P.pr G' x
  stop : ∀ {G H : Hp} {i : Nat}, Same G0 G → Sm G H → Ps.length ≤ i → J.stop i H
structure EvI (pn : Option Addr) (wi : TI) (Γ : Gam) (c : Nat) (L : List MP → Prop) : Prop where
  run : ∀ {G H : Hp} {σ : L2.St} {n : Nat}, Env pn G H Γ σ n → n + c ≤ lim → ∀ R : It → Hp → Prop,
    (∀ J G' H' n' Ps, Stp pn [] G H G' H' → PenOk pn G' H' n' → n' ≤ n + c → L Ps → Its J G' Ps → R J H') → wi σ H R
section
variable {pn : Option Addr} {Γ Γ1 : Gam} {c c1 c2 : Nat} {S S1 S2 : MP} {te tl : TE} {ta : TA} {tt : TT} {K : PySem.W.Frag} {Ps : List MP}
theorem its_list {G0 : Hp} {a : Addr} {vs : List V} (h : G0 a = some (.lst vs)) (z : Zip G0 Ps vs) : Its (Itl K a) G0 Ps := by
  have e := z.len
  refine ⟨fun {G H i} s k hi => ?_, fun {G H i x H' P} s k hP hy => ?_, fun {G H i} s k hi => ?_⟩
  · exact ⟨vs, vs[i], SqL.of (k.x (s _ _ h)), List.getElem?_eq_getElem (by omega)⟩
  · obtain ⟨rfl, f⟩ := hy
    obtain ⟨v, hv, pv⟩ := (z.mono s).get hP
    have q := f vs (SqL.of (k.x (s _ _ h)))
    rw [hv] at q
    cases q
    exact ⟨G, .refl k, pv⟩
  · exact ⟨vs, SqL.of (k.x (s _ _ h)), by omega⟩
theorem its_tup {G0 : Hp} {a : Addr} {vs : List V} (h : G0 a = some (.tup vs)) (z : Zip G0 Ps vs) : Its (Itt K a) G0 Ps := by
  have e := z.len
  refine ⟨fun {G H i} s k hi => ?_, fun {G H i x H' P} s k hP hy => ?_, fun {G H i} s k hi => ?_⟩
  · exact ⟨vs, vs[i], SqT.of (k.x (s _ _ h)), List.getElem?_eq_getElem (by omega)⟩
  · obtain ⟨rfl, f⟩ := hy
    obtain ⟨v, hv, pv⟩ := (z.mono s).get hP
    have q := f vs (SqT.of (k.x (s _ _ h)))
    rw [hv] at q
    cases q
    exact ⟨G, .refl k, pv⟩
  · exact ⟨vs, SqT.of (k.x (s _ _ h)), by omega⟩
def rngPs (lo : Int) (n : Nat) : List MP := (List.range n).map fun i => mV (.int (lo + (i : Nat)))
theorem its_rng {G0 : Hp} (lo : Int) (n : Nat) : Its (Itr lo n) G0 (rngPs lo n) := by
  have e : (rngPs lo n).length = n := by unfold rngPs; rw [List.length_map, List.length_range]
  refine ⟨fun {G H i} s k hi => ?_, fun {G H i x H' P} s k hP hy => ?_, fun {G H i} s k hi => ?_⟩
  · show i < n
    omega
  · obtain ⟨rfl, rfl⟩ := hy
    have hi : i < n := by
      have := (List.getElem?_eq_some_iff.mp hP).1
      omega
    have : (rngPs lo n)[i]? = some (mV (.int (lo + (i : Nat)))) := by unfold rngPs; rw [List.getElem?_map, List.getElem?_range hi]; rfl
    rw [this] at hP
    cases hP
    exact ⟨G, .refl k, rfl⟩
  · show n ≤ i
    omega
def enumFrom : Nat → List MP → List MP
  | _, [] => []
  | i, P :: Ps => mT [mV (.int (i : Nat)), P] :: enumFrom (i + 1) Ps
theorem enum_len : ∀ (i : Nat) (Ps : List MP), (enumFrom i Ps).length = Ps.length
  | _, [] => rfl
  | i, P :: Ps => congrArg (· + 1) (enum_len (i + 1) Ps)
theorem enum_get : ∀ (i : Nat) (Ps : List MP) (j : Nat), (enumFrom i Ps)[j]? = Ps[j]?.map fun P => mT [mV (.int ((i + j : Nat))), P]
  | _, [], j => by simp [enumFrom]
  | i, P :: Ps, 0 => by simp [enumFrom]
  | i, P :: Ps, j + 1 => by
    rw [show (enumFrom i (P :: Ps))[j + 1]? = (enumFrom (i + 1) Ps)[j]? from rfl, enum_get (i + 1) Ps j, show i + 1 + j = i + (j + 1) by omega]
    rfl
theorem its_enum {G0 : Hp} {a : Addr} {vs : List V} (h : G0 a = some (.lst vs)) (z : Zip G0 Ps vs) : Its (Ite K a) G0 (enumFrom 0 Ps) := by
  have e := z.len
  have el := enum_len 0 Ps
  refine ⟨fun {G H i} s k hi => ?_, fun {G H i x H' P} s k hP hy => ?_, fun {G H i} s k hi => ?_⟩
  · exact ⟨vs, vs[i], SqL.of (k.x (s _ _ h)), List.getElem?_eq_getElem (by omega)⟩
  · obtain ⟨T, y, rfl, hT, rfl, f⟩ := hy
    rw [enum_get] at hP
    cases eP : Ps[i]? with
    | none => rw [eP] at hP; cases hP
    | some P0 =>
      rw [eP] at hP
      cases hP
      obtain ⟨v, hv, pv⟩ := (z.mono s).get eP
      have q := f vs (SqL.of (k.x (s _ _ h)))
      obtain rfl : y = v := Option.some.inj (q.symm.trans hv)
      have st := Stp.new (o := .tup [.int (i : Nat), y]) k hT
      refine ⟨_, st, T, [.int (i : Nat), y], rfl, upd_same, ?_, P0.mono st.gg pv, trivial⟩
      show V.int (i : Nat) = V.int ((0 + i : Nat))
      rw [Nat.zero_add]
  · exact ⟨vs, SqL.of (k.x (s _ _ h)), by omega⟩
theorem zip1 {G : Hp} {S : MP} : ∀ {vs : List V}, Zip G [S] vs → ∃ v, vs = [v] ∧ S.pr G v
  | [], h => h.elim
  | [v], h => ⟨v, rfl, h.1⟩
  | _ :: _ :: _, h => h.2.elim
theorem ei_list (h : Ev pn tl Γ c (mL Ps)) : EvI pn (iList K tl) Γ c (· = Ps) := .mk fun E l R r =>
  h.run E l _ fun v G' H' n' k p ln ⟨a, vs, e, hq, z⟩ => ⟨a, e, ⟨vs, SqL.of (k.gh.x hq)⟩, r _ G' H' n' Ps k p ln rfl (its_list hq z)⟩
theorem ei_listx {L : List MP → Prop} (h : Ev pn tl Γ c (mEx L (mL))) : EvI pn (iList K tl) Γ c L := .mk fun E l R r =>
  h.run E l _ fun v G' H' n' k p ln ⟨Ps, hL, a, vs, e, hq, z⟩ => ⟨a, e, ⟨vs, SqL.of (k.gh.x hq)⟩, r _ G' H' n' Ps k p ln hL (its_list hq z)⟩
theorem ei_tup (h : Ev pn tl Γ c (mT Ps)) : EvI pn (iTup K tl) Γ c (· = Ps) := .mk fun E l R r =>
  h.run E l _ fun v G' H' n' k p ln ⟨a, vs, e, hq, z⟩ => ⟨a, e, ⟨vs, SqT.of (k.gh.x hq)⟩, r _ G' H' n' Ps k p ln rfl (its_tup hq z)⟩
theorem ei_rng1 {Px : Int → Prop} (h : EvA pn ta Γ c [mInts Px]) (hP : ∀ j, Px j → -(2 ^ 62) ≤ j ∧ j < 2 ^ 62) : EvI pn (iRng1 ta) Γ c (fun Ps => ∃ j, Px j ∧ Ps = rngPs 0 j.toNat) := by
  refine .mk fun {G H σ n} E l R r => ?_
  refine h.run E l _ fun vs G' H' n' k p ln z => ?_
  obtain ⟨v, e, j, hj, e'⟩ := zip1 z
  obtain ⟨h1, h2⟩ := hP j hj
  refine ⟨j, ?_, h1, h2, r _ G' H' n' _ k p ln ⟨j, hj, rfl⟩ (its_rng 0 j.toNat)⟩
  rw [e, show v = V.int j from e']
theorem ei_enum (h : EvA pn ta Γ c [mL Ps]) : EvI pn (iEnum K ta) Γ c (· = enumFrom 0 Ps) := by
  refine .mk fun {G H σ n} E l R r => ?_
  refine h.run E l _ fun vs G' H' n' k p ln z => ?_
  obtain ⟨v, e, a, ws, e', hq, z⟩ := zip1 z
  refine ⟨a, ws, ?_, SqL.of (k.gh.x hq), r _ G' H' n' _ k p ln rfl (its_enum hq z)⟩
  rw [e, show v = V.ref a from e']
/-! ### targets -/
theorem wipe_set {x y : Option V} {i : Nat} : ∀ (vs : List Nat) (σ : L2.St), (wipe (σ.set i x) vs).set i y = (wipe σ vs).set i y
  | [], σ => by simp [wipe]
  | v :: vs, σ => by
    show ((wipe (σ.set i x) vs).set v none).set i y = ((wipe σ vs).set v none).set i y
    by_cases e : v = i
    · subst e
      have := wipe_set (x := x) (y := none) (i := v) vs σ
      rw [this]
    · rw [List.set_comm _ _ e, List.set_comm _ _ e, wipe_set vs σ]
theorem wipe_in {x : Option V} {i : Nat} : ∀ (vs : List Nat) (σ : L2.St), i ∈ vs → wipe (σ.set i x) vs = wipe σ vs
  | [], σ, h => by simp at h
  | v :: vs, σ, h => by
    show (wipe (σ.set i x) vs).set v none = (wipe σ vs).set v none
    by_cases e : v = i
    · subst e
      exact wipe_set vs σ
    · rw [wipe_in vs σ ((List.mem_cons.mp h).resolve_left fun z => e z.symm)]
theorem wipe_set_none {v : Nat} : ∀ (vs : List Nat) (σ : L2.St), wipe (σ.set v none) vs = (wipe σ vs).set v none
  | [], σ => rfl
  | u :: vs, σ => by
    show (wipe (σ.set v none) vs).set u none = ((wipe σ vs).set u none).set v none
    rw [wipe_set_none vs σ]
    by_cases e : u = v
    · rw [e]
    · rw [List.set_comm _ _ e]
theorem wipe_wipe : ∀ (vs : List Nat) (σ : L2.St), wipe (wipe σ vs) vs = wipe σ vs
  | [], σ => rfl
  | v :: vs, σ => by
    show (wipe ((wipe σ vs).set v none) vs).set v none = (wipe σ vs).set v none
    rw [wipe_set, wipe_wipe vs σ]
def wipeG (Γ : Gam) : List Nat → Gam
  | [] => Γ
  | v :: vs => (wipeG Γ vs).set v .no
theorem Env.wipe {G H : Hp} {σ : L2.St} {n : Nat} (E : Env pn G H Γ σ n) : ∀ vs : List Nat, Env pn G H (wipeG Γ vs) (L2.wipe σ vs) n ∧ (owns (wipeG Γ vs) (L2.wipe σ vs)).Sublist (owns Γ σ)
  | [] => ⟨E, .refl _⟩
  | v :: vs => by
    obtain ⟨E', s⟩ := E.wipe vs
    exact ⟨E'.set v (s := .no) (o := none) trivial rfl, (owns_set_free v E'.sl rfl).trans s⟩
structure Gx (pn : Option Addr) (g : TG) (Γ : Gam) (S : MP) (Γ1 : Gam) (ts : List Nat) : Prop where
  run : ∀ {G H : Hp} {σ : L2.St} {n : Nat} {v : V}, Env pn G H Γ σ n → S.pr G v → ∀ Q : L2.St → Hp → Prop,
  (∀ σ', Env pn G H Γ1 σ' n → (∀ b ∈ owns Γ1 σ', b ∈ owns Γ σ) → (∀ vs : List Nat, (∀ t ∈ ts, t ∈ vs) → L2.wipe σ' vs = L2.wipe σ vs) → Q σ' H) → g v σ H Q
structure Gxs (pn : Option Addr) (g : TGs) (Γ : Gam) (Ss : List MP) (Γ1 : Gam) (ts : List Nat) : Prop where
  run : ∀ {G H : Hp} {σ : L2.St} {n : Nat} {ws : List V}, Env pn G H Γ σ n → Zip G Ss ws → ∀ Q : L2.St → Hp → Prop,
  (∀ σ', Env pn G H Γ1 σ' n → (∀ b ∈ owns Γ1 σ', b ∈ owns Γ σ) → (∀ vs : List Nat, (∀ t ∈ ts, t ∈ vs) → L2.wipe σ' vs = L2.wipe σ vs) → Q σ' H) → g ws σ H Q
theorem gx_name {i : Nat} : Gx pn (gName i) Γ S (Γ.set i (.im S)) [i] := .mk fun {G H σ n v} E s Q q =>
  q _ (E.set i ⟨v, rfl, s⟩ rfl) (fun b hb => (owns_set_free i E.sl rfl).subset hb) fun vs h => wipe_in vs σ (h i (by simp))
theorem gxs_nil : Gxs pn gNil Γ [] Γ [] := .mk fun {G H σ n ws} E z Q q => by
  match ws, z with
  | [], _ => exact ⟨rfl, q σ E (fun _ h => h) fun _ _ => rfl⟩
theorem gxs_cons {t : TG} {u : TGs} {Ss : List MP} {Γ2 : Gam} {t1 t2 : List Nat} (h1 : Gx pn t Γ S Γ1 t1) (h2 : Gxs pn u Γ1 Ss Γ2 t2) : Gxs pn (gCons t u) Γ (S :: Ss) Γ2 (t1 ++ t2) := .mk fun {G H σ n ws} E z Q q => by
  match ws, z with
  | w :: ws, z =>
    refine ⟨w, ws, rfl, h1.run E z.1 _ fun σ1 E1 o1 w1 => h2.run E1 z.2 Q fun σ2 E2 o2 w2 => q σ2 E2 (fun b hb => o1 b (o2 b hb)) fun vs hv => ?_⟩
    rw [w2 vs fun t ht => hv t (List.mem_append_right _ ht), w1 vs fun t ht => hv t (List.mem_append_left _ ht)]
theorem gx_tup {t : TGs} {k : Nat} {ts : List Nat} (h : Gxs pn t Γ Ps Γ1 ts) (hk : Ps.length = k) : Gx pn (gTup K k t) Γ (mT Ps) Γ1 ts := .mk fun {G H σ n v} E s Q q => by
  obtain ⟨a, vs, rfl, hq, z⟩ := s
  exact ⟨a, vs, rfl, SqT.of (E.gh.x hq), by rw [z.len, hk], h.run E z Q q⟩
end
end Ev

set_option Elab.async false
set_option linter.all false
set_option maxRecDepth 100000
set_option maxHeartbeats 4000000
/-! What is walked; targets; for; comprehensions; calls and defs. -/
namespace Ev
open PySem PySem.Spec L2
variable [z : Tz]
section
variable {pn : Option Addr} {Γ Γ1 : Gam} {c c1 c2 : Nat} {S S1 S2 : MP} {te tl : TE} {ta : TA} {tt : TT} {K : PySem.W.Frag} {Ps : List MP}
/-! ### for -/
theorem sx_for {wi : TI} {g : TG} {body : TS} {L : List MP → Prop} {O : Outs} (hi : EvI pn wi Γ c1 L) (cb m : Nat)
    (h : ∀ Ps, L Ps → Ps.length ≤ m ∧ ∃ I : Nat → Gam → Prop, I 0 Γ ∧ (∀ i P Γ', Ps[i]? = some P → I i Γ' → ∃ Γ1 ts, Gx pn g Γ' P Γ1 ts ∧ Sx pn body Γ1 cb ⟨I (i + 1), O.rt, O.nx, I (i + 1)⟩) ∧ ∀ Γ', I Ps.length Γ' → O.nx Γ') :
    Sx pn (tFor wi g body) Γ (c1 + m * cb) O := .mk fun {G H σ n} D E l q1 q2 q3 q4 =>
  hi.run E (by omega) _ fun J G1 H1 n1 Ps k p ln hL it => by
    obtain ⟨hm, I, h0, hs, hd⟩ := h Ps hL
    have E1 := E.step k p
    have g1 : Go pn Γ σ G H n c1 Γ σ G1 H1 n1 := .of E k ln E1 fun _ h => .inl h
    refine ⟨fun i m' σ' H' => m' = Ps.length - i ∧ i ≤ Ps.length ∧ ∃ Γ' G' n', I i Γ' ∧ Go pn Γ σ G1 H1 n1 (i * cb) Γ' σ' G' H' n', ⟨Ps.length, by simp, Nat.zero_le _, Γ, G1, n1, h0, (Go.refl E1).more (Nat.zero_le _)⟩, ?_⟩
    rintro i m' σ' H' ⟨rfl, hi', Γ', G', n', hI, g2⟩
    have s1 : Same G1 G' := g2.stp.gg
    by_cases lt : i < Ps.length
    · refine .inr ⟨it.go s1 g2.env.gh lt, fun σ2 H2 => ∃ Γ2 G2 n2, I (i + 1) Γ2 ∧ Go pn Γ σ G1 H1 n1 ((i + 1) * cb) Γ2 σ2 G2 H2 n2, fun σ2 H2 ⟨Γ2, G2, n2, a, b⟩ => ⟨Ps.length - (i + 1), by omega, rfl, lt, Γ2, G2, n2, a, b⟩, fun x H2 hy => ?_⟩
      have eP : Ps[i]? = some Ps[i] := List.getElem?_eq_getElem lt
      obtain ⟨G2, k2, px⟩ := it.yld s1 g2.env.gh eP hy
      obtain ⟨k3, p3⟩ := k2.pure g2.env.pen
      have E2 := g2.env.step k3 p3
      have g3 : Go pn Γ' σ' G' H' n' 0 Γ' σ' G2 H2 n' := .of g2.env k3 (Nat.le_refl _) E2 fun _ h => .inl h
      obtain ⟨Γ3, ts, hg, hb⟩ := hs i Ps[i] Γ' eP hI
      refine hg.run E2 px _ fun σ3 E3 o3 _ => ?_
      have g4 : Go pn Γ' σ' G2 H2 n' 0 Γ3 σ3 G2 H2 n' := ⟨E3, .refl E2.gh, Nat.le_refl _, fun b hb => .inl (o3 b hb)⟩
      have g5 := (g2.trans g3).trans g4
      have ei : i * cb + 0 + 0 + cb = (i + 1) * cb := by rw [Nat.add_mul]; omega
      have le1 := Nat.mul_le_mul_right cb hm
      have le2 : (i + 1) * cb ≤ Ps.length * cb := Nat.mul_le_mul_right cb lt
      have ln2 := g2.le
      have tot : n' + cb ≤ lim := by
        have : (i + 1) * cb = i * cb + cb := by rw [Nat.add_mul]; omega
        omega
      refine hb.run _ E3 tot (fun Γ4 σ4 G4 H4 n4 a g => ⟨Γ4, G4, n4, a, ei ▸ g5.trans g⟩) (fun v G4 H4 n4 k4 p4 l4 s => ?_) (fun Γ4 σ4 G4 H4 n4 a g => ?_) (fun Γ4 σ4 G4 H4 n4 a g => ⟨Γ4, G4, n4, a, ei ▸ g5.trans g⟩)
      · have g6 := g1.trans g5
        exact q2 v G4 H4 n4 (g6.stp.trans k4 g6.ow) p4 (by have := g6.le; have : (i + 1) * cb = i * cb + cb := (by rw [Nat.add_mul]; omega); omega) s
      · exact q1 _ _ _ _ _ a (((g1.trans g5).trans g).more (by have : (i + 1) * cb = i * cb + cb := (by rw [Nat.add_mul]; omega); omega))
    · have e : i = Ps.length := by omega
      subst e
      exact .inl ⟨it.stop s1 g2.env.gh (Nat.le_refl _), q1 _ _ _ _ _ (hd _ hI) ((g1.trans g2).more (by have := Nat.mul_le_mul_right cb hm; omega))⟩
theorem take_succ {α : Type} {xs : List α} {i : Nat} {x : α} (h : xs[i]? = some x) : xs.take (i + 1) = xs.take i ++ [x] := by
  rw [List.take_succ, h]
  rfl
theorem split_at {α : Type} {xs : List α} {i : Nat} {x : α} (h : xs[i]? = some x) : xs = xs.take i ++ x :: xs.drop (i + 1) := by
  obtain ⟨hi, e⟩ := List.getElem?_eq_some_iff.mp h
  rw [← e, ← List.drop_eq_getElem_cons hi, List.take_append_drop]
/-- over what stands for a list of Lean's -/
theorem sx_forL {α : Type} {xs : List α} {R : α → MP} {wi : TI} {g : TG} {body : TS} {O : Outs} (hi : EvI pn wi Γ c1 (· = xs.map R)) (cb : Nat) (I : List α → Gam → Prop) (h0 : I [] Γ)
    (hs : ∀ pre x post Γ', xs = pre ++ x :: post → I pre Γ' → ∃ Γ1 ts, Gx pn g Γ' (R x) Γ1 ts ∧ Sx pn body Γ1 cb ⟨I (pre ++ [x]), O.rt, O.nx, I (pre ++ [x])⟩) (hd : ∀ Γ', I xs Γ' → O.nx Γ') :
    Sx pn (tFor wi g body) Γ (c1 + xs.length * cb) O := by
  refine sx_for hi cb xs.length fun Ps e => ?_
  subst e
  refine ⟨by simp, fun i Γ' => I (xs.take i) Γ', by simpa using h0, fun i P Γ' hP hI => ?_, fun Γ' hI => hd Γ' (by simpa using hI)⟩
  rw [List.getElem?_map] at hP
  cases ex : xs[i]? with
  | none => rw [ex] at hP; cases hP
  | some x =>
    rw [ex] at hP
    cases hP
    show ∃ Γ1 ts, Gx pn g Γ' (R x) Γ1 ts ∧ Sx pn body Γ1 cb ⟨I (xs.take (i + 1)), O.rt, O.nx, I (xs.take (i + 1))⟩
    rw [take_succ ex]
    exact hs (xs.take i) x (xs.drop (i + 1)) Γ' (split_at ex) hI
end
end Ev

set_option Elab.async false
set_option linter.all false
set_option maxRecDepth 100000
set_option maxHeartbeats 4000000
/-! What is walked; targets; for; comprehensions; calls and defs. -/
namespace Ev
open PySem PySem.Spec L2
variable [z : Tz]
section
variable {pn : Option Addr} {Γ Γ1 : Gam} {c c1 c2 : Nat} {S S1 S2 : MP} {te tl : TE} {ta : TA} {tt : TT} {K : PySem.W.Frag} {Ps : List MP}
/-! ### comprehensions -/
def oEx {α : Type} (P : α → Prop) (R : α → MO) : MO := ⟨fun G a o => ∃ x, P x ∧ (R x).pr G a o, fun s ⟨x, p, h⟩ => ⟨x, p, (R x).mono s h⟩, fun ⟨x, _, h⟩ => (R x).nt h⟩
theorem SlOk.stepO {O : List Addr} {G H G1 H1 : Hp} {s : Sl} {o : Option V} (k : Stp pn O G H G1 H1) (h : SlOk pn G H s o) (ho : ∀ M a, s = .own M → o = some (.ref a) → a ∉ O) : SlOk pn G1 H1 s o := by
  cases s with
  | no => trivial
  | im P =>
    obtain ⟨v, e, q⟩ := h
    exact ⟨v, e, P.mono k.gg q⟩
  | own M =>
    obtain ⟨a, u, e, h1, h2, h3, h4⟩ := h
    have nt := M.nt h4
    exact ⟨a, u, e, k.hh a u h1 h3 (ho M a rfl e), k.own_none h2 h1 (M.nt h4) h3 (ho M a rfl e), h3, M.mono k.gg h4⟩
theorem Slots.stepO {O : List Addr} {G H G1 H1 : Hp} (k : Stp pn O G H G1 H1) : ∀ {Γ : Gam} {σ : L2.St}, Slots pn G H Γ σ → (∀ a ∈ owns Γ σ, a ∉ O) → Slots pn G1 H1 Γ σ
  | [], [], _, _ => trivial
  | s :: Γ, o :: σ, h, ho => by
    refine ⟨h.1.stepO k fun M a e1 e2 => ?_, Slots.stepO k h.2 fun a ha => ho a ?_⟩
    · subst e1
      subst e2
      exact ho a (by simp [owns])
    · cases s with
      | no => simpa [owns] using ha
      | im P => simpa [owns] using ha
      | own M =>
        obtain ⟨b, u, e, _⟩ := h.1
        subst e
        simp [owns, ha]
  | [], _ :: _, h, _ => h.elim
  | _ :: _, [], h, _ => h.elim
theorem en_lc {wi : TI} {g : TG} {tt : TT} {te : TE} {vs : List Nat} {L : List MP → Prop} {M : MO} (hi : EvI pn wi Γ c1 L) (ct ce m : Nat) (hm : m ≤ 100000)
    (h : ∀ Ps, L Ps → Ps.length ≤ m ∧ ∃ A : Nat → List MP → Prop, A 0 [] ∧
      (∀ i P acc, Ps[i]? = some P → A i acc → ∃ Γ1 ts Pb, Gx pn g (wipeG Γ vs) P Γ1 ts ∧ (∀ t ∈ ts, t ∈ vs) ∧ EvT pn tt Γ1 ct Pb ∧ (Pb false → A (i + 1) acc) ∧ (Pb true → ∃ S, Ev pn te Γ1 ce S ∧ A (i + 1) (acc ++ [S]))) ∧
      (∀ acc, A Ps.length acc → ∀ G a o, (oL acc).pr G a o → M.pr G a o)) : EvN pn (tLc wi g tt te vs) Γ (c1 + m * (ct + ce)) M := .mk fun {G H σ n} E l Q q =>
  hi.run E (by omega) _ fun J G1 H1 n1 Ps k p ln hL it => fun Da hD => by
    obtain ⟨hlen, A, h0, hs, hd⟩ := h Ps hL
    have E1 := E.step k p
    obtain ⟨Ew, sw⟩ := E1.wipe vs
    have kN := Stp.newH (o := .lst []) k.gh hD
    obtain ⟨kN', pN⟩ := kN.pure p
    have hDo : ∀ a ∈ owns (wipeG Γ vs) (L2.wipe σ vs), a ∉ [Da] := fun a ha z => by
      have e : a = Da := by simpa using z
      subst e
      exact (owns_tracked Ew.sl a ha).1 hD
    have npD : pn ≠ some Da := fun z => (p Da z).2.ne hD
    have gD : G1 Da = none := k.gh.free hD
    refine ⟨fun i m' H' => m' = Ps.length - i ∧ i ≤ Ps.length ∧ ∃ G' n' acc ws, A i acc ∧ acc.length ≤ i ∧ Stp pn [Da] G1 (upd H1 Da (.lst [])) G' H' ∧ PenOk pn G' H' n' ∧ n' ≤ n1 + i * (ct + ce) ∧ H' Da = some (.lst ws) ∧ G' Da = none ∧ Zip G' acc ws,
      ⟨Ps.length, by simp, Nat.zero_le _, G1, n1, [], [], h0, Nat.le_refl _, .refl kN.gh, pN, by omega, upd_same, gD, trivial⟩, ?_⟩
    rintro i m' H' ⟨rfl, hi', G', n', acc, ws, hA, hal, kk, pp, ll, hw, gw, zz⟩
    have k0 : Stp pn [Da] G1 H1 G' H' := kk.pre hD
    have Ei : Env pn G' H' (wipeG Γ vs) (L2.wipe σ vs) n' := ⟨kk.gh, pp, Ew.sl.stepO k0 hDo, Ew.nd⟩
    have le1 := Nat.mul_le_mul_right (ct + ce) hlen
    by_cases lt : i < Ps.length
    · refine .inr ⟨it.go kk.gg kk.gh lt, fun H2 => ∃ G2 n2 acc2 ws2, A (i + 1) acc2 ∧ acc2.length ≤ i + 1 ∧ Stp pn [Da] G1 (upd H1 Da (.lst [])) G2 H2 ∧ PenOk pn G2 H2 n2 ∧ n2 ≤ n1 + (i + 1) * (ct + ce) ∧ H2 Da = some (.lst ws2) ∧ G2 Da = none ∧ Zip G2 acc2 ws2,
        fun H2 a => ⟨Ps.length - (i + 1), by omega, rfl, lt, a⟩, fun x H2 hy => ?_⟩
      have eP : Ps[i]? = some Ps[i] := List.getElem?_eq_getElem lt
      obtain ⟨G2, k2, px⟩ := it.yld kk.gg kk.gh eP hy
      obtain ⟨k3, p3⟩ := k2.pure pp
      have E2 := Ei.step k3 p3
      obtain ⟨Γ3, ts, Pb, hg, hts, ht, hF, hT⟩ := hs i Ps[i] acc eP hA
      refine hg.run E2 px _ fun σ3 E3 o3 w3 => ⟨(w3 vs hts).trans (wipe_wipe vs σ), ?_⟩
      have e1 : (i + 1) * (ct + ce) = i * (ct + ce) + (ct + ce) := by rw [Nat.add_mul]; omega
      have le2 : (i + 1) * (ct + ce) ≤ Ps.length * (ct + ce) := Nat.mul_le_mul_right _ lt
      have hw2 : H2 Da = some (.lst ws) := k3.hh Da _ hw npD (fun z => nomatch z)
      have gw2 : G2 Da = none := k3.own_none gw hw rfl npD (fun z => nomatch z)
      refine ht.run E3 (by omega) _ fun b G4 H4 n4 k4 p4 l4 hb => ?_
      have hw4 : H4 Da = some (.lst ws) := k4.hh Da _ hw2 npD (fun z => nomatch z)
      have gw4 : G4 Da = none := k4.own_none gw2 hw2 rfl npD (fun z => nomatch z)
      have k5 : Stp pn [Da] G1 (upd H1 Da (.lst [])) G4 H4 := (kk.trans k3 fun _ h => nomatch h).trans k4 fun _ h => nomatch h
      cases b with
      | false => exact ⟨G4, n4, acc, ws, hF hb, by omega, k5, p4, by omega, hw4, gw4, zz.mono (k3.gg.trans k4.gg)⟩
      | true =>
        obtain ⟨S, he, hA2⟩ := hT hb
        refine he.run (E3.step k4 p4) (by omega) _ fun y G6 H6 n6 k6 p6 l6 hy6 => ?_
        have hw6 : H6 Da = some (.lst ws) := k6.hh Da _ hw4 npD (fun z => nomatch z)
        have gw6 : G6 Da = none := k6.own_none gw4 hw4 rfl npD (fun z => nomatch z)
        have zl := zz.len
        refine ⟨ws, hw6, Nat.lt_of_le_of_lt (m := 100000) (by omega) (by decide), ?_⟩
        have k7 : Stp pn [Da] G1 (upd H1 Da (.lst [])) G6 H6 := k5.trans k6 fun _ h => nomatch h
        have k8 : Stp pn [Da] G6 H6 G6 (upd H6 Da (.lst (ws ++ [y]))) := .chg k6.gh gw6 (by rw [hw6]; exact fun z => nomatch z)
        refine ⟨G6, n6, acc ++ [S], ws ++ [y], hA2, by rw [List.length_append]; simp; omega, k7.trans k8 fun x h => .inl h, p6.updH npD (no_tbl hw6), by omega, upd_same, gw6, (zz.mono ((k3.gg.trans k4.gg).trans k6.gg)).app ⟨hy6, trivial⟩⟩
    · have e : i = Ps.length := by omega
      subst e
      refine .inl ⟨it.stop kk.gg kk.gh (Nat.le_refl _), q Da _ G' H' n' (k.trans0 (k0.drop k.gh hD)) pp (by omega) (none_back k hD) gw hw (hd acc hA G' _ _ ⟨ws, rfl, zz⟩)⟩
end
end Ev

set_option Elab.async false
set_option linter.all false
set_option maxRecDepth 100000
set_option maxHeartbeats 4000000
/-! Calls and defs; operations on lists, tuples, texts, numbers. -/
namespace Ev
open PySem PySem.Spec L2
variable [z : Tz]
section
variable {pn : Option Addr} {Γ Γ1 : Gam} {c c1 c2 c3 ct ce : Nat} {S S1 S2 : MP} {te ta tb tl : TE} {t : TA} {tt : TT} {K : PySem.W.Frag} {Ps Qs : List MP}
theorem pen_upd {G H : Hp} {a : Addr} {u : HO} {n : Nat} (p : PenOk pn G H n) (ga : G a = none) (ha : pn ≠ some a) (hd : NT H a) : PenOk pn (upd G a u) H n := p.updG ha ga hd
theorem ev_of_en {L : List MP → Prop} (h : EvN pn te Γ c (oEx L oL)) : Ev pn te Γ c (mEx L mL) := by
  refine .mk fun {G H σ n} E l Q q => ?_
  refine h.run E l Q fun a u G' H' n' k p ln ha ga hu ⟨Ps, hL, vs, e, z⟩ => ?_
  subst e
  have npn : pn ≠ some a := fun z => (E.pen a z).2.ne ha
  have s : Same G' (upd G' a (.lst vs)) := fun b o e => by rw [upd_ne (ne_of_none e ga)]; exact e
  exact q (.ref a) (upd G' a (.lst vs)) H' n' (k.more.commit ha ga (fun _ _ => rfl) hu (.inl rfl)) (pen_upd p ga npn (no_tbl hu)) ln ⟨Ps, hL, a, vs, rfl, upd_same, z.mono s⟩
theorem EvN.mono {M M1 : MO} (h : EvN pn te Γ c M) (hs : ∀ G a o, M.pr G a o → M1.pr G a o) (hc : c ≤ c1 := by first | exact Nat.le_refl _ | omega) : EvN pn te Γ c1 M1 := .mk fun E l Q q =>
  h.run E (by omega) Q fun a u G' H' n' k p ln h0 g0 hu s => q a u G' H' n' k p (by omega) h0 g0 hu (hs G' a u s)
theorem ev_of_en1 (h : EvN pn te Γ c (oL Ps)) : Ev pn te Γ c (mL Ps) :=
  by
  have h1 : EvN pn te Γ c (oEx (· = Ps) oL) := h.mono fun _ _ _ s => ⟨Ps, rfl, s⟩
  have h2 := ev_of_en h1
  exact h2.mono fun G v ⟨x, e, s⟩ => by subst e; exact s
theorem filter_snoc {α : Type} {b : α → Bool} {pre : List α} {x : α} : (pre ++ [x]).filter b = pre.filter b ++ (if b x then [x] else []) := by
  rw [List.filter_append]
  cases h : b x <;> simp [h]
/-- [f x for x in xs if b x] -/
theorem en_lcL {α β : Type} {xs : List α} {R : α → MP} {b : α → Bool} {f : α → β} {R' : β → MP} {wi : TI} {g : TG} {vs : List Nat} (hi : EvI pn wi Γ c1 (· = xs.map R)) (hm : xs.length ≤ 100000)
    (h : ∀ x ∈ xs, ∃ Γ1 ts, Gx pn g (wipeG Γ vs) (R x) Γ1 ts ∧ (∀ t ∈ ts, t ∈ vs) ∧ EvT pn tt Γ1 ct (· = b x) ∧ (b x = true → Ev pn te Γ1 ce (R' (f x)))) :
    EvN pn (tLc wi g tt te vs) Γ (c1 + xs.length * (ct + ce)) (oL (((xs.filter b).map f).map R')) := by
  refine en_lc hi ct ce xs.length hm fun Ps e => ?_
  subst e
  refine ⟨by simp, fun i acc => acc = (((xs.take i).filter b).map f).map R', by simp, fun i P acc hP hA => ?_, fun acc hA G _ o ho => ?_⟩
  · rw [List.getElem?_map] at hP
    cases ex : xs[i]? with
    | none => rw [ex] at hP; cases hP
    | some x =>
      rw [ex] at hP
      cases hP
      obtain ⟨Γ1, ts, h1, h2, h3, h4⟩ := h x (List.mem_of_getElem? ex)
      have e := take_succ ex
      refine ⟨Γ1, ts, _, h1, h2, h3, fun hb => ?_, fun hb => ⟨_, h4 hb.symm, ?_⟩⟩
      · show acc = (((xs.take (i + 1)).filter b).map f).map R'
        rw [e, filter_snoc, ← hb, hA]
        simp
      · show acc ++ _ = (((xs.take (i + 1)).filter b).map f).map R'
        rw [e, filter_snoc, ← hb, hA]
        simp
  · rw [hA] at ho
    simpa using ho
theorem et_yes : EvT pn tYes Γ 0 (· = true) := .mk fun E l Q q => q true _ _ _ (.refl E.gh) E.pen (Nat.le_refl _) rfl
/-- [f x for x in xs] -/
theorem en_lcM {α β : Type} {xs : List α} {R : α → MP} {f : α → β} {R' : β → MP} {wi : TI} {g : TG} {vs : List Nat} (hi : EvI pn wi Γ c1 (· = xs.map R)) (hm : xs.length ≤ 100000)
    (h : ∀ x ∈ xs, ∃ Γ1 ts, Gx pn g (wipeG Γ vs) (R x) Γ1 ts ∧ (∀ t ∈ ts, t ∈ vs) ∧ Ev pn te Γ1 ce (R' (f x))) :
    EvN pn (tLc wi g tYes te vs) Γ (c1 + xs.length * (0 + ce)) (oL ((xs.map f).map R')) := by
  have k := en_lcL (te := te) (tt := tYes) (b := fun _ => true) (f := f) (R' := R') (ct := 0) (ce := ce) hi hm (vs := vs) (g := g) fun x hx => by
    obtain ⟨Γ1, ts, h1, h2, h3⟩ := h x hx
    exact ⟨Γ1, ts, h1, h2, et_yes, fun _ => h3⟩
  rw [List.filter_eq_self.mpr (fun _ _ => rfl)] at k
  exact k
/-! ### defs -/
/-- a def that draws nothing -/
def SpF {α : Type} (ar : α → List MP) (pre : α → Prop) (res : α → MP) : Sp := fun vs H Q _ => ∃ (x : α) (G : Hp), pre x ∧ (Sm G H ∧ Tbs G H) ∧ Zip G (ar x) vs ∧ ∀ v G' H', Stp none [] G H G' H' → (res x).pr G' v → Q v H'
/-- a def that draws, cost x times at most; p: where the source stands -/
def SpP {α : Type} (ar : Addr → α → List MP) (pre : α → Prop) (cost : α → Nat) (res : α → MP) : Sp := fun vs H Q _ => ∃ (x : α) (G : Hp) (p : Addr) (n : Nat), pre x ∧ Sm G H ∧ PenOk (some p) G H n ∧ n + cost x ≤ lim ∧ Zip G (ar p x) vs ∧
  ∀ v G' H' n', Stp (some p) [] G H G' H' → PenOk (some p) G' H' n' → n' ≤ n + cost x → (res x).pr G' v → Q v H'
theorem ev_callF {α : Type} {ar : α → List MP} {pre : α → Prop} {res : α → MP} {E : XK} (x : α) (ha : EvA pn t Γ c (ar x)) (hp : pre x) : Ev pn (tCall (SpF ar pre res) [] E t) Γ c (res x) := .mk fun En l Q q =>
  ha.run En l _ fun vs G1 H1 n1 k1 p1 l1 s1 => ⟨x, G1, hp, ⟨k1.gh, p1.tab⟩, by rw [List.append_nil]; exact s1, fun v G2 H2 k2 s2 => by
    obtain ⟨k3, p3⟩ := k2.pure p1
    exact q v G2 H2 n1 (k1.trans0 k3) p3 l1 s2⟩
theorem ev_callP {α : Type} {ar : Addr → α → List MP} {pre : α → Prop} {cost : α → Nat} {res : α → MP} {E : XK} {p : Addr} (x : α) (ha : EvA (some p) t Γ c (ar p x)) (hp : pre x) : Ev (some p) (tCall (SpP ar pre cost res) [] E t) Γ (c + cost x) (res x) := .mk fun En l Q q =>
  ha.run En (by omega) _ fun vs G1 H1 n1 k1 p1 l1 s1 => ⟨x, G1, p, n1, hp, k1.gh, p1, by omega, by rw [List.append_nil]; exact s1, fun v G2 H2 n2 k2 p2 l2 s2 =>
    q v G2 H2 n2 (k1.trans0 k2) p2 (by omega) s2⟩
theorem slots_start {G H : Hp} {vs : List V} : ∀ {Ps : List MP} {m : Nat}, Zip G Ps vs → Slots pn G H (Ps.map .im ++ List.replicate m .no) (vs.map some ++ List.replicate m none) := by
  intro Ps
  induction Ps generalizing vs with
  | nil =>
    intro m z
    cases vs with
    | nil =>
      show Slots pn G H (List.replicate m .no) (List.replicate m none)
      clear z
      induction m with
      | zero => trivial
      | succ m ih => exact ⟨trivial, ih⟩
    | cons _ _ => exact z.elim
  | cons P Ps ih =>
    intro m z
    cases vs with
    | nil => exact z.elim
    | cons v vs => exact ⟨⟨v, rfl, z.1⟩, ih z.2⟩
theorem owns_start {vs : List V} : ∀ {Ps : List MP} {m m' : Nat}, owns (Ps.map .im ++ List.replicate m .no) (vs.map some ++ List.replicate m' none) = [] := by
  have h : ∀ (m : Nat) (σ : L2.St), owns (List.replicate m .no) σ = [] := by
    intro m
    induction m with
    | zero => intro σ; simp [owns]
    | succ m ih =>
      intro σ
      cases σ with
      | nil => simp [owns]
      | cons o σ => simpa [owns, List.replicate_succ] using ih σ
  intro Ps
  induction Ps generalizing vs with
  | nil => intro m m'; simpa using h m _
  | cons P Ps ih =>
    intro m m'
    cases vs with
    | nil =>
      show owns (.im P :: (Ps.map .im ++ List.replicate m .no)) (List.replicate m' none) = []
      cases m' with
      | zero => simp [owns]
      | succ m' =>
        have := ih (vs := []) (m := m) (m' := m')
        simpa [owns, List.replicate_succ] using this
    | cons v vs => simpa [owns] using ih (vs := vs) (m := m) (m' := m')
def startG (N : List Str) (Ps : List MP) : Gam := Ps.map .im ++ List.replicate (N.length - Ps.length) .no
theorem env_start {G H : Hp} {N : List Str} {vs : List V} {n : Nat} (e : Sm G H) (p : PenOk pn G H n) (z : Zip G Ps vs) : Env pn G H (startG N Ps) (L2.start N vs) n ∧ owns (startG N Ps) (L2.start N vs) = [] := by
  unfold startG L2.start
  rw [z.len]
  exact ⟨⟨e, p, slots_start z, by rw [owns_start]; exact List.nodup_nil⟩, owns_start⟩
abbrev endO (S : MP) : Outs := ⟨fun _ => ∀ G, S.pr G .non, S, fun _ => False, fun _ => False⟩
theorem fn_F {N : List Str} {α : Type} {ar : α → List MP} {pre : α → Prop} {res : α → MP} {t : TS} {vs : List V} {H : Hp} {Q : VK} {E : XK} (hs : SpF ar pre res vs H Q E) (h : ∀ x, pre x → Sx none t (startG N (ar x)) 0 (endO (res x))) :
    t { nx := fun _ H' => Q .non H', rt := Q } (L2.start N vs) H := by
  obtain ⟨x, G, hp, e, z, q⟩ := hs
  obtain ⟨En, eo⟩ := env_start (pn := none) (N := N) (n := 0) e.1 ⟨fun p hp => (nomatch hp), e.2⟩ z
  refine (h x hp).run _ En (Nat.zero_le _) (fun Γ' σ' G' H' n' a g => ?_) (fun v G' H' n' k p l s => q v G' H' (eo ▸ k) s) (fun _ _ _ _ _ a _ => a.elim) (fun _ _ _ _ _ a _ => a.elim)
  have k := g.stp
  rw [eo] at k
  exact q .non G' H' k (a G')
theorem fn_P {N : List Str} {α : Type} {ar : Addr → α → List MP} {pre : α → Prop} {cost : α → Nat} {res : α → MP} {t : TS} {vs : List V} {H : Hp} {Q : VK} {E : XK} (hs : SpP ar pre cost res vs H Q E) (h : ∀ p x, pre x → Sx (some p) t (startG N (ar p x)) (cost x) (endO (res x))) :
    t { nx := fun _ H' => Q .non H', rt := Q } (L2.start N vs) H := by
  obtain ⟨x, G, p, n, hp, e, pk, l, z, q⟩ := hs
  obtain ⟨En, eo⟩ := env_start (N := N) e pk z
  refine (h p x hp).run _ En l (fun Γ' σ' G' H' n' a g => ?_) (fun v G' H' n' k p l s => q v G' H' n' (eo ▸ k) p l s) (fun _ _ _ _ _ a _ => a.elim) (fun _ _ _ _ _ a _ => a.elim)
  have k := g.stp
  rw [eo] at k
  exact q .non G' H' n' k g.env.pen g.le (a G')
theorem SpF.len {α : Type} {ar : α → List MP} {pre : α → Prop} {res : α → MP} {k : Nat} {vs : List V} {H : Hp} {Q : VK} {E : XK} (hs : SpF ar pre res vs H Q E) (h : ∀ x, (ar x).length = k) : vs.length = k := by
  obtain ⟨x, G, _, _, z, _⟩ := hs
  rw [z.len, h]
theorem SpP.len {α : Type} {ar : Addr → α → List MP} {pre : α → Prop} {cost : α → Nat} {res : α → MP} {k : Nat} {vs : List V} {H : Hp} {Q : VK} {E : XK} (hs : SpP ar pre cost res vs H Q E) (h : ∀ p x, (ar p x).length = k) : vs.length = k := by
  obtain ⟨x, G, p, n, _, _, _, _, z, _⟩ := hs
  rw [z.len, h]
/-! ### operations -/
theorem rv_I0 {g : Int → Int → V} {i j : Int} : RV (rI0 g) (mV (.int i)) (mV (.int j)) (mV (g i j)) := .mk fun e h1 h2 Q q => ⟨i, j, h1, h2, q _ _ _ (.refl e) rfl⟩
theorem rv_I {C : Int → Int → Prop} {g : Int → Int → V} {i j : Int} (hc : C i j) : RV (rI C g) (mV (.int i)) (mV (.int j)) (mV (g i j)) := .mk fun e h1 h2 Q q => ⟨i, j, h1, h2, hc, q _ _ _ (.refl e) rfl⟩
theorem rv_eq {x y : V} (h : scal x y = true) : RV rEq (mV x) (mV y) (mV (.bl (decide (x = y)))) := .mk fun e h1 h2 Q q => by
  cases h1; cases h2
  exact ⟨h, q _ _ _ (.refl e) rfl⟩
theorem rv_ne {x y : V} (h : scal x y = true) : RV rNe (mV x) (mV y) (mV (.bl (!decide (x = y)))) := .mk fun e h1 h2 Q q => by
  cases h1; cases h2
  exact ⟨h, q _ _ _ (.refl e) rfl⟩
theorem atI_zip {G : Hp} {vs : List V} {i : Int} {P : MP} (z : Zip G Ps vs) (h : atI Ps i = some P) : ∃ v, atI vs i = some v ∧ P.pr G v := by
  unfold atI at h ⊢
  rw [z.len]
  cases e : ixN Ps.length i with
  | none => rw [e] at h; cases h
  | some j =>
    rw [e] at h
    exact z.get h
theorem rv_ixL {i : Int} {P : MP} (h : atI Ps i = some P) : RV (rIxL K) (mL Ps) (mV (.int i)) P := .mk fun {G H x y} e h1 h2 Q q => by
  obtain ⟨a, vs, rfl, ha, z⟩ := h1
  obtain ⟨v, hv, pv⟩ := atI_zip z h
  exact ⟨a, vs, i, v, rfl, h2, SqL.of (e.x ha), hv, q v G H (.refl e) pv⟩
theorem rv_ixT {i : Int} {P : MP} (h : atI Ps i = some P) : RV (rIxT K) (mT Ps) (mV (.int i)) P := .mk fun {G H x y} e h1 h2 Q q => by
  obtain ⟨a, vs, rfl, ha, z⟩ := h1
  obtain ⟨v, hv, pv⟩ := atI_zip z h
  exact ⟨a, vs, i, v, rfl, h2, SqT.of (e.x ha), hv, q v G H (.refl e) pv⟩
theorem atI_lt {α : Type} {xs : List α} {d : Int} (h0 : 0 ≤ d) (h1 : d < xs.length) : ∃ x, x ∈ xs ∧ atI xs d = some x ∧ xs[d.toNat]? = some x := by
  obtain ⟨j, rfl⟩ : ∃ j : Nat, d = (j : Int) := ⟨d.toNat, by omega⟩
  have hj : j < xs.length := by omega
  exact ⟨xs[j], List.getElem_mem hj, atI_nat (List.getElem?_eq_getElem hj), List.getElem?_eq_getElem hj⟩
theorem atI_map {α β : Type} {f : α → β} {xs : List α} {i : Int} : atI (xs.map f) i = (atI xs i).map f := by
  unfold atI
  rw [List.length_map]
  cases ixN xs.length i with
  | none => rfl
  | some j => exact List.getElem?_map ..
/-- an item at a drawn place -/
theorem rv_ixLx {α : Type} {xs : List α} {R : α → MP} {Px : Int → Prop} (h : ∀ d, Px d → 0 ≤ d ∧ d < xs.length) : RV (rIxL K) (mL (xs.map R)) (mInts Px) (mEx (· ∈ xs) R) := .mk fun {G H x y} e h1 ⟨d, hd, h2⟩ Q q => by
  obtain ⟨z, hz, ez, _⟩ := atI_lt (h d hd).1 (h d hd).2
  exact (rv_ixL (i := d) (P := R z) (by rw [atI_map, ez]; rfl)).run e h1 h2 Q fun v G' H' k s => q v G' H' k ⟨z, hz, s⟩
theorem rv_ixLm {Px : Int → Prop} (h : ∀ d, Px d → 0 ≤ d ∧ d < Ps.length) : RV (rIxL K) (mL Ps) (mInts Px) (mEx (· ∈ Ps) id) := .mk fun {G H x y} e h1 ⟨d, hd, h2⟩ Q q => by
  obtain ⟨z, hz, ez, _⟩ := atI_lt (h d hd).1 (h d hd).2
  exact (rv_ixL (i := d) (P := z) ez).run e h1 h2 Q fun v G' H' k s => q v G' H' k ⟨z, hz, s⟩
def rLenX (K : PySem.W.Frag) : List V → Hp → VK → Prop := fun xs H Q => ∃ p ys, xs = [.ref p] ∧ (SqL K H p ys ∨ SqT K H p ys) ∧ Q (.int ys.length) H
theorem rc_lenL : RC (rLenX K) [mL Ps] (mV (.int Ps.length)) := .mk fun {G H vs} e z Q q => by
  obtain ⟨v, rfl, a, ws, rfl, ha, z'⟩ := zip1 z
  exact ⟨a, ws, rfl, .inl (SqL.of (e.x ha)), q _ G H (.refl e) (by rw [z'.len]; rfl)⟩
theorem rc_lenT : RC (rLenX K) [mT Ps] (mV (.int Ps.length)) := .mk fun {G H vs} e z Q q => by
  obtain ⟨v, rfl, a, ws, rfl, ha, z'⟩ := zip1 z
  exact ⟨a, ws, rfl, .inr (SqT.of (e.x ha)), q _ G H (.refl e) (by rw [z'.len]; rfl)⟩
theorem rc_int {i : Int} : RC (fun xs H Q => (∃ i, xs = [.int i] ∧ Q (.int i) H) ∨ ∃ k, xs = [.bl k] ∧ Q (.int (if k then 1 else 0)) H) [mV (.int i)] (mV (.int i)) := .mk fun {G H vs} e z Q q => by
  obtain ⟨v, rfl, h⟩ := zip1 z
  exact .inl ⟨i, by rw [show v = _ from h], q _ G H (.refl e) rfl⟩
theorem rc_intB {b : Bool} : RC (fun xs H Q => (∃ i, xs = [.int i] ∧ Q (.int i) H) ∨ ∃ k, xs = [.bl k] ∧ Q (.int (if k then 1 else 0)) H) [mV (.bl b)] (mV (.int (if b then 1 else 0))) := .mk fun {G H vs} e z Q q => by
  obtain ⟨v, rfl, h⟩ := zip1 z
  exact .inr ⟨b, by rw [show v = _ from h], q _ G H (.refl e) rfl⟩
def mAddS (x y : Str) : MP := mV (.str (x ++ y))
theorem rv_addS {x y : Str} (h : x.length + y.length ≤ 100000) : RV (fun x y H Q => ∃ i j, x = .str i ∧ y = .str j ∧ i.length + j.length ≤ sizeLine ∧ Q (.str (i ++ j)) H) (mV (.str x)) (mV (.str y)) (mV (.str (x ++ y))) := .mk fun e h1 h2 Q q => ⟨x, y, h1, h2, small h, q _ _ _ (.refl e) rfl⟩
theorem rv_cat (h : Ps.length + Qs.length ≤ 100000) : RV rCat (mL Ps) (mL Qs) (mL (Ps ++ Qs)) := .mk fun {G H x y} e h1 h2 Q q => by
  obtain ⟨a, vs, rfl, ha, z⟩ := h1
  obtain ⟨b, ws, rfl, hb, z'⟩ := h2
  refine ⟨a, b, vs, ws, rfl, rfl, e.x ha, e.x hb, small (by rw [z.len, z'.len]; exact h), fun p hp => ?_⟩
  have k := Stp.new (o := .lst (vs ++ ws)) e hp
  exact q _ _ _ k ⟨p, _, rfl, upd_same, (z.mono k.gg).app (z'.mono k.gg)⟩
theorem et_testV {b : Bool} (h : Ev pn te Γ c (mV (.bl b))) : EvT pn (tTest te) Γ c (· = b) := et_test (P := (· = b)) (h.mono (S1 := mBs (· = b)) fun _ _ e => ⟨b, rfl, e⟩)
theorem et_BV {b : Bool} (h : Ev pn te Γ c (mV (.bl b))) : EvT pn (tB te) Γ c (· = b) := et_B (P := (· = b)) (h.mono (S1 := mBs (· = b)) fun _ _ e => ⟨b, rfl, e⟩)
theorem et_testI {Px : Int → Prop} {p : Int → Bool} (h : Ev pn te Γ c (mEx Px fun d => mV (.bl (p d)))) : EvT pn (tTest te) Γ c (fun b => ∃ d, Px d ∧ b = p d) := et_test (h.mono (S1 := mBs fun b => ∃ d, Px d ∧ b = p d) fun _ _ ⟨d, hd, e⟩ => ⟨p d, ⟨d, hd, rfl⟩, e⟩)
/-- an operation on a drawn number -/
theorem rv_exR {α : Type} {Px : α → Prop} {R T : α → MP} {r : R2} (h : ∀ x, Px x → RV r S1 (R x) (T x)) : RV r S1 (mEx Px R) (mEx Px T) := .mk fun e h1 ⟨x, px, h2⟩ Q q => (h x px).run e h1 h2 Q fun v G' H' k s => q v G' H' k ⟨x, px, s⟩
theorem rv_exL {α : Type} {Px : α → Prop} {R T : α → MP} {r : R2} (h : ∀ x, Px x → RV r (R x) S2 (T x)) : RV r (mEx Px R) S2 (mEx Px T) := .mk fun e ⟨x, px, h1⟩ h2 Q q => (h x px).run e h1 h2 Q fun v G' H' k s => q v G' H' k ⟨x, px, s⟩
theorem rc_ex {α : Type} {Px : α → Prop} {R T : α → MP} {r : List V → Hp → VK → Prop} (h : ∀ x, Px x → RC r [R x] (T x)) : RC r [mEx Px R] (mEx Px T) := .mk fun {G H vs} e z Q q => by
  obtain ⟨v, rfl, x, px, hx⟩ := zip1 z
  exact (h x px).run e (show Zip G [R x] [v] from ⟨hx, trivial⟩) Q fun v G' H' k s => q v G' H' k ⟨x, px, s⟩
end
end Ev

set_option Elab.async false
set_option linter.all false
set_option maxRecDepth 100000
set_option maxHeartbeats 4000000
/-! Promises of defs for calls under which no display is under way (repr asks that). -/
namespace Ev
open PySem PySem.Spec PyProof.Rows L2
/-- no list, tuple or dict is being shown -/
def Calm (A : Around) : Prop := A.guards = some []
theorem Calm.deeper {A : Around} (h : Calm A) (env : PySem.Env) : Calm (A.deeper env) := h
structure GnOk (P : Program) (w : World) (K : PySem.W.Frag) (mg : Str → Option Value) (base : Heap) (CX : CXT) (k : Nat) (f : Addr) (fd : FuncData) (ps : List Str) (sp : Sp) : Prop where
  len : ∀ vs H Q E, sp vs H Q E → vs.length = ps.length
  go : ∀ (A : Around) (st : List PySem.Env) (s : Shared) (H : Hp) (ar : Args) (xs : List Value) (vs : List V) (Q : VK) (E : XK), Calm A → Room k A → Env0 P w K mg base A st s H → BindsTo s fd ar (ps.zip xs) → Vals vs xs → sp vs H Q E →
    codeAny (model P w) A (.call (.ref f) ar) (CR CX st P w H s Q E) s
section
variable {P : Program} {w : World} {K : PySem.W.Frag} {mg : Str → Option Value} {base : Heap} {CX : CXT} {k : Nat} {f : Addr} {fd : FuncData} {ps : List Str} {sp : Sp}
theorem GnOk.of (F : FnOk P w K mg base CX k f fd ps sp) : GnOk P w K mg base CX k f fd ps sp := ⟨F.len, fun A st s H ar xs vs Q E _ hr => F.run A st s H ar xs vs Q E hr⟩
theorem GnOk.mono {j : Nat} (F : GnOk P w K mg base CX j f fd ps sp) (h : j ≤ k) : GnOk P w K mg base CX k f fd ps sp := ⟨F.len, fun A st s H ar xs vs Q E c hr => F.go A st s H ar xs vs Q E c (hr.mono h)⟩
end
theorem gn_of {CX : CXT} {P : Program} {w : World} {K : PySem.W.Frag} {mg : Str → Option Value} {base : Heap} {k : Nat} {f : Addr} {nm qn : Str} {pa : Arguments} {bd : List Stmt} {sc : Scope} {d1 d2 d3 d4 d5 d6 d7 : Value} {o1 o2 : Option Addr}
    {os : Array (Option Value)} {N ps : List Str} {sp : Sp} (hk : K.lookup f = some ⟨d7, o2, .func (PySem.W.fnOf nm qn pa bd sc d1 d2 d3 d4 o1 d5 d6), os⟩) (hq : PySem.W.codeIn K d5 qn = true) (S : FnScope N ps sc)
    (hl : ∀ vs H Q E, sp vs H Q E → vs.length = ps.length)
    (body : ∀ (A : Around) (st : List PySem.Env) (s : Shared) (H : Hp) (vs : List V) (Q : VK) (E : XK), Calm A → Room k (A.deeper (envOfC qn sc s.heap.objs.size f d5)) → sp vs H Q E →
      ∃ t, PSs (cxOf CX P w K mg base N qn sc f d5 A st s H E) bd t ∧ t { nx := fun _ H' => Q .non H', rt := Q } (start N vs) H) :
    GnOk P w K mg base CX (k + 1) f (PySem.W.fnOf nm qn pa bd sc d1 d2 d3 d4 o1 d5 d6) ps sp := by
  refine ⟨hl, fun A st s H ar xs vs Q E cA rA eA bA vv hs => ?_⟩
  have inK : K.In s.heap := eA.mod.kin.keeps fun b o z => (eA.bs b o z).1
  have nol : s.heap.NoLimit := eA.mod.nolimit.keeps fun b o z => (eA.bs b o z).1
  have kinds : ∀ q ∈ ps.zip xs, sc.names.lookup q.1 = some .local ∨ (sc.names.lookup q.1 = some .cell ∧ ((cellsFrom (s.heap.objs.size + 1) sc.names []).lookup q.1).isSome = true) := by
    rintro ⟨n, v⟩ hq'
    exact (S.par n (List.of_mem_zip hq').1).imp id fun z => ⟨z, PySem.W.cellsFrom_some _ _ _ (.inl z)⟩
  apply codeAny_call_function rA.depth (inK _ _ hk) rfl S.co S.gen rfl (PySem.W.codeRec_of inK hq) (bA _ _ _ _ _)
  apply wpAny_newFunctionEnv_cells S.kind kinds
  rintro env rfl s1 x
  refine ⟨nol.keeps x.toInCall.keep, codeAny_func ?_⟩
  obtain ⟨t, ht, hgo⟩ := body A st s H vs Q E cA (rA.deeper _) hs
  have J0 := inv_start (CX := CX) (E := E) S rA.hd eA (hl _ _ _ _ hs) vv x
  refine wpAny_mono (ht.run [] s1 (start N vs) H _ J0 hgo) (fun z s' hz => ?_) fun _ _ hz => hz
  cases z with
  | brk => exact hz.elim fun _ h => h.elim fun _ h => h.2.elim
  | cont => exact hz.elim fun _ h => h.elim fun _ h => h.2.elim
  | next => exact hz.elim fun σ' h => h.elim fun H' h => ⟨V.non, H', h.1.os, h.1.bare, h.1.base, h.1.hok, rfl, h.2⟩
  | ret u => exact hz.elim fun v h => h.elim fun σ' h => h.elim fun H' h => ⟨v, H', h.1.os, h.1.bare, h.1.base, h.1.hok, h.2.1, h.2.2⟩
section
variable {P : Program} {w : World} {K : PySem.W.Frag} {mg : Str → Option Value} {base : Heap}
/-- THE RULE for a def's body, none being shown -/
theorem okG {x qn : Str} {st : Stmt} {f : Addr} {fd : FuncData} {N ps : List Str} {k : Nat} {sp : Sp} (F : L2.Fun K x qn st f fd) (S : FnScope N ps (defScope st)) (hl : ∀ vs H Q E, sp vs H Q E → vs.length = ps.length)
    (body : ∀ (cdv : Value) (A : Around) (outer : List PySem.Env) (s : Shared) (H : Hp) (vs : List V) (Q : VK) (E : XK), Calm (A.deeper (envOfC qn (defScope st) s.heap.objs.size f cdv)) → Room k (A.deeper (envOfC qn (defScope st) s.heap.objs.size f cdv)) → sp vs H Q E →
      ∃ t, PSs (cxOf CX0 P w K mg base N qn (defScope st) f cdv A outer s H E).nox (defBody st) t ∧ t { nx := fun _ H' => Q .non H', rt := Q } (start N vs) H) : GnOk P w K mg base CX0 (k + 1) f fd ps sp := by
  obtain ⟨oc, od, kV, doc, pm, an, cdv, ct, osl, rfl, lk, hcd⟩ := F.ex
  refine gn_of lk hcd S hl fun A st' s H vs Q E c r h => ?_
  obtain ⟨t, h1, h2⟩ := body cdv A st' s H vs Q E c r h
  exact ⟨t, h1.nox, h2⟩
end
section
variable {X : Cx} {CX : CXT} {k : Nat} {f C : Addr} {fd : FuncData} {ps : List Str} {sp : Sp} {ds : List Value} {dvs : List V} {E : XK}
theorem gn_run {pins : List (Addr × Obj)} {σ : L2.St} {H : Hp} {s : Shared} {Q : VK} {xs : List Value} {vs : List V} (F : GnOk X.prog X.w X.K X.mg X.base CX k f fd ps sp) (c : Calm X.A) (r : Room k X.A) (b : Binds X.K fd ps ds) (hd : Vals dvs ds) (p : Passes CX X E)
    (I : Inv X pins σ H s) (hv : Vals vs xs) (h : sp (vs ++ dvs) H Q E) : wpAny (model X.prog X.w) X.A (call (.ref f) xs) (EP X pins σ Q) X.xe s := by
  have both := hv.append hd
  have n : (xs ++ ds).length = ps.length := both.length.symm.trans (F.len _ _ _ _ h)
  refine wpAny_call (codeAny_mono (F.go X.A X.stack s H ⟨xs, []⟩ _ _ Q E c r I.env0 (b s xs I.kIn n) both h) ?_)
  rintro (e | fl) s' z
  · exact p pins σ H s e s' I z
  · cases fl with
    | ret u => exact I.after z
    | next => exact z.elim
    | brk => exact z.elim
    | cont => exact z.elim
section
variable {x : Str} {e : Expr} {es : List Expr} {t : TA} {p pos : Pos}
theorem pe_callG (F : GnOk X.prog X.w X.K X.mg X.base CX k f fd ps sp) (c : Calm X.A) (r : Room k X.A) (g : Gl X x) (m : X.mg x = some (.ref f)) (kp : PySem.W.keepIn X.K (.ref f) = true) (b : Binds X.K fd ps ds) (hd : Vals dvs ds) (pa : Passes CX X E)
    (ha : PA X (e :: es) t) (nd : (x == ("__debug__" : Str)) = false := by decide) (h1 : starEach (e :: es) X.env = (false, eval e X.env) :: starEach es X.env := by rfl) (h2 : (backTo pos (starEach es X.env)).any (·.1) = false := by rfl) :
    PE X (.Call (.Name x p) (e :: es) [] pos) (tCall sp dvs E t) := .mk fun pins s σ H Q I h =>
  wpAny_Call_Name_kw (ld_glob I g m (PySem.W.callWith_K (h₀ := X.base) I.ok.mod.kin kp (thn (ha.run pos pins s σ H _ I h) fun _ _ ⟨_, _, J, rv, q⟩ => ⟨J.kIn, gn_run F c r b hd pa J rv q⟩) h1 h2) nd)
end
section
variable {o e : Expr} {es : List Expr} {ta : TE} {t : TA} {apos pos : Pos} {m : Str}
theorem pe_methG {pl : Sem Bool} (ho : PE X o ta) (cl : Cls X.K C) (hm : Meth X.K C m f) (F : GnOk X.prog X.w X.K X.mg X.base CX k f fd ps sp) (c : Calm X.A) (r : Room k X.A) (b : Binds X.K fd ps ds) (hd : Vals dvs ds) (pa : Passes CX X E) (ha : PA X (e :: es) t)
    (h1 : starEach (e :: es) X.env = (false, eval e X.env) :: starEach es X.env := by rfl) (h2 : (backTo pos (starEach es X.env)).any (·.1) = false := by rfl)
    (h3 : eval (.Call (.Attribute o m apos) (e :: es) [] pos) X.env = (do
      let v ← eval o X.env
      standAt apos.atName
      let (g, one) ← holding [v] (getMethod v m pl)
      callWith pos g one (backTo pos (starEach (e :: es) X.env)) (backToKw pos (keywordEach [] X.env))) := by rfl) :
    PE X (.Call (.Attribute o m apos) (e :: es) [] pos) (tMeth C m sp dvs E ta t) := .mk fun pins s σ H Q I h => by
  refine PySem.W.methodCall_KW (pl := pl) (thn (ho.run pins s σ H _ I h) ?_) h3
  rintro u s1 ⟨y, H1, J, ry, a, dx, fs, rfl, oa, nl, q⟩
  cases (show u = Value.ref a from ry)
  exact getmeth_ok J oa cl hm nl (PySem.W.callWith_K (first := [.ref a]) (h₀ := X.base) J.ok.mod.kin hm.kp (thn (ha.run pos pins s1 σ H1 _ J q) fun us _ ⟨vs, _, J2, rv, q2⟩ => ⟨J2.kIn, gn_run (xs := .ref a :: us) (vs := .ref a :: vs) F c r b hd pa J2 (.cons rfl rv) q2⟩) h1 h2)
end
theorem calmU {A : Around} (C : Addr) (xs : List Value) (c : Calm A) : Calm (A.under (.builtin "type.__call__" ⟨.ref C :: xs, []⟩)) := by
  have z : (Code.builtin "type.__call__" ⟨.ref C :: xs, []⟩).guards = [] := by
    have y : (Code.builtin "type.__call__" ⟨.ref C :: xs, []⟩).isGuard = false := by
      show guardIds.contains "type.__call__" = false
      decide +kernel
    unfold Code.guards
    rw [y]
    rfl
  show pushGuards (Code.builtin "type.__call__" ⟨.ref C :: xs, []⟩).guards A.guards = some []
  rw [z]
  exact c
theorem gn_make {pins : List (Addr × Obj)} {σ : L2.St} {H : Hp} {s : Shared} {Q : VK} {xs : List Value} {vs : List V} (M : Mk X.K C f) (F : GnOk X.prog X.w X.K X.mg X.base CX k f fd ps sp) (c : Calm X.A) (r : Room (k + 1) X.A) (b : Binds X.K fd ps ds) (hd : Vals dvs ds)
    (pa : Passes CX X E) (I : Inv X pins σ H s) (hv : Vals vs xs)
    (h : ∀ x dx, H x = none → H dx = none → dx ≠ x → sp (.ref x :: (vs ++ dvs)) (upd (upd H dx (.own x)) x (.ins C dx [])) (fun v H2 => v = .non ∧ Q (.ref x) H2) E) :
    wpAny (model X.prog X.w) X.A (call (.ref C) xs) (EP X pins σ Q) X.xe s := by
  have J := Inv.made (C := C) I
  have now := h (s.heap.objs.size + 1) s.heap.objs.size (I.hok.fresh (Nat.le_succ _)) (I.hok.fresh (Nat.le_refl _)) (Nat.ne_of_lt (Nat.lt_succ_self _))
  have vals : Vals (V.ref (s.heap.objs.size + 1) :: (vs ++ dvs)) (Value.ref (s.heap.objs.size + 1) :: (xs ++ ds)) := .cons rfl (hv.append hd)
  have n : (Value.ref (s.heap.objs.size + 1) :: xs ++ ds).length = ps.length := vals.length.symm.trans (F.len _ _ _ _ now)
  have cl := F.go (X.A.under (.builtin "type.__call__" ⟨.ref C :: xs, []⟩)) X.stack _ _ ⟨Value.ref (s.heap.objs.size + 1) :: xs, []⟩ _ _ _ E (calmU C xs c) (r.make C xs []) (I.env0.make C xs [] |> fun _ => J.env0.make C xs []) (b _ (Value.ref (s.heap.objs.size + 1) :: xs) J.kIn n) vals now
  refine wpAny_call (make_map (f := f) I.kIn M.makes M.init (beq_iff_eq.mp M.fn) (codeAny_mono cl ?_))
  rintro (e | fl) s' z
  · exact pa pins σ _ _ e s' J z
  · cases fl with
    | ret u =>
      obtain ⟨v, H', J3, rv, rfl, q3⟩ := J.after z
      exact ⟨rv, ⟨V.ref (s.heap.objs.size + 1), H', J3, rfl, q3⟩⟩
    | next => exact z.elim
    | brk => exact z.elim
    | cont => exact z.elim
section
variable {x : Str} {e : Expr} {es : List Expr} {t : TA} {p pos : Pos}
theorem pe_makeG (M : Mk X.K C f) (F : GnOk X.prog X.w X.K X.mg X.base CX k f fd ps sp) (c : Calm X.A) (r : Room (k + 1) X.A) (g : Gl X x) (m : X.mg x = some (.ref C)) (b : Binds X.K fd ps ds) (hd : Vals dvs ds) (pa : Passes CX X E)
    (ha : PA X (e :: es) t) (nd : (x == ("__debug__" : Str)) = false := by decide) (h1 : starEach (e :: es) X.env = (false, eval e X.env) :: starEach es X.env := by rfl) (h2 : (backTo pos (starEach es X.env)).any (·.1) = false := by rfl) :
    PE X (.Call (.Name x p) (e :: es) [] pos) (tMake C sp dvs E t) := .mk fun pins s σ H Q I h =>
  wpAny_Call_Name_kw (ld_glob I g m (PySem.W.callWith_K (h₀ := X.base) I.ok.mod.kin M.kp (thn (ha.run pos pins s σ H _ I h) fun _ _ ⟨_, _, J, rv, q⟩ => ⟨J.kIn, gn_make M F c r b hd pa J rv q⟩) h1 h2) nd)
end
end
end Ev

set_option Elab.async false
set_option linter.all false
set_option maxRecDepth 100000
set_option maxHeartbeats 4000000
/-! What the draws' proof asks, whatever the law's numbers are. -/
namespace Ev
open PySem PySem.Spec L2
variable [z : Tz]
/-- all that was tracked is as it was, but at p -/
def But (p : Addr) (H H' : Hp) : Prop := ∀ b o, H b = some o → b ≠ p → H' b = some o
/-- the built-in names that the text does not shadow -/
structure Bl (mg : Str → Option Value) : Prop where
  int : mg "int" = none
  len : mg "len" = none
  abs : mg "abs" = none
  list : mg "list" = none
theorem set_i {p : Addr} {xs : List V} {k : Int} {j : Nat} {v : V} {H : Hp} {Q : Hp → Prop} (hp : H p = some (.lst xs)) (hj : ixN xs.length k = some j)
    (q : ∀ H', H' p = some (.lst (xs.set j v)) → But p H H' → Q H') : rSetL (.ref p) (.int k) v H Q :=
  ⟨p, xs, k, j, rfl, rfl, hp, hj, q _ upd_same fun b o e hb => by rw [upd_ne hb]; exact e⟩
theorem lst0 {σ : L2.St} {H : Hp} {Q : VK} (q : ∀ p H', H p = none → H' p = some (.lst []) → Same H H' → Q (.ref p) H') : tLst tNil σ H Q :=
  ⟨Nat.zero_le _, fun p hp => q p _ hp upd_same fun b o e => by rw [upd_ne (ne_of_none e hp)]; exact e⟩
theorem dpInts (K : PySem.W.Frag) (H : Hp) : ∀ ns : List Int, DpAll K H (ns.map V.int) (ns.map PyData.int)
  | [] => .nil
  | n :: ns => .cons (.int n) (dpInts K H ns)
theorem canInts : ∀ ns : List Int, PyData.canLayAll0 (ns.map PyData.int) = true
  | [] => by simp [PyData.canLayAll0]
  | n :: ns => by simp [PyData.canLayAll0, PyData.canLay0, canInts ns]
theorem depInts : ∀ ns : List Int, PyData.depthAll (ns.map PyData.int) ≤ 1
  | [] => by simp [PyData.depthAll]
  | n :: ns => by simp [PyData.depthAll, PyData.depth, depInts ns]
theorem shInts (ns : List Int) : SeqAt.shaped (.list (ns.map PyData.int)) = true := by
  have h := depInts ns
  simp only [SeqAt.shaped, PyData.canLay0, canInts, PyData.depth, Bool.true_and, decide_eq_true_eq]
  exact decide_eq_true (Nat.le_trans (Nat.succ_le_succ h) (show 2 ≤ 64 by decide))
theorem zip2 {G : Hp} {S T : MP} : ∀ {vs : List V}, Zip G [S, T] vs → ∃ v w, vs = [v, w] ∧ S.pr G v ∧ T.pr G w
  | [], h => h.elim
  | [v], h => h.2.elim
  | [v, w], h => ⟨v, w, rfl, h.1, h.2.1⟩
  | _ :: _ :: _ :: _, h => h.2.2.elim
theorem zip3 {G : Hp} {S T U : MP} : ∀ {vs : List V}, Zip G [S, T, U] vs → ∃ v w x, vs = [v, w, x] ∧ S.pr G v ∧ T.pr G w ∧ U.pr G x
  | [], h => h.elim
  | [v], h => h.2.elim
  | [v, w], h => h.2.2.elim
  | [v, w, x], h => ⟨v, w, x, rfl, h.1, h.2.1, h.2.2.1⟩
  | _ :: _ :: _ :: _ :: _, h => h.2.2.2.elim
end Ev
namespace Ev
open PySem PySem.Spec L2
/-- a def of the text under its name, with its promise -/
structure Fd (P : Program) (w : World) (K : PySem.W.Frag) (mg : Str → Option Value) (base : Heap) (k : Nat) (x : Str) (ps : List Str) (sp : Sp) : Prop where
  ex : ∃ f fd, mg x = some (.ref f) ∧ PySem.W.keepIn K (.ref f) = true ∧ Binds K fd ps [] ∧ GnOk P w K mg base CX0 k f fd ps sp
theorem pe_fd {X : Cx} {k : Nat} {x : Str} {ps : List Str} {sp : Sp} {e : Expr} {es : List Expr} {t : TA} {p pos : Pos} (G : Fd X.prog X.w X.K X.mg X.base k x ps sp) (hc : Calm X.A) (hr : Room k X.A) (ha : PA X (e :: es) t)
    (hg : Gl X x := by rfl) (hdb : (x == ("__debug__" : Str)) = false := by decide)
    (he : starEach (e :: es) X.env = (false, eval e X.env) :: starEach es X.env := by rfl) (hpl : (backTo pos (starEach es X.env)).any (·.1) = false := by rfl) :
    PE X (.Call (.Name x p) (e :: es) [] pos) (tCall sp [] E0 t) := by
  obtain ⟨f, fd, h1, h2, h3, h4⟩ := G.ex
  exact pe_callG h4 hc hr hg h1 h2 h3 .nil pass0 ha hdb he hpl
end Ev

set_option Elab.async false
set_option linter.all false
set_option maxRecDepth 100000
set_option maxHeartbeats 4000000
/-! More operations: dicts with text keys, items sought in lists of texts, slices. -/
namespace Ev
open PySem PySem.Spec L2
variable [z : Tz]
theorem andT {A C : Prop} (h : (true = true ∧ A) ∨ (true = false ∧ C)) : A := h.elim (fun x => x.2) fun x => nomatch x.1
theorem andF {A C : Prop} (h : (false = true ∧ A) ∨ (false = false ∧ C)) : C := h.elim (fun x => nomatch x.1) fun x => x.2
abbrev mS (s : Str) : MP := mV (.str s)
abbrev mI (i : Int) : MP := mV (.int i)
abbrev mStrs (ss : List Str) : MP := mL (ss.map mS)
abbrev mRow (ns : List Int) : MP := mL (ns.map mI)
def mPair (p : Str × Str) : MP := mT [mS p.1, mS p.2]
abbrev mTold (ps : List (Str × Str)) : MP := mL (ps.map mPair)
/-- a dict with text keys and whole numbers, in its order -/
def dkv (ws : List (Str × Int)) : List (Key × V) := ws.map fun p => (.inr p.1, .int p.2)
def mDk (ws : List (Str × Int)) : MP := ⟨fun G v => ∃ a, v = .ref a ∧ G a = some (.dK (dkv ws)), fun s ⟨a, e, h⟩ => ⟨a, e, s _ _ h⟩⟩
def look (ws : List (Str × Int)) (s : Str) : Option Int := (ws.find? fun p => decide (p.1 = s)).map (·.2)
theorem val_dkv (s : Str) : ∀ ws : List (Str × Int), valV (dkv ws) (.inr s) = (look ws s).map V.int
  | [] => rfl
  | p :: ws => by
    have ih := val_dkv s ws
    by_cases e : p.1 = s
    · have e1 : ((.inr p.1 : Key)) = .inr s := by rw [e]
      rw [show dkv (p :: ws) = (.inr p.1, .int p.2) :: dkv ws from rfl, valV_pos (p := ((.inr p.1 : Key), V.int p.2)) e1]
      simp [look, List.find?_cons, e]
    · have e1 : ¬ ((.inr p.1 : Key)) = .inr s := fun z => e (Sum.inr.inj z)
      rw [show dkv (p :: ws) = (.inr p.1, .int p.2) :: dkv ws from rfl, valV_neg (p := ((.inr p.1 : Key), V.int p.2)) e1, ih]
      simp [look, List.find?_cons, e]
section
variable {pn : Option Addr} {Γ Γ1 : Gam} {c c1 c2 c3 : Nat} {S S1 S2 : MP} {te ta tb td ty tl : TE} {t : TA} {tt : TT} {K : PySem.W.Frag} {Ps Qs : List MP}
theorem ev_dget {ws : List (Str × Int)} {s : Str} {i : Int} (hd : Ev pn td Γ c1 (mDk ws)) (hy : Ev pn ty Γ c2 (mS s)) (h : look ws s = some i) : Ev pn (tDGet td ty) Γ (c1 + c2) (mI i) := .mk fun {G H σ n} E l Q q =>
  hd.run E (by omega) _ fun x G1 H1 n1 k1 p1 l1 ⟨a, ex, ha⟩ => hy.run (E.step k1 p1) (by omega) _ fun y G2 H2 n2 k2 p2 l2 s2 => by
    have ey : y = .str s := s2
    subst ey
    have g : DGet H2 a (kV (.inr s)) (valV (dkv ws) (.inr s)) := .inl ⟨_, _, k2.gh.rd (k2.gg _ _ ha), rfl, rfl⟩
    rw [val_dkv, h] at g
    exact ⟨a, .int i, ex, g, q (.int i) G2 H2 n2 (k1.trans0 k2) p2 (by omega) rfl⟩
theorem rv_eqS {a b : Str} : RV rEq (mS a) (mS b) (mV (.bl (decide (a = b)))) := by
  have h := rv_eq (x := .str a) (y := .str b) rfl
  rw [show decide (V.str a = V.str b) = decide (a = b) from decide_eq_decide.mpr ⟨fun e => V.str.inj e, fun e => congrArg V.str e⟩] at h
  exact h
theorem rv_neS {a b : Str} : RV rNe (mS a) (mS b) (mV (.bl (!decide (a = b)))) := by
  have h := rv_ne (x := .str a) (y := .str b) rfl
  rw [show decide (V.str a = V.str b) = decide (a = b) from decide_eq_decide.mpr ⟨fun e => V.str.inj e, fun e => congrArg V.str e⟩] at h
  exact h
theorem rv_eqI {a b : Int} : RV rEq (mI a) (mI b) (mV (.bl (decide (a = b)))) := by
  have h := rv_eq (x := .int a) (y := .int b) rfl
  rw [show decide (V.int a = V.int b) = decide (a = b) from decide_eq_decide.mpr ⟨fun e => V.int.inj e, fun e => congrArg V.int e⟩] at h
  exact h
theorem rc_lenM {α : Type} {xs : List α} {R : α → MP} : RC (rLenX K) [mL (xs.map R)] (mV (.int (xs.length : Nat))) := by
  have h := rc_lenL (K := K) (Ps := xs.map R)
  rw [List.length_map] at h
  exact h
/-- texts compared as the layer's «in» does -/
theorem eqV_str (a b : Str) : eqV (.str a) (.str b) = decide (a = b) := by
  show (a == b) = decide (a = b)
  by_cases h : a = b
  · simp [h]
  · simp [h]
theorem inV_strs (a : Str) (ss : List Str) : inV (.str a) (ss.map V.str) = decide (a ∈ ss) := by
  unfold inV
  rw [List.any_map]
  induction ss with
  | nil => simp
  | cons s ss ih =>
    rw [List.any_cons, ih]
    show (eqV (.str s) (.str a) || _) = _
    rw [eqV_str]
    by_cases h : s = a
    · simp [h]
    · have h' : ¬ a = s := fun z => h z.symm
      simp [h, h']
theorem zip_strs {G : Hp} : ∀ {ss : List Str} {vs : List V}, Zip G (ss.map mS) vs → vs = ss.map V.str
  | [], [], _ => rfl
  | s :: ss, v :: vs, h => by rw [show v = .str s from h.1, zip_strs h.2]; rfl
  | [], _ :: _, h => h.elim
  | _ :: _, [], h => h.elim
theorem zip_ints {G : Hp} : ∀ {ss : List Int} {vs : List V}, Zip G (ss.map mI) vs → vs = ss.map V.int
  | [], [], _ => rfl
  | s :: ss, v :: vs, h => by rw [show v = .int s from h.1, zip_ints h.2]; rfl
  | [], _ :: _, h => h.elim
  | _ :: _, [], h => h.elim
theorem flat_strs : ∀ ss : List Str, (ss.map V.str).all flatV = true
  | [] => rfl
  | s :: ss => by simp [flatV, flat_strs ss]
theorem rv_inS {a : Str} {ss : List Str} : RV (rIn K false) (mS a) (mStrs ss) (mV (.bl (decide (a ∈ ss)))) := .mk fun {G H x y} e h1 ⟨b, vs, ey, hb, z⟩ Q q => by
  have ex : x = .str a := h1
  subst ex
  subst ey
  rw [zip_strs z] at hb
  refine ⟨b, _, rfl, .inl (SqL.of (e.x hb)), rfl, flat_strs ss, ?_⟩
  show Q (.bl (inV (.str a) (ss.map V.str))) H
  rw [inV_strs]
  exact q _ G H (.refl e) rfl
theorem rv_notInS {a : Str} {ss : List Str} : RV (rIn K true) (mS a) (mStrs ss) (mV (.bl (!decide (a ∈ ss)))) := .mk fun {G H x y} e h1 ⟨b, vs, ey, hb, z⟩ Q q => by
  have ex : x = .str a := h1
  subst ex
  subst ey
  rw [zip_strs z] at hb
  refine ⟨b, _, rfl, .inl (SqL.of (e.x hb)), rfl, flat_strs ss, ?_⟩
  show Q (.bl (!inV (.str a) (ss.map V.str))) H
  rw [inV_strs]
  exact q _ G H (.refl e) rfl
/-- the first place of a text -/
def idx (a : Str) : List Str → Nat
  | [] => 0
  | s :: ss => if s = a then 0 else idx a ss + 1
theorem idx_lt {a : Str} : ∀ {ss : List Str}, a ∈ ss → idx a ss < ss.length
  | s :: ss, h => by
    unfold idx
    by_cases e : s = a
    · rw [if_pos e]; simp
    · rw [if_neg e]
      have := idx_lt (a := a) (ss := ss) ((List.mem_cons.mp h).resolve_left fun z => e z.symm)
      simp only [List.length_cons]
      omega
theorem idx_get {a : Str} : ∀ {ss : List Str}, a ∈ ss → ss[idx a ss]? = some a
  | s :: ss, h => by
    unfold idx
    by_cases e : s = a
    · rw [if_pos e, e]; rfl
    · rw [if_neg e]
      exact idx_get (ss := ss) ((List.mem_cons.mp h).resolve_left fun z => e z.symm)
theorem idx_no {a : Str} : ∀ {ss : List Str} {m : Nat} {z : Str}, m < idx a ss → ss[m]? = some z → z ≠ a
  | [], m, z, h, _ => by simp [idx] at h
  | s :: ss, m, z, h, e => by
    unfold idx at h
    by_cases c : s = a
    · rw [if_pos c] at h; omega
    · rw [if_neg c] at h
      cases m with
      | zero =>
        have : s = z := Option.some.inj e
        rw [← this]; exact c
      | succ m => exact idx_no (ss := ss) (m := m) (by omega) e
theorem ev_index {a : Str} {ss : List Str} {tr : TA} (h1 : Ev pn te Γ c1 (mStrs ss)) (h2 : EvA pn tr Γ c2 [mS a]) (h : a ∈ ss) : Ev pn (tBM K "list" (rIndex K) te tr) Γ (c1 + c2) (mI ((idx a ss : Nat) : Int)) := .mk fun {G H σ n} E l Q q =>
  h1.run E (by omega) _ fun x G1 H1 n1 k1 p1 l1 ⟨b, vs, ex, hb, z⟩ => by
    subst ex
    rw [zip_strs z] at hb
    refine ⟨.inl ⟨rfl, _, SqL.of (k1.gh.x hb)⟩, h2.run (E.step k1 p1) (by omega) _ fun ws G2 H2 n2 k2 p2 l2 s2 => ?_⟩
    obtain ⟨v, rfl, ev⟩ := zip1 s2
    have ev' : v = .str a := ev
    subst ev'
    refine ⟨b, ss.map V.str, .str a, idx a ss, .str a, rfl, rfl, SqL.of (k2.gh.x (k2.gg _ _ hb)), rfl, flat_strs ss, by rw [List.getElem?_map, idx_get h]; rfl, by rw [eqV_str]; simp, fun m z' hm hz => ?_, q _ G2 H2 n2 (k1.trans0 k2) p2 (by omega) rfl⟩
    rw [List.getElem?_map] at hz
    cases em : ss[m]? with
    | none => rw [em] at hz; cases hz
    | some s' =>
      rw [em] at hz
      cases hz
      rw [eqV_str]
      exact decide_eq_false (idx_no hm em)
end
end Ev

set_option Elab.async false
set_option linter.all false
set_option maxRecDepth 100000
set_option maxHeartbeats 4000000
/-! The statements' rules with what may still be drawn given ahead. -/
namespace Ev
open PySem PySem.Spec L2
variable [z : Tz]
section
variable {pn : Option Addr} {Γ Γ1 : Gam} {c c1 c2 c3 : Nat} {S S1 S2 : MP} {te ta tb : TE} {tt : TT} {t u ts : TS} {O O1 : Outs} {P : Bool → Prop}
/-- a pair whose second is one of several -/
theorem ev_tupx {α : Type} {Px : α → Prop} {R : α → MP} (ha : Ev pn ta Γ c1 S) (hb : Ev pn tb Γ c2 (mEx Px R)) : Ev pn (tTup (tCons ta (tCons tb tNil))) Γ (c1 + (c2 + 0)) (mEx Px fun x => mT [S, R x]) :=
  (ev_tup (ea_cons ha (ea_cons hb ea_nil))).mono fun G v ⟨a, vs, e, h, z⟩ => by
    obtain ⟨x, y, rfl, hx, w, pw, hy⟩ := zip2 z
    exact ⟨w, pw, a, [x, y], e, h, hx, hy, trivial⟩
theorem x_seq (M : Gam → Prop) (h1 : Sx pn t Γ c1 { O with nx := M }) (h2 : ∀ Γ', M Γ' → Sx pn u Γ' (c - c1) O) (hc : c1 ≤ c := by first | decide | omega | simp) : Sx pn (tSeq t u) Γ c O := (sx_seq M h1 h2).more (by omega)
theorem x_seq1 (Γ1 : Gam) (h1 : Sx pn t Γ c1 { O with nx := (· = Γ1) }) (h2 : Sx pn u Γ1 (c - c1) O) (hc : c1 ≤ c := by first | decide | omega | simp) : Sx pn (tSeq t u) Γ c O := (sx_seq1 Γ1 h1 h2).more (by omega)
theorem x_if (ht : EvT pn tt Γ c1 P) (h1 : P true → Sx pn t Γ (c - c1) O) (h2 : P false → Sx pn u Γ (c - c1) O) (hc : c1 ≤ c := by first | decide | omega | simp) : Sx pn (tIfS tt t u) Γ c O := (sx_if ht h1 h2).more (by omega)
theorem x_ret (h : Ev pn te Γ c1 S) (hs : ∀ G v, S.pr G v → O.rt.pr G v := by intro _ _ h; exact h) (hc : c1 ≤ c := by first | decide | omega | simp) : Sx pn (tRet te) Γ c O := (sx_ret h hs).more hc
theorem x_next (h : O.nx Γ) : Sx pn tNext Γ c O := (sx_next h).more (Nat.zero_le _)
theorem x_brk (h : O.bk Γ) : Sx pn tBreak Γ c O := (sx_brk h).more (Nat.zero_le _)
theorem x_cont (h : O.ct Γ) : Sx pn tCont Γ c O := (sx_cont h).more (Nat.zero_le _)
/-- x = e, then the rest -/
theorem x_let {i : Nat} (h : Ev pn te Γ c1 S) (h2 : Sx pn u (Γ.set i (.im S)) (c - c1) O) (hc : c1 ≤ c := by first | decide | omega | simp) : Sx pn (tSeq (tAsg te (gName i)) u) Γ c O := x_seq1 _ (sx_set h rfl) h2 hc
/-- x = e at the end of a block -/
theorem x_set {i : Nat} (h : Ev pn te Γ c1 S) (hn : O.nx (Γ.set i (.im S))) (hc : c1 ≤ c := by first | decide | omega | simp) : Sx pn (tAsg te (gName i)) Γ c O := (sx_set h hn).more hc
/-- x = e, e one of several, then the rest for each -/
theorem x_one {i : Nat} {α : Type} {Px : α → Prop} {R : α → MP} (h : Ev pn te Γ c1 (mEx Px R)) (h2 : ∀ x, Px x → Sx pn u (Γ.set i (.im (R x))) (c - c1) O) (hc : c1 ≤ c := by first | decide | omega | simp) (hi : i < Γ.length := by first | decide | simp) :
    Sx pn (tSeq (tAsg te (gName i)) u) Γ c O := x_let h (sx_ex (i := i) (by rw [List.getElem?_set_self hi]) fun x px => by rw [List.set_set]; exact h2 x px) hc
theorem x_own {i : Nat} {M : MO} (h : EvN pn te Γ c1 M) (h2 : Sx pn u (Γ.set i (.own M)) (c - c1) O) (hc : c1 ≤ c := by first | decide | omega | simp) : Sx pn (tSeq (tAsg te (gName i)) u) Γ c O := x_seq1 _ (sx_set_own h rfl) h2 hc
end
end Ev

set_option Elab.async false
set_option linter.all false
set_option maxRecDepth 100000
set_option maxHeartbeats 4000000
/-! pair[::-1], a pair of two. -/
namespace Ev
open PySem PySem.Spec L2 PyProof.Rows HT
variable [z : Tz]
section
variable {prog : Program} {w : World} {A : Around} {E : Value → Shared → Prop} {s : Shared}
theorem applied_back {sl : Addr} {vs : Value} {Q : Int × Int × Nat → Shared → Prop} (hs : s.heap.IsSliceOf sl .none .none vs) (ps : IsPart vs (some (-1)))
    (h : Q (1, -1, 2) s) : wpAny (model prog w) A (Builtin.Slice.sliceApplied (.ref sl) (pure (2 : Int))) Q E s := by
  obtain ⟨os, hos, hcs, hds⟩ := id hs
  unfold Builtin.Slice.sliceApplied Builtin.Slice.sliceFields
  refine wpAny_bind (wpAny_bind (wpAny_field hos hds (x := .none) rfl (wpAny_bind (wpAny_field hos hds (x := .none) rfl (wpAny_bind (wpAny_field hos hds (x := vs) rfl (wpAny_pure ?_)))))))
  refine wpAny_bind (slicePart_ ps ?_)
  show wpAny _ _ (if ((-1 : Int) == 0) = true then _ else _) _ _ s
  rw [if_neg (by decide)]
  refine wpAny_bind (slicePart_none (wpAny_bind (slicePart_none (wpAny_bind (wpAny_pure ?_)))))
  exact wpAny_pure h
theorem getItem_pair_back {t sl : Addr} {x y vs : Value} {Q : Value → Shared → Prop} (ht : IsTup s.heap t #[x, y]) (hs : s.heap.IsSliceOf sl .none .none vs) (ps : IsPart vs (some (-1)))
    (h : Q (.ref s.heap.objs.size) { s with heap := s.heap.push { cls := .type "tuple", data := .seq #[y, x] } }) : wpAny (model prog w) A (getItem (.ref t) (.ref sl)) Q E s := by
  have htake : sizeOk (.seq #[y, x]) := by
    show (#[y, x] : Array Value).size ≤ sizeLine
    show 2 ≤ sizeLine
    decide
  obtain ⟨os, hos, hcs, hds⟩ := id hs
  have hTs : s.TypeIs (.ref sl) "slice" := ⟨os, hos, hcs⟩
  unfold getItem
  try with_reducible refine wpAny_holding ?_
  first | refine wpAny_bind (wpAny_pure ?_) | skip
  refine wpAny_bind (wpAny_sequenceKey ht.typeIs (by decide) ?_)
  refine wpAny_bind (wpAny_callSpecial?_slot (name := Str.ofString "__getitem__") ht.typeIs PyProof.Rows.slot_tuple_getitem
    (wpAny_call_entry PyProof.Rows.slot_tuple_getitem ht.typeIs entry_tuple_getitem ?_ (args_tuple_getitem _ _)))
  show wpAny _ _ (Builtin.Tuple.tupleItemsOf (.ref t) >>= _) _ _ s
  refine wpAny_bind (tupleItemsOf_ ht ?_)
  refine wpAny_bind (wpAny_typeOf hTs ?_)
  rw [if_pos (by decide)]
  refine wpAny_bind (applied_back hs ps ?_)
  show wpAny _ _ (if (((1 : Int) == 0) && ((-1 : Int) == 1) && (2 : Nat) == (#[x, y] : Array Value).size) = true then _ else _) _ _ s
  rw [if_neg (by simp)]
  first
    | exact wpAny_bind (m := Builtin.Tuple.tupleExact _) (wpAny_newObj_type (wpAny_pure ⟨_, rfl, wpAny_pure h⟩) htake)
    | exact wpAny_bind (m := Builtin.Tuple.tupleExact _) (wpAny_newObj_type (wpAny_bind (wpAny_pure (wpAny_pure ⟨_, rfl, wpAny_pure h⟩))) htake)
    | exact wpAny_bind (wpAny_bind (m := Builtin.Tuple.tupleExact _) (wpAny_newObj_type (wpAny_pure (wpAny_pure ⟨_, rfl, wpAny_pure h⟩)) htake))
    | exact wpAny_bind (wpAny_bind (m := Builtin.Tuple.tupleExact _) (wpAny_newObj_type (wpAny_pure ⟨_, rfl, wpAny_pure h⟩) htake))
end
section
variable {X : Cx}
def tRevP (K : PySem.W.Frag) (te : TE) : TE := fun σ H Q => te σ H fun x H1 => ∃ a u v, x = .ref a ∧ SqT K H1 a [u, v] ∧ ∀ p, H1 p = none → Q (.ref p) (upd H1 p (.tup [v, u]))
theorem pe_revP {e : Expr} {te : TE} {k : Nat} {p1 p2 p3 pos : Pos} (he : PE X e te) : PE X (.Subscript e (.Slice none none (some (.UnaryOp .USub (.Constant (.int 1) k p1) p2)) p3) pos) (tRevP X.K te) := by
  refine ⟨fun pins s σ H Q I h => ?_⟩
  refine Subscript_ (thn (he.run pins s σ H _ I h) fun v s1 ⟨x, H1, I1, r1, q1⟩ => ?_)
  obtain ⟨a, xu, xv, ex, hx, q⟩ := q1
  subst ex
  cases r1
  have hst : PO X (some (.UnaryOp .USub (.Constant (.int 1) k p1) p2)) (tPart (tUn (rU fun i => .int (-i)) (tC (.int 1)))) := po_some (pe_un un_neg pe_int)
  refine wpAny_Slice (thn (po_none.run pins s1 σ H1 (fun o H2 => o = none ∧ H2 = H1) I1 ⟨rfl, rfl⟩) fun vl s2 ⟨l, H2, I2, pl, el, e2⟩ => ?_)
  subst el e2
  refine thn (po_none.run pins s2 σ H2 (fun o H3 => o = none ∧ H3 = H2) I2 ⟨rfl, rfl⟩) fun vu s3 ⟨u, H3, I3, pu, eu, e3⟩ => ?_
  subst eu e3
  refine thn (hst.run pins s3 σ H3 (fun o H4 => o = some (-1) ∧ H4 = H3) I3 ⟨1, rfl, -1, rfl, rfl, rfl⟩) fun vs s4 ⟨o, H4, I4, ps, eo, e4⟩ => ?_
  subst eo e4
  cases pl
  cases pu
  have I5 : Inv X pins σ H4 { s4 with heap := s4.heap.push { cls := .type "slice", data := .fields #[.none, .none, vs] } } := I4.kept (t' := s4.toks) fun b ob q => Heap.get?_push_of_some _ q
  obtain ⟨its, r, ht, hz⟩ := I5.tuple hx
  cases r with
  | cons ru rr =>
    rename_i yu ws
    cases rr with
    | cons rv rn =>
      rename_i yv ws2
      cases rn
      show wpAny (model X.prog X.w) X.A (subscriptTail e (.Slice none none (some (.UnaryOp .USub (.Constant (.int 1) k p1) p2)) p3) (.ref a) (.ref s4.heap.objs.size)) (EP X pins σ Q) X.xe { s4 with heap := s4.heap.push { cls := .type "slice", data := .fields #[.none, .none, vs] } }
      refine tail_any (ops := [.ref a, .ref s4.heap.objs.size]) ht.typeIs (PyProof.Rows.slot_tuple_getitem.lookup) ?_ (by with_unfolding_all rfl)
      refine getItem_pair_back (x := yu) (y := yv) ht (Heap.IsSliceOf.new _ _ _ vs) ps ?_
      refine ⟨.ref _, _, I5.laid (t' := s4.toks) (o := .tup [xv, xu]) (fun b ob q => Heap.get?_push_of_some _ q) (Nat.le_refl _) ?_, rfl, q _ (I5.hok.fresh (Nat.le_refl _))⟩
      exact ⟨(by show 2 ≤ sizeLine; decide), [yv, yu], .cons rv (.cons ru .nil), ⟨_, Heap.get?_push_size _ rfl, rfl, _, rfl⟩⟩
end
section
variable {pn : Option Addr} {Γ : Gam} {c c1 c2 c3 : Nat} {S T : MP} {te tl th : TE} {K : PySem.W.Frag} {Ps : List MP}
theorem ev_revP (h : Ev pn te Γ c (mT [S, T])) : Ev pn (tRevP K te) Γ c (mT [T, S]) := .mk fun {G H σ n} E l Q q =>
  h.run E l _ fun x G1 H1 n1 k1 p1 l1 ⟨a, vs, ex, ha, z⟩ => by
    obtain ⟨u, v, rfl, hu, hv⟩ := zip2 z
    refine ⟨a, u, v, ex, SqT.of (k1.gh.x ha), fun p hp => ?_⟩
    have k := Stp.new (o := .tup [v, u]) k1.gh hp
    obtain ⟨k4, p4⟩ := k.pure p1
    exact q (.ref p) _ _ n1 (k1.trans0 k4) p4 l1 ⟨p, [v, u], rfl, upd_same, T.mono k.gg hv, S.mono k.gg hu, trivial⟩
/-- a slice of a list -/
def cutA {α : Type} (xs : List α) (lo hi : Option Int) : List α := (xs.drop (HT.sIx xs.length 0 lo)).take (HT.sIx xs.length xs.length hi - HT.sIx xs.length 0 lo)
theorem cutA_map {α β : Type} (f : α → β) (xs : List α) (lo hi : Option Int) : cutA (xs.map f) lo hi = (cutA xs lo hi).map f := by
  unfold cutA
  rw [List.length_map, List.map_take, List.map_drop]
theorem zip_cut {G : Hp} {vs : List V} {lo hi : Option Int} (z : Zip G Ps vs) : Zip G (cutA Ps lo hi) (cutV vs lo hi) := by
  unfold cutV cutA
  rw [z.len]
  exact (z.drop _).take _
theorem eo_none : EvO pn tNoPart Γ 0 none := .mk fun E l Q q => q _ _ _ (.refl E.gh) E.pen (Nat.le_refl _)
theorem eo_some {i : Int} (h : Ev pn te Γ c (mI i)) : EvO pn (tPart te) Γ c (some i) := .mk fun E l Q q => h.run E l _ fun x G1 H1 n1 k1 p1 l1 s1 => ⟨i, s1, q _ _ _ k1 p1 l1⟩
theorem ev_slL {lo hi : Option Int} {to tu : TO} (h : Ev pn te Γ c1 (mL Ps)) (h1 : EvO pn to Γ c2 lo) (h2 : EvO pn tu Γ c3 hi) : Ev pn (tSl (rSlL K) te to tu) Γ (c1 + (c2 + c3)) (mL (cutA Ps lo hi)) := .mk fun {G H σ n} E l Q q =>
  h.run E (by omega) _ fun x G1 H1 n1 k1 p1 l1 ⟨a, vs, ex, ha, z⟩ => h1.run (E.step k1 p1) (by omega) _ fun G2 H2 n2 k2 p2 l2 => h2.run ((E.step k1 p1).step k2 p2) (by omega) _ fun G3 H3 n3 k3 p3 l3 => by
    refine ⟨a, vs, ex, SqL.of (k3.gh.x (k3.gg _ _ (k2.gg _ _ ha))), fun p hp => ?_⟩
    have k := Stp.new (o := .lst (cutV vs lo hi)) k3.gh hp
    obtain ⟨k4, p4⟩ := k.pure p3
    refine q (.ref p) _ _ n3 (((k1.trans0 k2).trans0 k3).trans0 k4) p4 (by omega) ⟨p, cutV vs lo hi, rfl, upd_same, ?_⟩
    exact zip_cut (z.mono ((k2.gg.trans k3.gg).trans k.gg))
theorem ev_slM {α : Type} {xs : List α} {R : α → MP} {lo hi : Option Int} {to tu : TO} (h : Ev pn te Γ c1 (mL (xs.map R))) (h1 : EvO pn to Γ c2 lo) (h2 : EvO pn tu Γ c3 hi) : Ev pn (tSl (rSlL K) te to tu) Γ (c1 + (c2 + c3)) (mL ((cutA xs lo hi).map R)) := by
  have k := ev_slL (K := K) h h1 h2
  rw [cutA_map] at k
  exact k
end
end Ev

set_option Elab.async false
set_option linter.all false
set_option maxRecDepth 100000
set_option maxHeartbeats 4000000
/-! Lists that their maker still changes: append, extend, and the moment from which they stand. -/
namespace Ev
open PySem PySem.Spec L2
variable [z : Tz]
section
variable {pn : Option Addr} {G H : Hp}
/-- what is at a changes, and a is none of these slots' -/
theorem Slots.other {a : Addr} {u : HO} : ∀ {Γ : Gam} {σ : L2.St}, Slots pn G H Γ σ → a ∉ owns Γ σ → Slots pn G (upd H a u) Γ σ
  | [], [], _, _ => trivial
  | s :: Γ, o :: σ, h, na => by
    cases s with
    | no => exact ⟨trivial, Slots.other h.2 (by simpa [owns] using na)⟩
    | im P => exact ⟨h.1, Slots.other h.2 (by simpa [owns] using na)⟩
    | own M =>
      obtain ⟨b, w, e, h1, h2, h3, h4⟩ := h.1
      subst e
      simp only [owns] at na
      have nb : b ≠ a := fun z => na (by rw [z]; exact List.mem_cons_self ..)
      exact ⟨⟨b, w, rfl, (by rw [upd_ne nb]; exact h1), h2, h3, h4⟩, Slots.other h.2 fun z => na (List.mem_cons_of_mem _ z)⟩
  | [], _ :: _, h, _ => h.elim
  | _ :: _, [], h, _ => h.elim
theorem Slots.otherG {a : Addr} {u : HO} (ga : G a = none) : ∀ {Γ : Gam} {σ : L2.St}, Slots pn G H Γ σ → a ∉ owns Γ σ → Slots pn (upd G a u) H Γ σ
  | [], [], _, _ => trivial
  | s :: Γ, o :: σ, h, na => by
    have sm : Same G (upd G a u) := fun b o e => by rw [upd_ne (ne_of_none e ga)]; exact e
    cases s with
    | no => exact ⟨trivial, Slots.otherG ga h.2 (by simpa [owns] using na)⟩
    | im P =>
      obtain ⟨v, e, p⟩ := h.1
      exact ⟨⟨v, e, P.mono sm p⟩, Slots.otherG ga h.2 (by simpa [owns] using na)⟩
    | own M =>
      obtain ⟨b, w, e, h1, h2, h3, h4⟩ := h.1
      subst e
      simp only [owns] at na
      have nb : b ≠ a := fun z => na (by rw [z]; exact List.mem_cons_self ..)
      exact ⟨⟨b, w, rfl, h1, (by rw [upd_ne nb]; exact h2), h3, M.mono sm h4⟩, Slots.otherG ga h.2 fun z => na (List.mem_cons_of_mem _ z)⟩
  | [], _ :: _, h, _ => h.elim
  | _ :: _, [], h, _ => h.elim
structure OwnAt (pn : Option Addr) (G H : Hp) (Γ : Gam) (σ : L2.St) (i : Nat) (M : MO) (a : Addr) (u : HO) : Prop where
  val : σ[i]? = some (some (.ref a))
  obj : H a = some u
  gn : G a = none
  np : pn ≠ some a
  pr : M.pr G a u
  mem : a ∈ owns Γ σ
  chg : ∀ (M' : MO) (u' : HO), M'.pr G a u' → Slots pn G (upd H a u') (Γ.set i (.own M')) σ ∧ owns (Γ.set i (.own M')) σ = owns Γ σ
  say : ∀ M' : MO, M'.pr G a u → Slots pn G H (Γ.set i (.own M')) σ ∧ owns (Γ.set i (.own M')) σ = owns Γ σ
  frz : ∀ P : MP, P.pr (upd G a u) (.ref a) → Slots pn (upd G a u) H (Γ.set i (.im P)) σ ∧ (owns (Γ.set i (.im P)) σ).Sublist (owns Γ σ)
theorem Slots.own : ∀ {Γ : Gam} {σ : L2.St} {i : Nat} {M : MO}, Slots pn G H Γ σ → (owns Γ σ).Nodup → Γ[i]? = some (.own M) → ∃ a u, OwnAt pn G H Γ σ i M a u
  | [], _, _, _, _, _, e => by simp at e
  | s :: Γ, o :: σ, 0, M, h, nd, e => by
    have e' : s = .own M := Option.some.inj e
    subst e'
    obtain ⟨a, u, e, h1, h2, h3, h4⟩ := h.1
    subst e
    simp only [owns] at nd
    have n := List.nodup_cons.mp nd
    refine ⟨a, u, rfl, h1, h2, h3, h4, (by simp [owns]), fun M' u' p => ⟨⟨⟨a, u', rfl, upd_same, h2, h3, p⟩, h.2.other n.1⟩, by simp [owns]⟩, fun M' p => ⟨⟨⟨a, u, rfl, h1, h2, h3, p⟩, h.2⟩, by simp [owns]⟩,
      fun P p => ⟨⟨⟨.ref a, rfl, p⟩, h.2.otherG h2 n.1⟩, by simp [owns]⟩⟩
  | s :: Γ, o :: σ, i + 1, M, h, nd, e => by
    have nd' : (owns Γ σ).Nodup := by
      cases s with
      | no => simpa [owns] using nd
      | im P => simpa [owns] using nd
      | own M' =>
        obtain ⟨b, w, e, _⟩ := h.1
        subst e
        simp only [owns] at nd
        exact (List.nodup_cons.mp nd).2
    obtain ⟨a, u, A⟩ := Slots.own (i := i) h.2 nd' (by simpa using e)
    cases s with
    | no =>
      refine ⟨a, u, A.val, A.obj, A.gn, A.np, A.pr, by simpa [owns] using A.mem, fun M' u' p => ⟨⟨trivial, (A.chg M' u' p).1⟩, by simpa [owns] using (A.chg M' u' p).2⟩, fun M' p => ⟨⟨trivial, (A.say M' p).1⟩, by simpa [owns] using (A.say M' p).2⟩,
        fun P p => ⟨⟨trivial, (A.frz P p).1⟩, by simpa [owns] using (A.frz P p).2⟩⟩
    | im Q =>
      obtain ⟨v, e, q⟩ := h.1
      have sm : Same G (upd G a u) := fun b o e => by rw [upd_ne (ne_of_none e A.gn)]; exact e
      refine ⟨a, u, A.val, A.obj, A.gn, A.np, A.pr, by simpa [owns] using A.mem, fun M' u' p => ⟨⟨⟨v, e, q⟩, (A.chg M' u' p).1⟩, by simpa [owns] using (A.chg M' u' p).2⟩, fun M' p => ⟨⟨⟨v, e, q⟩, (A.say M' p).1⟩, by simpa [owns] using (A.say M' p).2⟩,
        fun P p => ⟨⟨⟨v, e, Q.mono sm q⟩, (A.frz P p).1⟩, by simpa [owns] using (A.frz P p).2⟩⟩
    | own M2 =>
      obtain ⟨b, w, e, h1, h2, h3, h4⟩ := h.1
      subst e
      simp only [owns] at nd
      have n := List.nodup_cons.mp nd
      have nb : b ≠ a := fun z => n.1 (by rw [z]; exact A.mem)
      have sm : Same G (upd G a u) := fun b o e => by rw [upd_ne (ne_of_none e A.gn)]; exact e
      refine ⟨a, u, A.val, A.obj, A.gn, A.np, A.pr, by simp [owns, A.mem], fun M' u' p => ⟨⟨⟨b, w, rfl, (by rw [upd_ne nb]; exact h1), h2, h3, h4⟩, (A.chg M' u' p).1⟩, ?_⟩, fun M' p => ⟨⟨⟨b, w, rfl, h1, h2, h3, h4⟩, (A.say M' p).1⟩, ?_⟩,
        fun P p => ⟨⟨⟨b, w, rfl, h1, (by rw [upd_ne nb]; exact h2), h3, M2.mono sm h4⟩, (A.frz P p).1⟩, ?_⟩⟩
      · show owns (.own M2 :: Γ.set i (.own M')) (some (.ref b) :: σ) = owns (.own M2 :: Γ) (some (.ref b) :: σ)
        simp only [owns]
        rw [(A.chg M' u' p).2]
      · show owns (.own M2 :: Γ.set i (.own M')) (some (.ref b) :: σ) = owns (.own M2 :: Γ) (some (.ref b) :: σ)
        simp only [owns]
        rw [(A.say M' p).2]
      · show (owns (.own M2 :: Γ.set i (.im P)) (some (.ref b) :: σ)).Sublist (owns (.own M2 :: Γ) (some (.ref b) :: σ))
        simp only [owns]
        exact (A.frz P p).2.cons₂ _
  | _ :: _, [], _, _, h, _, _ => h.elim
end
section
variable {pn : Option Addr} {Γ Γ1 : Gam} {c c1 c2 : Nat} {S S1 S2 : MP} {te ta tb : TE} {tt : TT} {t u ts : TS} {O O1 : Outs} {K : PySem.W.Frag} {Ps : List MP}
/-- the state behind a change at a, which slot i's maker still has -/
theorem go_mut {G H : Hp} {σ : L2.St} {n i : Nat} {M M' : MO} {a : Addr} {u u' : HO} (E : Env pn G H Γ σ n) (A : OwnAt pn G H Γ σ i M a u) (p : M'.pr G a u') : Go pn Γ σ G H n 0 (Γ.set i (.own M')) σ G (upd H a u') n := by
  obtain ⟨s1, o1⟩ := A.chg M' u' p
  have nt := M.nt A.pr
  refine ⟨⟨fun b o e => ?_, E.pen.updH A.np (no_tbl A.obj), s1, by rw [o1]; exact E.nd⟩, (Stp.refl E.gh).trans (Stp.chg E.gh A.gn (by rw [A.obj]; exact fun z => nomatch z)) fun x h => .inl (by rw [List.mem_singleton.mp h]; exact A.mem), Nat.le_refl _, fun b hb => .inl (by rw [o1] at hb; exact hb)⟩
  rw [upd_ne (ne_of_none e A.gn)]
  exact E.gh b o e
theorem OwnAt.step {G H G1 H1 : Hp} {σ : L2.St} {n n1 i : Nat} {M : MO} {a : Addr} {u : HO} (E : Env pn G H Γ σ n) (A : OwnAt pn G H Γ σ i M a u) (hi : Γ[i]? = some (.own M)) (k : Stp pn [] G H G1 H1) (p : PenOk pn G1 H1 n1) : OwnAt pn G1 H1 Γ σ i M a u := by
  have E1 := E.step k p
  obtain ⟨a', u', A'⟩ := E1.sl.own E1.nd hi
  have e1 := A.val.symm.trans A'.val
  cases e1
  have nt := M.nt A.pr
  have h1 := k.hh a u A.obj A.np (fun z => nomatch z)
  have e2 := h1.symm.trans A'.obj
  cases e2
  exact A'
/-- name.append(e) -/
theorem sx_append {i : Nat} (hi : Γ[i]? = some (.own (oL Ps))) (ha : Ev pn ta Γ c S) (hl : Ps.length < 100000) (hn : O.nx (Γ.set i (.own (oL (Ps ++ [S]))))) : Sx pn (tDrop (tBM K "list" rAppend (tVar i) (tCons ta tNil))) Γ c O := .mk fun {G H σ n} D E l q1 q2 q3 q4 => by
  obtain ⟨a, u, A⟩ := E.sl.own E.nd hi
  obtain ⟨vs, eu, z⟩ := A.pr
  subst eu
  refine ⟨.ref a, A.val, .inl ⟨rfl, _, SqL.of A.obj⟩, ha.run E l _ fun y G1 H1 n1 k p ln s => ?_⟩
  have A1 := A.step E hi k p
  have E1 := E.step k p
  refine ⟨a, vs, y, rfl, rfl, A1.obj, Nat.lt_of_le_of_lt (m := 100000) (by rw [z.len]; omega) (by decide), ?_⟩
  have g := go_mut (M' := oL (Ps ++ [S])) (u' := .lst (vs ++ [y])) E1 A1 ⟨_, rfl, (z.mono k.gg).app ⟨s, trivial⟩⟩
  exact q1 _ _ _ _ _ hn (((Go.of E k ln E1 fun _ h => .inl h).trans g).more (by omega))
/-- from here on the list stands -/
theorem sx_freeze {i : Nat} (hi : Γ[i]? = some (.own (oL Ps))) (h : Sx pn ts (Γ.set i (.im (mL Ps))) c O) : Sx pn ts Γ c O := .mk fun {G H σ n} D E l q1 q2 q3 q4 => by
  obtain ⟨a, u, A⟩ := E.sl.own E.nd hi
  obtain ⟨vs, eu, z⟩ := A.pr
  subst eu
  have sm : Same G (upd G a (.lst vs)) := fun b o e => by rw [upd_ne (ne_of_none e A.gn)]; exact e
  obtain ⟨s1, o1⟩ := A.frz (mL Ps) ⟨a, vs, rfl, upd_same, z.mono sm⟩
  have E1 : Env pn (upd G a (.lst vs)) H (Γ.set i (.im (mL Ps))) σ n := ⟨fun b o e => by
    by_cases x : b = a
    · rw [x, upd_same] at e
      rw [x, A.obj]
      exact .inl e
    · rw [upd_ne x] at e
      exact E.gh b o e, pen_upd E.pen A.gn A.np (no_tbl A.obj), s1, E.nd.sublist o1⟩
  have f : ∀ {O' G2 H2}, O' = owns (Γ.set i (.im (mL Ps))) σ → Stp pn O' (upd G a (.lst vs)) H G2 H2 → Stp pn (owns Γ σ) G H G2 H2 := fun e k => by
    subst e
    exact ⟨sm.trans k.gg, k.gh, fun b o e1 e2 e3 nt => k.hh b o e1 e2 fun x => e3 (o1.subset x), fun b e1 e2 e3 e4 => k.nw b (by rw [upd_ne (fun x => e3 (by rw [x]; exact A.mem))]; exact e1) e2 (fun x => e3 (o1.subset x)) e4, k.ks, fun P q m t n1 n2 => k.tb P q m (t.updG A.gn fun x => n2 (by rw [x]; exact A.mem)) n1 fun x => n2 (o1.subset x)⟩
  have g : ∀ {Γ2 σ2 G2 H2 n2}, Go pn (Γ.set i (.im (mL Ps))) σ (upd G a (.lst vs)) H n c Γ2 σ2 G2 H2 n2 → Go pn Γ σ G H n c Γ2 σ2 G2 H2 n2 := fun g => ⟨g.env, f rfl g.stp, g.le, fun b hb => (g.ow b hb).imp (fun x => o1.subset x) id⟩
  exact h.run D E1 l (fun _ _ _ _ _ a b => q1 _ _ _ _ _ a (g b)) (fun v G' H' n' k p ln s => q2 v G' H' n' (f rfl k) p ln s) (fun _ _ _ _ _ a b => q3 _ _ _ _ _ a (g b)) (fun _ _ _ _ _ a b => q4 _ _ _ _ _ a (g b))
theorem x_append {i : Nat} (hi : Γ[i]? = some (.own (oL Ps))) (ha : Ev pn ta Γ c1 S) (hl : Ps.length < 100000) (h2 : Sx pn u (Γ.set i (.own (oL (Ps ++ [S])))) (c - c1) O) (hc : c1 ≤ c := by first | decide | omega | simp) :
    Sx pn (tSeq (tDrop (tBM K "list" rAppend (tVar i) (tCons ta tNil))) u) Γ c O := x_seq1 _ (sx_append hi ha hl rfl) h2 hc
end
end Ev

set_option Elab.async false
set_option linter.all false
set_option maxRecDepth 100000
set_option maxHeartbeats 4000000
/-! list(dict), extend, concatenation, enumerate and range by Lean's lists. -/
namespace Ev
open PySem PySem.Spec L2
variable [z : Tz]
section
variable {pn : Option Addr} {Γ Γ1 : Gam} {c c1 c2 : Nat} {S S1 S2 : MP} {te ta tb tl : TE} {tt : TT} {t u ts : TS} {tr : TA} {O O1 : Outs} {K : PySem.W.Frag} {Ps Qs : List MP}
theorem rc_listD {ws : List (Str × Int)} : RC (fun xs H Q => ∃ (a : Addr) (kvs : List (Key × V)), xs = [.ref a] ∧ Rd H a (.dK kvs) ∧ ∀ p, H p = none → Q (.ref p) (upd H p (.lst (kvs.map fun kv => kV kv.1)))) [mDk ws] (mStrs (ws.map (·.1))) := .mk fun {G H vs} e z Q q => by
  obtain ⟨v, rfl, a, rfl, ha⟩ := zip1 z
  refine ⟨a, dkv ws, rfl, e.rd ha, fun p hp => ?_⟩
  have k := Stp.new (o := .lst ((dkv ws).map fun kv => kV kv.1)) e hp
  refine q (.ref p) _ _ k ⟨p, _, rfl, upd_same, ?_⟩
  have h : ((dkv ws).map fun kv => kV kv.1) = (ws.map (·.1)).map V.str := by
    unfold dkv
    rw [List.map_map, List.map_map]
    rfl
  rw [h]
  have := Zip.vals (G := upd G p (.lst ((dkv ws).map fun kv => kV kv.1))) ((ws.map (·.1)).map V.str)
  rw [List.map_map] at this
  rw [h] at this
  exact this
theorem rv_catM {α : Type} {xs ys : List α} {R : α → MP} (h : xs.length + ys.length ≤ 100000) : RV rCat (mL (xs.map R)) (mL (ys.map R)) (mL ((xs ++ ys).map R)) := by
  have k := rv_cat (Ps := xs.map R) (Qs := ys.map R) (by simpa using h)
  rw [← List.map_append] at k
  exact k
theorem cutA_take {α : Type} (xs : List α) (n : Nat) : cutA xs none (some (n : Int)) = xs.take n := by
  unfold cutA
  rw [HT.sIx_none, HT.sIx_nat, List.drop_zero, Nat.sub_zero]
  by_cases h : n ≤ xs.length
  · rw [Nat.min_eq_left h]
  · rw [Nat.min_eq_right (by omega), List.take_of_length_le (by omega), List.take_of_length_le (by omega)]
theorem cutA_drop {α : Type} (xs : List α) (n : Nat) : cutA xs (some (n : Int)) none = xs.drop n := by
  unfold cutA
  rw [HT.sIx_none, HT.sIx_nat]
  by_cases h : n ≤ xs.length
  · rw [Nat.min_eq_left h, List.take_of_length_le (by rw [List.length_drop]; exact Nat.le_refl _)]
  · rw [Nat.min_eq_right (by omega), List.drop_eq_nil_of_le (Nat.le_refl _), List.drop_eq_nil_of_le (by omega)]
    simp
def enumN {α : Type} : Nat → List α → List (Nat × α)
  | _, [] => []
  | i, x :: xs => (i, x) :: enumN (i + 1) xs
theorem enum_map {α : Type} {R : α → MP} : ∀ (i : Nat) (xs : List α), enumFrom i (xs.map R) = (enumN i xs).map fun p => mT [mI (p.1 : Nat), R p.2]
  | _, [] => rfl
  | i, x :: xs => by
    show mT [mV (.int (i : Nat)), R x] :: enumFrom (i + 1) (xs.map R) = _
    rw [enum_map (i + 1) xs]
    rfl
theorem ei_enumM {α : Type} {xs : List α} {R : α → MP} (h : EvA pn tr Γ c [mL (xs.map R)]) : EvI pn (iEnum K tr) Γ c (· = (enumN 0 xs).map fun p => mT [mI (p.1 : Nat), R p.2]) := by
  have k := ei_enum (K := K) h
  rw [enum_map] at k
  exact k
theorem enumN_len {α : Type} : ∀ (i : Nat) (xs : List α), (enumN i xs).length = xs.length
  | _, [] => rfl
  | i, _ :: xs => congrArg (· + 1) (enumN_len (i + 1) xs)
theorem enumN_app {α : Type} : ∀ (i : Nat) (xs : List α) {pre post : List (Nat × α)} {p : Nat × α}, enumN i xs = pre ++ p :: post → p.1 = i + pre.length ∧ xs[pre.length]? = some p.2 ∧ pre = enumN i (xs.take pre.length)
  | i, [], pre, post, p, h => by cases pre <;> simp [enumN] at h
  | i, x :: xs, [], post, p, h => by
    have h' : (i, x) :: enumN (i + 1) xs = p :: post := h
    have e := (List.cons.inj h').1
    subst e
    exact ⟨rfl, rfl, rfl⟩
  | i, x :: xs, y :: pre, post, p, h => by
    have h' : (i, x) :: enumN (i + 1) xs = y :: (pre ++ p :: post) := h
    obtain ⟨e1, e2⟩ := List.cons.inj h'
    obtain ⟨a, b, c⟩ := enumN_app (i + 1) xs e2
    subst e1
    refine ⟨by rw [a, List.length_cons]; omega, by simpa using b, ?_⟩
    show (i, x) :: pre = (i, x) :: enumN (i + 1) (xs.take pre.length)
    rw [← c]
/-- over range(j) -/
theorem ei_rngJ {j : Int} (h : EvA pn tr Γ c [mI j]) (h1 : -(2 ^ 62) ≤ j) (h2 : j < 2 ^ 62) : EvI pn (iRng1 tr) Γ c (· = (List.range j.toNat).map fun i => mI (0 + (i : Nat))) := by
  refine .mk fun {G H σ n} E l R r => ?_
  refine h.run E l _ fun vs G' H' n' k p ln z => ?_
  obtain ⟨v, e, e'⟩ := zip1 z
  refine ⟨j, ?_, h1, h2, r _ G' H' n' _ k p ln rfl (its_rng 0 j.toNat)⟩
  rw [e, show v = V.int j from e']
/-- name.extend(e) -/
theorem sx_extend {i : Nat} (hi : Γ[i]? = some (.own (oL Ps))) (ha : Ev pn ta Γ c (mL Qs)) (hl : Ps.length + Qs.length ≤ 100000) (hn : O.nx (Γ.set i (.own (oL (Ps ++ Qs))))) : Sx pn (tDrop (tBM K "list" rExtend (tVar i) (tCons ta tNil))) Γ c O := .mk fun {G H σ n} D E l q1 q2 q3 q4 => by
  obtain ⟨a, u, A⟩ := E.sl.own E.nd hi
  obtain ⟨vs, eu, z⟩ := A.pr
  subst eu
  refine ⟨.ref a, A.val, .inl ⟨rfl, _, SqL.of A.obj⟩, ha.run E l _ fun y G1 H1 n1 k p ln ⟨b, ws, ey, hb, z2⟩ => ?_⟩
  subst ey
  have A1 := A.step E hi k p
  have E1 := E.step k p
  refine ⟨a, b, vs, ws, rfl, rfl, A1.obj, k.gh.x hb, small (by rw [z.len, z2.len]; exact hl), ?_⟩
  have g := go_mut (M' := oL (Ps ++ Qs)) (u' := .lst (vs ++ ws)) E1 A1 ⟨_, rfl, (z.mono k.gg).app z2⟩
  exact q1 _ _ _ _ _ hn (((Go.of E k ln E1 fun _ h => .inl h).trans g).more (by omega))
end
end Ev

set_option Elab.async false
set_option linter.all false
set_option maxRecDepth 100000
set_option maxHeartbeats 4000000
/-! Rules that name the written part, with it given by name (within a comprehension it does not hang on the block). -/
namespace Ev
open PySem PySem.Spec L2
variable [z : Tz]
section
variable {X : Cx} {K : PySem.W.Frag}
theorem ix_listK (h : X.K = K := by rfl) : IxR X (rIxL K) := h ▸ ix_list
theorem ix_tupK (h : X.K = K := by rfl) : IxR X (rIxT K) := h ▸ ix_tup
theorem sl_listK (h : X.K = K := by rfl) : SlR X (rSlL K) := h ▸ sl_list
theorem op_inK (h : X.K = K := by rfl) : OpR X (compareOp .In) (rIn K false) := h ▸ op_in_seq
theorem op_notInK (h : X.K = K := by rfl) : OpR X (compareOp .NotIn) (rIn K true) := h ▸ op_notIn_seq
theorem call_lenK (h : X.K = K := by rfl) : CallR X (.builtin "len") (rLenX K) := h ▸ call_len_seq
theorem op_eqDK (hu : X.A.units + 64 < cLine) (h : X.K = K := by rfl) : OpR X (compareOp .Eq) (rEqD K) := h ▸ op_eqD hu
theorem op_neDK (hu : X.A.units + 64 < cLine) (h : X.K = K := by rfl) : OpR X (compareOp .NotEq) (rNeD K) := h ▸ op_neD hu
theorem mt_indexK (h : X.K = K := by rfl) : MtR X "list.index" (rIndex K) := h ▸ mt_index
end
end Ev

set_option Elab.async false
set_option linter.all false
set_option maxRecDepth 100000
set_option maxHeartbeats 4000000
/-! Objects that no longer change: fields, methods, properties; data compared; min, max, list * int. -/
namespace Ev
open PySem PySem.Spec L2
variable [z : Tz]
/-- fields by name -/
def ZipF (G : Hp) : List (Str × MP) → List (Str × V) → Prop
  | [], [] => True
  | (f, P) :: Ps, (g, v) :: vs => f = g ∧ P.pr G v ∧ ZipF G Ps vs
  | [], _ :: _ => False
  | _ :: _, [] => False
theorem ZipF.mono {G G' : Hp} (s : Same G G') : ∀ {Ps : List (Str × MP)} {vs : List (Str × V)}, ZipF G Ps vs → ZipF G' Ps vs
  | [], [], _ => trivial
  | (_, P) :: Ps, (_, v) :: vs, h => ⟨h.1, P.mono s h.2.1, ZipF.mono s h.2.2⟩
  | [], _ :: _, h => h.elim
  | _ :: _, [], h => h.elim
theorem ZipF.look {G : Hp} {f : Str} : ∀ {Ps : List (Str × MP)} {vs : List (Str × V)}, ZipF G Ps vs → (∀ P, Ps.lookup f = some P → ∃ v, vs.lookup f = some v ∧ P.pr G v) ∧ (Ps.lookup f = none → vs.lookup f = none)
  | [], [], _ => ⟨fun P e => by simp at e, fun _ => by simp⟩
  | (g, P) :: Ps, (g', v) :: vs, h => by
    obtain ⟨e, p, z⟩ := h
    subst e
    obtain ⟨h1, h2⟩ := ZipF.look (f := f) z
    by_cases c : f = g
    · subst c
      refine ⟨fun P' e => ?_, fun e => ?_⟩
      · simp [List.lookup] at e
        subst e
        exact ⟨v, by simp [List.lookup], p⟩
      · simp [List.lookup] at e
    · have c' : (f == g) = false := by simpa using c
      refine ⟨fun P' e => ?_, fun e => ?_⟩
      · simp only [List.lookup, c'] at e ⊢
        exact h1 P' e
      · simp only [List.lookup, c'] at e ⊢
        exact h2 e
  | [], _ :: _, h => h.elim
  | _ :: _, [], h => h.elim
def mOb (C : Addr) (fs : List (Str × MP)) : MP := ⟨fun G v => ∃ a dx gs, v = .ref a ∧ G a = some (.ins C dx gs) ∧ ZipF G fs gs, fun s ⟨a, dx, gs, e, h, z⟩ => ⟨a, dx, gs, e, s _ _ h, z.mono s⟩⟩
section
variable {P : Program} {w : World} {K : PySem.W.Frag} {mg : Str → Option Value} {base : Heap}
/-- a method of the class at C, with its promise -/
structure Fm (P : Program) (w : World) (K : PySem.W.Frag) (mg : Str → Option Value) (base : Heap) (k : Nat) (C : Addr) (m : Str) (ps : List Str) (sp : Sp) : Prop where
  cls : Cls K C
  ex : ∃ f fd, Meth K C m f ∧ Binds K fd ps [] ∧ GnOk P w K mg base CX0 k f fd ps sp
theorem pe_fm {X : Cx} {k : Nat} {C : Addr} {m : Str} {ps : List Str} {sp : Sp} {o e : Expr} {es : List Expr} {ta : TE} {t : TA} {apos pos : Pos} {pl : Sem Bool} (ho : PE X o ta) (G : Fm X.prog X.w X.K X.mg X.base k C m ps sp) (hc : Calm X.A) (hr : Room k X.A) (ha : PA X (e :: es) t)
    (hst : starEach (e :: es) X.env = (false, eval e X.env) :: starEach es X.env := by rfl) (hpl : (backTo pos (starEach es X.env)).any (·.1) = false := by rfl)
    (ht : eval (.Call (.Attribute o m apos) (e :: es) [] pos) X.env = (do
      let ov ← eval o X.env
      standAt apos.atName
      let (f, first) ← holding [ov] (getMethod ov m pl)
      callWith pos f first (backTo pos (starEach (e :: es) X.env)) (backToKw pos (keywordEach [] X.env))) := by rfl) :
    PE X (.Call (.Attribute o m apos) (e :: es) [] pos) (tMeth C m sp [] E0 ta t) := by
  obtain ⟨f, fd, h1, h2, h3⟩ := G.ex
  exact pe_methG ho G.cls h1 h3 hc hr h2 .nil pass0 ha hst hpl ht
end
section
variable {pn : Option Addr} {Γ Γ1 : Gam} {c c1 c2 : Nat} {S S1 S2 : MP} {te ta tb tl : TE} {tt : TT} {t : TA} {K : PySem.W.Frag} {Ps Qs : List MP}
theorem ev_fld {C : Addr} {f : Str} {fs : List (Str × MP)} {P : MP} (h : Ev pn te Γ c (mOb C fs)) (hc : Cls K C) (hn : NoAttr K C f) (hl : fs.lookup f = some P) : Ev pn (tFld K te f) Γ c P := .mk fun {G H σ n} E l Q q =>
  h.run E l _ fun x G1 H1 n1 k1 p1 l1 ⟨a, dx, gs, ex, ha, z⟩ => by
    obtain ⟨v, hv, pv⟩ := (z.look (f := f)).1 P hl
    exact ⟨a, C, dx, gs, v, ex, k1.gh.x ha, hc, hn, hv, q v G1 H1 n1 k1 p1 l1 pv⟩
theorem ev_meth {α : Type} {ar : α → List MP} {pre : α → Prop} {res : α → MP} {E : XK} {C : Addr} {m : Str} {fs : List (Str × MP)} (x : α) (ho : Ev pn ta Γ c1 (mOb C fs)) (hm : fs.lookup m = none) (ha : EvA pn t Γ c2 Ps) (har : ar x = mOb C fs :: Ps) (hp : pre x) :
    Ev pn (tMeth C m (SpF ar pre res) [] E ta t) Γ (c1 + c2) (res x) := .mk fun {G H σ n} En l Q q =>
  ho.run En (by omega) _ fun y G1 H1 n1 k1 p1 l1 ⟨a, dx, gs, ey, hg, z⟩ => by
    subst ey
    refine ⟨a, dx, gs, rfl, k1.gh.x hg, (z.look (f := m)).2 hm, ha.run (En.step k1 p1) (by omega) _ fun vs G2 H2 n2 k2 p2 l2 s2 => ?_⟩
    refine ⟨x, G2, hp, ⟨k2.gh, p2.tab⟩, ?_, fun v G3 H3 k3 s3 => ?_⟩
    · rw [har, List.append_nil]
      exact ⟨⟨a, dx, gs, rfl, k2.gg _ _ hg, z.mono k2.gg⟩, s2⟩
    · obtain ⟨k4, p4⟩ := k3.pure p2
      exact q v G3 H3 n2 ((k1.trans0 k2).trans0 k4) p4 (by omega) s3
/-! data -/
def HasD (K : PySem.W.Frag) (S : MP) (d : PyData) : Prop := ∀ {G H : Hp} {v : V}, Sm G H → S.pr G v → Dp K H v d
theorem hd_int {i : Int} : HasD K (mI i) (.int i) := fun _ h => by cases h; exact .int i
theorem hd_str {x : Str} : HasD K (mS x) (.str x) := fun _ h => by cases h; exact .str x
theorem hd_bl {b : Bool} : HasD K (mV (.bl b)) (.bool b) := fun _ h => by cases h; exact .bl b
theorem hd_non : HasD K (mV .non) .none := fun _ h => by cases h; exact .non
inductive HasDs (K : PySem.W.Frag) : List MP → List PyData → Prop
  | nil : HasDs K [] []
  | cons {S : MP} {d : PyData} {Ss : List MP} {ds : List PyData} (h : HasD K S d) (hs : HasDs K Ss ds) : HasDs K (S :: Ss) (d :: ds)
theorem HasDs.all {G H : Hp} (e : Sm G H) : ∀ {Ss : List MP} {ds : List PyData} {vs : List V}, HasDs K Ss ds → Zip G Ss vs → DpAll K H vs ds
  | [], _, [], h, _ => by cases h; exact .nil
  | S :: Ss, _, v :: vs, h, z => by
    cases h with
    | cons h hs => exact .cons (h e z.1) (hs.all e z.2)
  | [], _, _ :: _, _, z => z.elim
  | _ :: _, _, [], _, z => z.elim
theorem hd_lst {ds : List PyData} (h : HasDs K Ps ds) : HasD K (mL Ps) (.list ds) := fun e ⟨a, vs, ev, ha, z⟩ => by
  subst ev
  exact .lst (SqL.of (e.x ha)) (h.all e z)
theorem hd_tup {ds : List PyData} (h : HasDs K Ps ds) : HasD K (mT Ps) (.tuple ds) := fun e ⟨a, vs, ev, ha, z⟩ => by
  subst ev
  exact .tup (SqT.of (e.x ha)) (h.all e z)
theorem hds_map {α : Type} {R : α → MP} {d : α → PyData} (h : ∀ x, HasD K (R x) (d x)) : ∀ xs : List α, HasDs K (xs.map R) (xs.map d)
  | [] => .nil
  | x :: xs => .cons (h x) (hds_map h xs)
theorem rv_neD {d e : PyData} (h1 : HasD K S1 d) (h2 : HasD K S2 e) (s1 : SeqAt.shaped d = true) (s2 : SeqAt.shaped e = true) : RV (rNeD K) S1 S2 (mV (.bl (!PyData.eqv d e))) := .mk fun {G H x y} k a b Q q => ⟨d, e, h1 k a, h2 k b, s1, s2, q _ G H (.refl k) rfl⟩
theorem rv_eqDD {d e : PyData} (h1 : HasD K S1 d) (h2 : HasD K S2 e) (s1 : SeqAt.shaped d = true) (s2 : SeqAt.shaped e = true) : RV (rEqD K) S1 S2 (mV (.bl (PyData.eqv d e))) := .mk fun {G H x y} k a b Q q => ⟨d, e, h1 k a, h2 k b, s1, s2, q _ G H (.refl k) rfl⟩
/-! least, greatest -/
theorem rc_min {ns : List Int} (h : 0 < ns.length) : RC (rMin K) [mRow ns] (mInts fun m => m ∈ ns ∧ ∀ n ∈ ns, m ≤ n) := .mk fun {G H vs} e z Q q => by
  obtain ⟨v, rfl, a, ws, rfl, ha, z'⟩ := zip1 z
  rw [zip_ints z'] at ha
  exact ⟨a, ns, rfl, SqL.of (e.x ha), h, fun m hm hle => q _ G H (.refl e) ⟨m, ⟨hm, hle⟩, rfl⟩⟩
theorem rc_max {ns : List Int} (h : 0 < ns.length) : RC (rMax K) [mRow ns] (mInts fun m => m ∈ ns ∧ ∀ n ∈ ns, n ≤ m) := .mk fun {G H vs} e z Q q => by
  obtain ⟨v, rfl, a, ws, rfl, ha, z'⟩ := zip1 z
  rw [zip_ints z'] at ha
  exact ⟨a, ns, rfl, SqL.of (e.x ha), h, fun m hm hle => q _ G H (.refl e) ⟨m, ⟨hm, hle⟩, rfl⟩⟩
end
end Ev

set_option Elab.async false
set_option linter.all false
set_option maxRecDepth 100000
set_option maxHeartbeats 4000000
/-! a | b (and the like) of two objects of one own class that defines the operator. -/
namespace Ev
open PySem PySem.Spec L2
variable [z : Tz]
section
open PySem.W PyProof.Rows
variable {prog : Program} {w : World} {A : Around} {E : Value → Shared → Prop} {s : Shared} {K : Frag} {x C f : Addr} {ox : Obj} {od : Option Obj}
theorem binop_own {op : Operator} {b : Value} {Q : Value → Shared → Prop} (X : K.In s.heap) (I : InstAt s.heap x ox C od) (hb : Looks (model prog w) s.heap (typeOf b) (.ref C)) (hc : selfFirst K C = true)
    (hs : findIn K (.ref C) (PySem.dunder op.info.2) = some (some (.ref f))) (hf : isFn K (.ref f) = true)
    (h : wpAny (model prog w) A (call (.ref f) [.ref x, b]) (PySem.W.CmpBack Q) E s) : wpAny (model prog w) A (binaryOp op (.ref x) b) Q E s := by
  obtain ⟨cd, hcd, hm⟩ := any_some hc
  obtain ⟨rest, hm⟩ : ∃ rest, cd.mro = .ref C :: rest := by
    (cases q : cd.mro with
      | nil => (rw [q] at hm; cases hm)
      | cons a r => (rw [q] at hm; refine ⟨r, ?_⟩; rw [List.head?_cons] at hm; cases (beq_iff_eq.mp hm); rfl))
  have key := fills_K (M := model prog w) X hcd hm hs
  (unfold binaryOp; refine wpAny_holding (wpAny_bind ?_); unfold binaryOp1; refine wpAny_bind (I.type.here (wpAny_bind (hb.here (wpAny_bind (key.here ?_))))))
  (simp only [beq_self_eq_true, if_true]; refine wpAny_bind (wpAny_pure ?_); simp only [Bool.and_false, Bool.false_eq_true, if_false, Bool.false_and]; refine wpAny_bind (wpAny_pure ?_); simp only [Bool.false_eq_true, if_false])
  (refine wpAny_bind (m := tryMethod (.ref x) _ b) ?_; unfold tryMethod; refine wpAny_bind (special_fn X I hs (beq_iff_eq.mp hf) (wpAny_mono h (fun v s' hv => ?_) fun _ _ e => e)))
  (cases v <;> first | exact hv.elim | exact wpAny_pure (wpAny_pure (wpAny_pure hv)))
end
section
variable {X : Cx} {K : PySem.W.Frag} {k : Nat} {C f : Addr} {fd : FuncData} {ps : List Str} {sp : Sp}
def rOwn (C : Addr) (sp : Sp) : R2 := fun x y H Q => ∃ a b dx dy fs gs, x = .ref a ∧ y = .ref b ∧ H a = some (.ins C dx fs) ∧ H b = some (.ins C dy gs) ∧ sp [.ref a, .ref b] H Q E0
theorem op_own {op : Operator} (F : GnOk X.prog X.w X.K X.mg X.base CX0 k f fd ps sp) (hc0 : Calm X.A) (hr : Room k X.A) (hb : Binds X.K fd ps []) (c : Cls X.K C) (hc : PySem.W.selfFirst X.K C = true)
    (hs : PySem.W.findIn X.K (.ref C) (PySem.dunder op.info.2) = some (some (.ref f))) (hf : PySem.W.isFn X.K (.ref f) = true) : OpR X (binaryOp op) (rOwn C sp) := by
  intro pins s σ H x y v u Q I rx ry h
  obtain ⟨a, b, dx, dy, fs, gs, rfl, rfl, ha, hb2, q⟩ := h
  obtain rfl : v = Value.ref a := rx
  obtain rfl : u = Value.ref b := ry
  obtain ⟨mA, O, _⟩ := ins_get I.hok ha
  obtain ⟨od, J, _⟩ := O.look
  obtain ⟨mB, O2, _⟩ := ins_get I.hok hb2
  obtain ⟨od2, J2, _⟩ := O2.look
  refine binop_own I.kIn J (PySem.W.InstAt.type J2) hc hs hf (wpAny_mono (gn_run (vs := [.ref a, .ref b]) (xs := [.ref a, .ref b]) F hc0 hr hb .nil pass0 I (.cons rfl (.cons rfl .nil)) q) (fun z s' hz => ?_) fun _ _ e => e)
  obtain ⟨zv, H', I', rz, qz⟩ := hz
  cases z <;> first
    | exact ⟨zv, H', I', rz, qz⟩
    | (exfalso; cases zv <;> first | (obtain ⟨t, e⟩ := rz; cases e; done) | (cases rz; done))
end
end Ev

set_option Elab.async false
set_option linter.all false
set_option maxRecDepth 100000
set_option maxHeartbeats 4000000
/-! Dicts that their maker fills; from here on they stand. -/
namespace Ev
open PySem PySem.Spec L2
variable [z : Tz]
def oDk (ws : List (Str × Int)) : MO := ⟨fun _ _ o => o = .dK (dkv ws), fun _ e => e, fun e => by rw [show _ = _ from e]; rfl⟩
section
variable {pn : Option Addr} {Γ Γ1 : Gam} {c c1 c2 : Nat} {S S1 S2 : MP} {te ta tb tv ty : TE} {tt : TT} {t u ts : TS} {O O1 : Outs} {K : PySem.W.Frag} {Ps : List MP}
theorem en_dnew : EvN pn tDNewK Γ 0 (oDk []) := .mk fun {G H σ n} E l Q q => fun a ha => by
  have k := Stp.newH (o := .dK []) E.gh ha
  obtain ⟨k4, p4⟩ := k.pure E.pen
  exact q a _ _ _ n k4 p4 (Nat.le_refl _) ha (E.gh.free ha) upd_same rfl
theorem dkv_snoc (ws : List (Str × Int)) (s : Str) (d : Int) (h : look ws s = none) : putK (dkv ws) (.inr s) (.int d) = dkv (ws ++ [(s, d)]) := by
  rw [putK_new _ (by rw [val_dkv, h]; rfl)]
  unfold dkv
  rw [List.map_append]
  rfl
/-- name[text] = a drawn number -/
theorem sx_dput {i : Nat} {s : Str} {Px : Int → Prop} {ws : List (Str × Int)} (hi : Γ[i]? = some (.own (oDk ws))) (hv : Ev pn tv Γ c1 (mInts Px)) (hy : Ev pn ty Γ c2 (mS s)) (hnew : look ws s = none) (hl : ws.length < 100000)
    (hn : ∀ d, Px d → O.nx (Γ.set i (.own (oDk (ws ++ [(s, d)]))))) : Sx pn (sDPut (tVar i) ty tv) Γ (c1 + c2) O := .mk fun {G H σ n} D E l q1 q2 q3 q4 =>
  hv.run E (by omega) _ fun v G1 H1 n1 k1 p1 l1 ⟨d, pd, ev⟩ => by
    obtain ⟨a, u, A⟩ := E.sl.own E.nd hi
    refine ⟨.ref a, A.val, hy.run (E.step k1 p1) (by omega) _ fun y G2 H2 n2 k2 p2 l2 s2 => ?_⟩
    have E2 := (E.step k1 p1).step k2 p2
    have A2 := (A.step E hi k1 p1).step (E.step k1 p1) hi k2 p2
    have eu : u = .dK (dkv ws) := A.pr
    subst eu
    have ey : y = .str s := s2
    have ev' : v = .int d := ev
    subst ey
    subst ev'
    have hz : (dkv ws).length < sizeLine := Nat.lt_of_lt_of_le (m := 100000) (by unfold dkv; rw [List.length_map]; exact hl) (by decide)
    refine ⟨a, _, rfl, DPut.k (k := .inr s) A2.obj hz, ?_⟩
    rw [dkv_snoc ws s d hnew]
    have g := go_mut (M' := oDk (ws ++ [(s, d)])) (u' := .dK (dkv (ws ++ [(s, d)]))) E2 A2 rfl
    exact q1 _ _ _ _ _ (hn d pd) (((Go.of (c := c1 + c2) E (k1.trans0 k2) (by omega) E2 fun _ h => .inl h).trans g).more (Nat.le_refl _))
/-- from here on it stands -/
theorem sx_frz {i : Nat} {M : MO} (hi : Γ[i]? = some (.own M)) (hS : ∀ {G : Hp} {a : Addr} {u : HO}, G a = none → M.pr G a u → S.pr (upd G a u) (.ref a)) (h : Sx pn ts (Γ.set i (.im S)) c O) : Sx pn ts Γ c O := .mk fun {G H σ n} D E l q1 q2 q3 q4 => by
  obtain ⟨a, u, A⟩ := E.sl.own E.nd hi
  have sm : Same G (upd G a u) := fun b o e => by rw [upd_ne (ne_of_none e A.gn)]; exact e
  obtain ⟨s1, o1⟩ := A.frz S (hS A.gn A.pr)
  have E1 : Env pn (upd G a u) H (Γ.set i (.im S)) σ n := ⟨fun b o e => by
    by_cases x : b = a
    · rw [x, upd_same] at e
      rw [x, A.obj]
      exact .inl e
    · rw [upd_ne x] at e
      exact E.gh b o e, pen_upd E.pen A.gn A.np (no_tbl A.obj (M.nt A.pr)), s1, E.nd.sublist o1⟩
  have f : ∀ {O' G2 H2}, O' = owns (Γ.set i (.im S)) σ → Stp pn O' (upd G a u) H G2 H2 → Stp pn (owns Γ σ) G H G2 H2 := fun e k => by
    subst e
    exact ⟨sm.trans k.gg, k.gh, fun b o e1 e2 e3 nt => k.hh b o e1 e2 fun x => e3 (o1.subset x), fun b e1 e2 e3 e4 => k.nw b (by rw [upd_ne (fun x => e3 (by rw [x]; exact A.mem))]; exact e1) e2 (fun x => e3 (o1.subset x)) e4, k.ks, fun P q m t n1 n2 => k.tb P q m (t.updG A.gn fun x => n2 (by rw [x]; exact A.mem)) n1 fun x => n2 (o1.subset x)⟩
  have g : ∀ {Γ2 σ2 G2 H2 n2}, Go pn (Γ.set i (.im S)) σ (upd G a u) H n c Γ2 σ2 G2 H2 n2 → Go pn Γ σ G H n c Γ2 σ2 G2 H2 n2 := fun g => ⟨g.env, f rfl g.stp, g.le, fun b hb => (g.ow b hb).imp (fun x => o1.subset x) id⟩
  exact h.run D E1 l (fun _ _ _ _ _ a b => q1 _ _ _ _ _ a (g b)) (fun v G' H' n' k p ln s => q2 v G' H' n' (f rfl k) p ln s) (fun _ _ _ _ _ a b => q3 _ _ _ _ _ a (g b)) (fun _ _ _ _ _ a b => q4 _ _ _ _ _ a (g b))
theorem sx_frzD {i : Nat} {ws : List (Str × Int)} (hi : Γ[i]? = some (.own (oDk ws))) (h : Sx pn ts (Γ.set i (.im (mDk ws))) c O) : Sx pn ts Γ c O :=
  sx_frz (S := mDk ws) hi (fun {G a u} ga e => ⟨a, rfl, by rw [upd_same, show u = _ from e]⟩) h
/-- a list's first part, of a drawn length -/
theorem ev_takeX {α : Type} {xs : List α} {R : α → MP} {Px : Int → Prop} (h : Ev pn te Γ c1 (mL (xs.map R))) (hi : Ev pn ta Γ c2 (mInts Px)) (hP : ∀ d, Px d → 0 ≤ d) :
    Ev pn (tSl (rSlL K) te tNoPart (tPart ta)) Γ (c1 + c2) (mEx Px fun d => mL ((xs.take d.toNat).map R)) := .mk fun {G H σ n} E l Q q =>
  h.run E (by omega) _ fun x G1 H1 n1 k1 p1 l1 ⟨a, vs, ex, ha, z⟩ => hi.run (E.step k1 p1) (by omega) _ fun y G2 H2 n2 k2 p2 l2 ⟨d, pd, ey⟩ => by
    refine ⟨d, ey, a, vs, ex, SqL.of (k2.gh.x (k2.gg _ _ ha)), fun p hp => ?_⟩
    have k := Stp.new (o := .lst (cutV vs none (some d))) k2.gh hp
    obtain ⟨k4, p4⟩ := k.pure p2
    refine q (.ref p) _ _ n2 ((k1.trans0 k2).trans0 k4) p4 (by omega) ⟨d, pd, p, _, rfl, upd_same, ?_⟩
    have e : (xs.take d.toNat).map R = cutA (xs.map R) none (some d) := by
      have h0 := hP d pd
      obtain ⟨m, rfl⟩ : ∃ m : Nat, d = (m : Int) := ⟨d.toNat, by omega⟩
      rw [cutA_take, Int.toNat_natCast, List.map_take]
    rw [e]
    exact zip_cut (z.mono (k2.gg.trans k.gg))
end
end Ev

set_option Elab.async false
set_option linter.all false
set_option maxRecDepth 100000
set_option maxHeartbeats 4000000
/-! Objects that are being made: fields stored and read, __init__, C(..). -/
namespace Ev
open PySem PySem.Spec L2
variable [z : Tz]
/-- the instance at a0, its fields so far -/
def oOb (C a0 : Addr) (fs : List (Str × MP)) : MO := ⟨fun G a o => a = a0 ∧ ∃ dx gs, o = .ins C dx gs ∧ ZipF G fs gs, fun s ⟨ea, dx, gs, e, z⟩ => ⟨ea, dx, gs, e, z.mono s⟩, fun ⟨_, _, _, e, _⟩ => by rw [e]; rfl⟩
def mNo : MP := ⟨fun _ _ => False, fun _ z => z⟩
theorem ZipF.len {G : Hp} : ∀ {Ps : List (Str × MP)} {vs : List (Str × V)}, ZipF G Ps vs → vs.length = Ps.length
  | [], [], _ => rfl
  | (_, _) :: _, (_, _) :: _, h => congrArg (· + 1) (ZipF.len h.2.2)
  | [], _ :: _, h => h.elim
  | _ :: _, [], h => h.elim
theorem ZipF.put {G : Hp} {f : Str} {P : MP} {v : V} (p : P.pr G v) : ∀ {Ps : List (Str × MP)} {vs : List (Str × V)}, ZipF G Ps vs → Ps.lookup f = none → ZipF G (Ps ++ [(f, P)]) (putF f v vs)
  | [], [], _, _ => ⟨rfl, p, trivial⟩
  | (g, R) :: Ps, (g', u) :: vs, h, e => by
    obtain ⟨e1, r, z⟩ := h
    subst e1
    have c : ¬ f = g := fun c => by
      subst c
      simp [List.lookup] at e
    have c' : (f == g) = false := by simpa using c
    simp only [List.lookup, c'] at e
    have ih := ZipF.put p z e
    have hp : putF f v ((g, u) :: vs) = (g, u) :: putF f v vs := by
      simp only [putF]
      first
        | rw [if_neg (fun z => c z.symm)]
        | rw [if_neg c]
        | simp [c, fun z => c (Eq.symm z)]
    rw [hp]
    exact ⟨rfl, r, ih⟩
  | [], _ :: _, h, _ => h.elim
  | _ :: _, [], h, _ => h.elim
section
variable {pn : Option Addr} {Γ Γ1 : Gam} {c c1 c2 : Nat} {S S1 S2 : MP} {te ta tb tv : TE} {tt : TT} {t u ts : TS} {tr : TA} {O O1 : Outs} {K : PySem.W.Frag} {Ps : List MP}
/-- self.f = e -/
theorem sx_fld {i : Nat} {C a0 : Addr} {fs : List (Str × MP)} {f : Str} (hi : Γ[i]? = some (.own (oOb C a0 fs))) (hv : Ev pn tv Γ c S) (cl : Cls K C) (nf : NoAttr K C f) (hl : fs.length < 1000) (hno : fs.lookup f = none)
    (hn : O.nx (Γ.set i (.own (oOb C a0 (fs ++ [(f, S)]))))) : Sx pn (sFld K (tVar i) tv f) Γ c O := .mk fun {G H σ n} D E l q1 q2 q3 q4 =>
  hv.run E l _ fun v G1 H1 n1 k1 p1 l1 s1 => by
    obtain ⟨a, u, A⟩ := E.sl.own E.nd hi
    have E1 := E.step k1 p1
    have A1 := A.step E hi k1 p1
    obtain ⟨ea, dx, gs, eu, z⟩ := A1.pr
    subst eu
    refine ⟨.ref a, A1.val, a, C, dx, gs, rfl, A1.obj, cl, nf, by rw [z.len]; exact hl, ?_⟩
    have g := go_mut (M' := oOb C a0 (fs ++ [(f, S)])) (u' := .ins C dx (putF f v gs)) E1 A1 ⟨ea, dx, _, rfl, z.put s1 hno⟩
    exact q1 _ _ _ _ _ hn (((Go.of (c := c) E k1 l1 E1 fun _ h => .inl h).trans g).more (Nat.le_refl _))
theorem x_fld {i : Nat} {C a0 : Addr} {fs : List (Str × MP)} {f : Str} (hi : Γ[i]? = some (.own (oOb C a0 fs))) (hv : Ev pn tv Γ c1 S) (cl : Cls K C) (nf : NoAttr K C f) (hl : fs.length < 1000) (hno : fs.lookup f = none)
    (h2 : Sx pn u (Γ.set i (.own (oOb C a0 (fs ++ [(f, S)])))) (c - c1) O) (hc : c1 ≤ c := by first | decide | omega | simp) : Sx pn (tSeq (sFld K (tVar i) tv f) u) Γ c O := x_seq1 _ (sx_fld hi hv cl nf hl hno rfl) h2 hc
/-- self.f of the instance that is being made -/
theorem ev_fldO {i : Nat} {C a0 : Addr} {fs : List (Str × MP)} {f : Str} {P : MP} (hi : Γ[i]? = some (.own (oOb C a0 fs))) (cl : Cls K C) (nf : NoAttr K C f) (hl : fs.lookup f = some P) : Ev pn (tFld K (tVar i) f) Γ 0 P := .mk fun {G H σ n} E l Q q => by
  obtain ⟨a, u, A⟩ := E.sl.own E.nd hi
  obtain ⟨ea, dx, gs, eu, z⟩ := A.pr
  subst eu
  obtain ⟨v, hv, pv⟩ := (z.look (f := f)).1 P hl
  exact ⟨.ref a, A.val, a, C, dx, gs, v, rfl, A.obj, cl, nf, hv, q v _ _ _ (.refl E.gh) E.pen (Nat.le_refl _) pv⟩
/-- an __init__ that leaves these fields -/
def SpI {α : Type} (C : Addr) (ar : α → List MP) (pre : α → Prop) (fs : α → List (Str × MP)) : Sp := fun vs H Q _ => ∃ (x : α) (G : Hp) (a dx : Addr) (ws : List V), pre x ∧ vs = .ref a :: ws ∧ (Sm G H ∧ Tbs G H) ∧ G a = none ∧ H a = some (.ins C dx []) ∧ Zip G (ar x) ws ∧
  ∀ G' H' u, Stp none [a] G H G' H' → G' a = none → H' a = some u → (oOb C a (fs x)).pr G' a u → Q .non H'
theorem SpI.len {α : Type} {C : Addr} {ar : α → List MP} {pre : α → Prop} {fs : α → List (Str × MP)} {k : Nat} {vs : List V} {H : Hp} {Q : VK} {E : XK} (hs : SpI C ar pre fs vs H Q E) (h : ∀ x, (ar x).length + 1 = k) : vs.length = k := by
  obtain ⟨x, G, a, dx, ws, _, rfl, _, _, _, z, _⟩ := hs
  rw [List.length_cons, z.len, h]
def initG (N : List Str) (C a : Addr) (Ps : List MP) : Gam := .own (oOb C a []) :: (Ps.map .im ++ List.replicate (N.length - (Ps.length + 1)) .no)
abbrev initO (C a : Addr) (fs : List (Str × MP)) : Outs := ⟨fun Γ' => Γ'[0]? = some (.own (oOb C a fs)), mNo, fun _ => False, fun _ => False⟩
theorem owns_init {C a : Addr} {ws : List V} {m : Nat} : owns (.own (oOb C a []) :: (Ps.map .im ++ List.replicate m .no)) (some (.ref a) :: (ws.map some ++ List.replicate m none)) = [a] := by
  show a :: owns (Ps.map Sl.im ++ List.replicate m Sl.no) (ws.map some ++ List.replicate m none) = [a]
  rw [owns_start]
theorem env_init {G H : Hp} {N : List Str} {C a dx : Addr} {ws : List V} (e : Sm G H) (tb : Tbs G H) (ga : G a = none) (ha : H a = some (.ins C dx [])) (z : Zip G Ps ws) :
    Env none G H (initG N C a Ps) (L2.start N (.ref a :: ws)) 0 ∧ owns (initG N C a Ps) (L2.start N (.ref a :: ws)) = [a] := by
  have st : L2.start N (.ref a :: ws) = some (.ref a) :: (ws.map some ++ List.replicate (N.length - (Ps.length + 1)) none) := by
    unfold L2.start
    rw [List.length_cons, z.len]
    rfl
  rw [st]
  unfold initG
  have sl : Slots none G H (.own (oOb C a []) :: (Ps.map .im ++ List.replicate (N.length - (Ps.length + 1)) .no)) (some (.ref a) :: (ws.map some ++ List.replicate (N.length - (Ps.length + 1)) none)) :=
    ⟨⟨a, _, rfl, ha, ga, (fun z => nomatch z), rfl, dx, [], rfl, trivial⟩, slots_start z⟩
  exact ⟨⟨e, ⟨fun p hp => (nomatch hp), tb⟩, sl, by rw [owns_init]; simp⟩, owns_init⟩
theorem fn_init {N : List Str} {α : Type} {C : Addr} {ar : α → List MP} {pre : α → Prop} {fs : α → List (Str × MP)} {t : TS} {vs : List V} {H : Hp} {Q : VK} {E : XK} (hs : SpI C ar pre fs vs H Q E)
    (h : ∀ x a, pre x → Sx none t (initG N C a (ar x)) 0 (initO C a (fs x))) : t { nx := fun _ H' => Q .non H', rt := Q } (L2.start N vs) H := by
  obtain ⟨x, G, a, dx, ws, hp, rfl, e, ga, ha, z, q⟩ := hs
  obtain ⟨En, eo⟩ := env_init (N := N) (C := C) e.1 e.2 ga ha z
  refine (h x a hp).run _ En (Nat.zero_le _) (fun Γ' σ' G' H' n' hn g => ?_) (fun v G' H' n' k p l s => s.elim) (fun _ _ _ _ _ a _ => a.elim) (fun _ _ _ _ _ a _ => a.elim)
  obtain ⟨b, u, A⟩ := g.env.sl.own g.env.nd hn
  have k := g.stp
  rw [eo] at k
  have eb : b = a := A.pr.1
  subst eb
  exact q G' H' u k A.gn A.obj A.pr
/-- C(..) -/
theorem ev_make {α : Type} {C : Addr} {ar : α → List MP} {pre : α → Prop} {fs : α → List (Str × MP)} {E : XK} (x : α) (ha : EvA pn tr Γ c (ar x)) (hp : pre x) : Ev pn (tMake C (SpI C ar pre fs) [] E tr) Γ c (mOb C (fs x)) := .mk fun {G H σ n} En l Q q =>
  ha.run En l _ fun vs G1 H1 n1 k1 p1 l1 s1 => fun a dx na nd ne => by
    have ga : G1 a = none := k1.gh.free na
    have gd : G1 dx = none := k1.gh.free nd
    have npa : pn ≠ some a := fun z => (p1 a z).2.ne na
    have npd : pn ≠ some dx := fun z => (p1 dx z).2.ne nd
    have kA := Stp.newH (o := .own a) k1.gh nd
    have na2 : upd H1 dx (.own a) a = none := by rw [upd_ne (fun z => ne z.symm)]; exact na
    have kB := Stp.newH (o := .ins C dx []) kA.gh na2
    obtain ⟨kA', pA⟩ := kA.pure p1
    obtain ⟨kB', pB⟩ := kB.pure pA
    refine ⟨x, G1, a, dx, vs, hp, by rw [List.append_nil], ⟨kB.gh, pB.tab⟩, ga, upd_same, s1, fun G2 H2 u k2 g2 h2 ⟨_, dy, gs, eu, z⟩ => ⟨rfl, ?_⟩⟩
    subst eu
    have sm : Same G2 (upd G2 a (.ins C dy gs)) := fun b o e => by rw [upd_ne (ne_of_none e g2)]; exact e
    have k0 : Stp pn [] G H G1 (upd (upd H1 dx (.own a)) a (.ins C dx [])) := (k1.trans0 kA').trans0 kB'
    have hH : H a = none := none_back k1 na
    -- the maker's own step, as a step of ours
    have k3 : Stp pn [a] G1 (upd (upd H1 dx (.own a)) a (.ins C dx [])) G2 H2 := ⟨k2.gg, k2.gh, fun b o h _ n2 nt => k2.hh b o h (fun z => nomatch z) n2, fun b g h o _ => k2.nw b g h o (fun z => nomatch z), k2.ks, fun P q m t _ n2 => k2.tb P q m t (fun z => nomatch z) n2⟩
    have k4 : Stp pn [a] G H G2 H2 := k0.more.trans k3 fun x h => .inl h
    have p2 : PenOk pn G2 H2 n1 := ⟨fun p hq => by
      obtain ⟨h1, q', ns, pos, left, h3, h4, h5, h6⟩ := pB p hq
      have np : p ≠ a := fun y => npa (by rw [hq, y])
      exact ⟨k2.own_none h1 h3 rfl (fun z => nomatch z) (by simpa using np), q', ns, pos, left, k2.hh _ _ h3 (fun z => nomatch z) (by simpa using np), k2.gg _ _ h4, h5, h6⟩,
      pB.tab.step k3 (fun p hq => (pB p hq).2.nt) fun b hb => by rw [List.mem_singleton.mp hb]; exact no_tbl (u := .ins C dx []) upd_same⟩
    exact q (.ref a) (upd G2 a (.ins C dy gs)) H2 n1 (k4.commit hH g2 (fun _ _ => rfl) h2 (.inl rfl)) (p2.updG npa g2 (no_tbl h2)) l1 ⟨a, dy, gs, rfl, upd_same, z.mono sm⟩
end
end Ev

set_option Elab.async false
set_option linter.all false
set_option maxRecDepth 100000
set_option maxHeartbeats 4000000
/-! A class of the text with its __init__'s promise; a class's operator; two names from two values; the law's own start. -/
namespace Ev
open PySem PySem.Spec L2
variable [z : Tz]
section
variable {P : Program} {w : World} {K : PySem.W.Frag} {mg : Str → Option Value} {base : Heap}
/-- a class of the text under its name, with the promise of its __init__ -/
structure Mc (P : Program) (w : World) (K : PySem.W.Frag) (mg : Str → Option Value) (base : Heap) (k : Nat) (x : Str) (C : Addr) (ps : List Str) (sp : Sp) : Prop where
  ex : ∃ f fd, mg x = some (.ref C) ∧ Mk K C f ∧ Binds K fd ps [] ∧ GnOk P w K mg base CX0 k f fd ps sp
theorem pe_mc {X : Cx} {k : Nat} {x : Str} {C : Addr} {ps : List Str} {sp : Sp} {e : Expr} {es : List Expr} {t : TA} {p pos : Pos} (G : Mc X.prog X.w X.K X.mg X.base k x C ps sp) (hc : Calm X.A) (hr : Room (k + 1) X.A) (ha : PA X (e :: es) t)
    (hg : Gl X x := by rfl) (hdb : (x == ("__debug__" : Str)) = false := by decide)
    (he : starEach (e :: es) X.env = (false, eval e X.env) :: starEach es X.env := by rfl) (hpl : (backTo pos (starEach es X.env)).any (·.1) = false := by rfl) :
    PE X (.Call (.Name x p) (e :: es) [] pos) (tMake C sp [] E0 t) := by
  obtain ⟨f, fd, h1, h2, h3, h4⟩ := G.ex
  exact pe_makeG h2 h4 hc hr hg h1 h3 .nil pass0 ha hdb he hpl
/-- an operator of the class at C, with its promise -/
structure Fo (P : Program) (w : World) (K : PySem.W.Frag) (mg : Str → Option Value) (base : Heap) (k : Nat) (C : Addr) (m : Str) (ps : List Str) (sp : Sp) : Prop where
  cls : Cls K C
  sf : PySem.W.selfFirst K C = true
  ex : ∃ f fd, PySem.W.findIn K (.ref C) m = some (some (.ref f)) ∧ PySem.W.isFn K (.ref f) = true ∧ Binds K fd ps [] ∧ GnOk P w K mg base CX0 k f fd ps sp
theorem op_fo {X : Cx} {k : Nat} {C : Addr} {m : Str} {ps : List Str} {sp : Sp} {op : Operator} (G : Fo X.prog X.w X.K X.mg X.base k C m ps sp) (hc : Calm X.A) (hr : Room k X.A) (hm : PySem.dunder op.info.2 = m) : OpR X (binaryOp op) (rOwn C sp) := by
  obtain ⟨f, fd, h1, h2, h3, h4⟩ := G.ex
  exact op_own h4 hc hr h3 G.cls G.sf (by rw [hm]; exact h1) h2
end
section
variable {pn : Option Addr} {Γ Γ1 : Gam} {c c1 c2 : Nat} {S S1 S2 T : MP} {te ta tb tv : TE} {tt : TT} {t u ts : TS} {tr : TA} {O O1 : Outs} {K : PySem.W.Frag} {Ps : List MP}
theorem ev_own {α : Type} {C : Addr} {ar : α → List MP} {pre : α → Prop} {res : α → MP} {fs gs : List (Str × MP)} (x : α) (h1 : Ev pn ta Γ c1 (mOb C fs)) (h2 : Ev pn tb Γ c2 (mOb C gs)) (har : ar x = [mOb C fs, mOb C gs]) (hp : pre x) : Ev pn (tOp (rOwn C (SpF ar pre res)) ta tb) Γ (c1 + c2) (res x) := .mk fun {G H σ n} E l Q q =>
  h1.run E (by omega) _ fun v G1 H1 n1 k1 p1 l1 s1 => h2.run (E.step k1 p1) (by omega) _ fun w G2 H2 n2 k2 p2 l2 s2 => by
    obtain ⟨a, dx, vs, rfl, ha, z1⟩ := (mOb C fs).mono k2.gg s1
    obtain ⟨b, dy, ws, rfl, hb, z2⟩ := s2
    refine ⟨a, b, dx, dy, vs, ws, rfl, rfl, k2.gh.x ha, k2.gh.x hb, x, G2, hp, ⟨k2.gh, p2.tab⟩, ?_, fun v G' H' k s => ?_⟩
    · rw [har]
      exact ⟨⟨a, dx, vs, rfl, ha, z1⟩, ⟨b, dy, ws, rfl, hb, z2⟩, trivial⟩
    · obtain ⟨k4, p4⟩ := k.pure p2
      exact q v G' H' n2 ((k1.trans0 k2).trans0 k4) p4 (by omega) s
/-- a, b = x, y -/
theorem sx_par {i j : Nat} (ha : EvA pn tr Γ c [S, T]) (hn : O.nx ((Γ.set i (.im S)).set j (.im T))) : Sx pn (tPar i j tr) Γ c O := .mk fun {G H σ n} D E l q1 q2 q3 q4 =>
  ha.run E l _ fun vs G' H' n' k p ln z => by
    obtain ⟨v, w, rfl, hv, hw⟩ := zip2 z
    have E' := E.step k p
    have E1 := E'.set i (s := .im S) (o := some v) ⟨v, rfl, hv⟩ rfl
    have E2 := E1.set j (s := .im T) (o := some w) ⟨w, rfl, hw⟩ rfl
    exact ⟨v, w, rfl, q1 _ _ G' H' n' hn (.of E k ln E2 fun b hb => .inl ((owns_set_free i E'.sl rfl).subset ((owns_set_free j E1.sl rfl).subset hb)))⟩
theorem x_par {i j : Nat} (ha : EvA pn tr Γ c1 [S, T]) (h2 : Sx pn u ((Γ.set i (.im S)).set j (.im T)) (c - c1) O) (hc : c1 ≤ c := by first | decide | omega | simp) : Sx pn (tSeq (tPar i j tr) u) Γ c O := x_seq1 _ (sx_par ha rfl) h2 hc
end
end Ev

set_option Elab.async false
set_option linter.all false
set_option maxRecDepth 100000
set_option maxHeartbeats 4000000
/-! repr of data, where nothing else is being shown. -/
namespace Ev
open PySem PySem.Spec PyProof.Rows L2
variable [z : Tz]
mutual
theorem dp_flat {K : PySem.W.Frag} {H : Hp} : ∀ {d : PyData} {v : V}, Dp K H v d → d.hasDict = false
  | .none, _, _ => by simp [PyData.hasDict]
  | .bool _, _, _ => by simp [PyData.hasDict]
  | .int _, _, _ => by simp [PyData.hasDict]
  | .str _, _, _ => by simp [PyData.hasDict]
  | .list ds, _, h => by
    cases h with
    | lst _ a => simp [PyData.hasDict, dps_flat a]
  | .tuple ds, _, h => by
    cases h with
    | tup _ a => simp [PyData.hasDict, dps_flat a]
  | .dict _, _, h => by cases h
theorem dps_flat {K : PySem.W.Frag} {H : Hp} : ∀ {ds : List PyData} {vs : List V}, DpAll K H vs ds → PyData.hasDictAll ds = false
  | [], _, _ => by simp [PyData.hasDictAll]
  | d :: ds, _, h => by
    cases h with
    | cons a b => simp [PyData.hasDictAll, dp_flat a, dps_flat b]
end
/-- repr(e), e data without dicts -/
def rReprD (K : PySem.W.Frag) : List V → Hp → VK → Prop := fun xs H Q => ∃ x d, xs = [x] ∧ Dp K H x d ∧ d.showable = true ∧ d.depth ≤ 64 ∧ d.shown.length ≤ sizeLine ∧ Q (.str d.shown) H
theorem call_reprD {X : Cx} (c : Calm X.A) (hu : X.A.units + 70 < cLine) : CallR X (.builtin "repr") (rReprD X.K) := by
  intro pins s σ H xs us Q I r h
  obtain ⟨x, d, rfl, hd, h1, h2, h3, q⟩ := h
  obtain ⟨u, rfl, rx⟩ := vals1 r
  have done : ∀ (h' : Heap) (t tk : Tok), (∀ b o, s.heap.get? b = some o → h'.get? b = some o) → EP X pins σ Q (.str d.shown t) { s with heap := h', toks := tk } := fun h' t tk hk => ⟨.str _, H, I.kept hk, ⟨_, rfl⟩, q⟩
  obtain ⟨as, r1⟩ := Dp.reads I d x u hd rx
  cases d with
  | none =>
    cases r1
    exact PySem.P.repr_of_none (by simpa [PyData.shown] using done s.heap _ _ fun _ _ e => e)
  | bool b =>
    cases r1
    exact PySem.P.repr_of_bool (by simpa [PyData.shown] using done s.heap _ _ fun _ _ e => e)
  | int i =>
    cases r1
    exact PySem.P.repr_of_int (by simpa [PyData.showable] using h1) (by simpa [PyData.shown] using done s.heap _ _ fun _ _ e => e)
  | str t =>
    cases r1
    exact PySem.P.repr_of_str (by simpa [PyData.shown] using done s.heap _ _ fun _ _ e => e) (by simpa [PyData.shown] using h3)
  | list ds =>
    obtain ⟨a, rfl⟩ := isRef_of_reads r1 rfl
    exact repr_of_reads' r1 h1 (PyData.noDict_hsm (dp_flat hd)) c (by omega) (fun _ _ e => e) done h3
  | tuple ds =>
    obtain ⟨a, rfl⟩ := isRef_of_reads r1 rfl
    exact repr_of_reads' r1 h1 (PyData.noDict_hsm (dp_flat hd)) c (by omega) (fun _ _ e => e) done h3
  | dict kvs => cases hd
theorem hu70_of {k : Nat} {A : Around} (r : Room k A) : A.units + 70 < cLine := by
  have := r.un
  omega
theorem rc_repr {K : PySem.W.Frag} {S : MP} {d : PyData} (h : HasD K S d) (h1 : d.showable = true) (h2 : d.depth ≤ 64) (h3 : d.shown.length ≤ 100000) : RC (rReprD K) [S] (mS d.shown) := .mk fun {G H vs} e z Q q => by
  obtain ⟨v, rfl, hv⟩ := zip1 z
  exact ⟨v, d, rfl, h e hv, h1, h2, small h3, q _ G H (.refl e) rfl⟩
end Ev

set_option Elab.async false
set_option linter.all false
set_option maxRecDepth 100000
set_option maxHeartbeats 4000000
/-! Properties, and methods without arguments, of objects that no longer change. -/
namespace Ev
open PySem PySem.Spec PyProof.Rows L2
variable [z : Tz]
section
variable {X : Cx} {CX : CXT} {k : Nat} {C p g a dx : Addr} {fs : List (Str × V)} {f : Str} {fd : FuncData} {ps : List Str} {sp : Sp} {dvs : List V} {ds : List Value} {E : XK} {e : Expr} {pos : Pos} {ta : TE}
theorem gn_prop {pins : List (Addr × Obj)} {σ : L2.St} {H : Hp} {s : Shared} {Q : VK} {b : Bool} {W : Value → Shared → Prop} (I : Inv X pins σ H s) (oa : H a = some (.ins C dx fs)) (cl : Cls X.K C) (pr : PropOf X.K C f p g) (F : GnOk X.prog X.w X.K X.mg X.base CX k g fd ps sp)
    (c : Calm X.A) (r : Room (k + 1) X.A) (bd : Binds X.K fd ps ds) (hd : Vals dvs ds) (pa : Passes CX X.nox E) (h : sp (.ref a :: dvs) H Q E) : wpAny (model X.prog X.w) X.A (getAttr (.ref a) f b) (EP X pins σ Q) W s := by
  obtain ⟨m1, ob, _⟩ := ins_get I.hok oa
  obtain ⟨od, look, _⟩ := ob.look
  obtain ⟨more, rec1⟩ := pr.rec_
  obtain ⟨cd, cin, _⟩ := PySem.W.any_some cl.hd
  have J := I.tok (s.toks + 1)
  have vals : Vals (V.ref a :: dvs) (Value.ref a :: ds) := .cons rfl hd
  have n : ([Value.ref a] ++ ds).length = ps.length := vals.length.symm.trans (F.len _ _ _ _ h)
  have isC : (PySem.W.clsIn X.K C).isSome = true := by rw [cin]; rfl
  have pg := PySem.W.plainGet_of (cl.get f)
  have run := F.go X.A.in1 X.stack { s with toks := s.toks + 1 } H ⟨[.ref a], []⟩ _ _ Q E (show Calm _ from c) r.in1 J.env0.in1 (bd _ [.ref a] J.kIn n) vals h
  refine PySem.W.get_bind I.kIn look pg.1 (PySem.W.findObj_data isC pr.at_ pr.get pr.tak) pg.2 (wpAny_call (PySem.W.prop_get (s := { s with toks := s.toks + 1 }) I.kIn rec1 (codeAny_mono run ?_)))
  rintro (er | fl) s' z
  · exact (pa pins σ H { s with toks := s.toks + 1 } er s' (J.wish _) z).elim
  · cases fl with
    | ret u =>
      obtain ⟨v, H', J3, rv, q3⟩ := J.after z
      show wpAny _ _ (handedOut u) _ _ _
      rw [PySem.W.handedOut_of (handed_of rv)]
      exact wpAny_pure ⟨v, H', J3, rv, q3⟩
    | next => exact z.elim
    | brk => exact z.elim
    | cont => exact z.elim
theorem pe_propG (he : PE X e ta) (cl : Cls X.K C) (pr : PropOf X.K C f p g) (F : GnOk X.prog X.w X.K X.mg X.base CX k g fd ps sp) (c : Calm X.A) (r : Room (k + 1) X.A) (bd : Binds X.K fd ps ds) (hd : Vals dvs ds) (pa : Passes CX X.nox E)
    (h1 : attributeBase e f X.env (eval e X.env) = eval e X.env) : PE X (.Attribute e f pos) (tProp C sp dvs E ta) := .mk fun pins s σ H Q I h => by
  refine attr_of h1 (thn (he.run pins s σ H _ I h) ?_)
  rintro u s1 ⟨y, H1, J, ry, a, dx, fs, rfl, oa, q⟩
  cases (show u = Value.ref a from ry)
  exact gn_prop J oa cl pr F c r bd hd pa q
end
section
variable {P : Program} {w : World} {K : PySem.W.Frag} {mg : Str → Option Value} {base : Heap}
/-- a property of the class at C, with its promise -/
structure Fq (P : Program) (w : World) (K : PySem.W.Frag) (mg : Str → Option Value) (base : Heap) (k : Nat) (C : Addr) (m : Str) (ps : List Str) (sp : Sp) : Prop where
  cls : Cls K C
  ex : ∃ p f fd, PropOf K C m p f ∧ Binds K fd ps [] ∧ GnOk P w K mg base CX0 k f fd ps sp
theorem pe_fq {X : Cx} {k : Nat} {C : Addr} {m : Str} {ps : List Str} {sp : Sp} {e : Expr} {ta : TE} {pos : Pos} (he : PE X e ta) (G : Fq X.prog X.w X.K X.mg X.base k C m ps sp) (hc : Calm X.A) (hr : Room (k + 1) X.A) (h1 : attributeBase e m X.env (eval e X.env) = eval e X.env := by rfl) :
    PE X (.Attribute e m pos) (tProp C sp [] E0 ta) := by
  obtain ⟨p, f, fd, h2, h3, h4⟩ := G.ex
  exact pe_propG he G.cls h2 h4 hc hr h3 .nil pass0 h1
end
section
variable {pn : Option Addr} {Γ : Gam} {c : Nat} {ta : TE}
theorem ev_prop {α : Type} {ar : α → List MP} {pre : α → Prop} {res : α → MP} {E : XK} {C : Addr} {fs : List (Str × MP)} (x : α) (ho : Ev pn ta Γ c (mOb C fs)) (har : ar x = [mOb C fs]) (hp : pre x) : Ev pn (tProp C (SpF ar pre res) [] E ta) Γ c (res x) := .mk fun {G H σ n} En l Q q =>
  ho.run En l _ fun y G1 H1 n1 k1 p1 l1 ⟨a, dx, gs, ey, hg, z⟩ => by
    subst ey
    refine ⟨a, dx, gs, rfl, k1.gh.x hg, x, G1, hp, ⟨k1.gh, p1.tab⟩, ?_, fun v G3 H3 k3 s3 => ?_⟩
    · rw [har]
      exact ⟨⟨a, dx, gs, rfl, hg, z⟩, trivial⟩
    · obtain ⟨k4, p4⟩ := k3.pure p1
      exact q v G3 H3 n1 (k1.trans0 k4) p4 l1 s3
end
end Ev

set_option Elab.async false
set_option linter.all false
set_option maxRecDepth 100000
set_option maxHeartbeats 4000000
/-! max and min of whole numbers, with a default. -/
namespace Ev
open PySem PySem.Spec PyProof.Rows L2
variable [z : Tz]
theorem fold_max : ∀ (xs : List Int) (x : Int), (xs.foldl (fun a y => if PySem.W.DatumOrd.lt a y = true then y else a) x) ∈ x :: xs ∧ ∀ n ∈ x :: xs, n ≤ xs.foldl (fun a y => if PySem.W.DatumOrd.lt a y = true then y else a) x
  | [], x => ⟨List.mem_cons_self .., fun n h => Int.le_of_eq (by simpa using h)⟩
  | y :: ys, x => by
    rw [List.foldl_cons]
    have hb : (PySem.W.DatumOrd.lt x y = true) ↔ x < y := by
      show decide (x < y) = true ↔ _
      exact decide_eq_true_iff
    obtain ⟨h1, h2⟩ := fold_max ys (if PySem.W.DatumOrd.lt x y = true then y else x)
    refine ⟨?_, fun n hn => ?_⟩
    · rcases List.mem_cons.mp h1 with e | e
      · rw [e]
        by_cases c : PySem.W.DatumOrd.lt x y = true
        · rw [if_pos c]; simp
        · rw [if_neg c]; simp
      · exact List.mem_cons_of_mem _ (List.mem_cons_of_mem _ e)
    · have h3 := h2 _ (List.mem_cons_self ..)
      have h4 : x ≤ (if PySem.W.DatumOrd.lt x y = true then y else x) ∧ y ≤ (if PySem.W.DatumOrd.lt x y = true then y else x) := by
        by_cases c : PySem.W.DatumOrd.lt x y = true
        · rw [if_pos c]; have := hb.mp c; omega
        · rw [if_neg c]; have : ¬ x < y := fun z => c (hb.mpr z)
          omega
      rcases List.mem_cons.mp hn with e | e
      · rw [e]; omega
      · rcases List.mem_cons.mp e with e | e
        · rw [e]; omega
        · exact h2 n (List.mem_cons_of_mem _ e)
theorem hold_ints {h : Heap} : ∀ {ns : List Int} {us : List Value}, Vals (ns.map V.int) us → PySem.W.HoldAll h us ns
  | [], _, r => by cases r; exact ⟨_, .nil⟩
  | n :: ns, _, r => by
    cases r with
    | cons a b =>
      obtain ⟨t, rfl⟩ := a
      obtain ⟨as, q⟩ := hold_ints (h := h) b
      exact ⟨_, .cons (.int n t) q⟩
theorem hold_int {h : Heap} {v : Value} {i : Int} (x : PySem.W.Holds h v i) : RelV (.int i) v := by
  obtain ⟨as, r⟩ := x
  have r' : Reads h v (.int i) as := r
  cases r' with
  | int _ t => exact ⟨t, rfl⟩
/-- max(xs, default=d) of whole numbers -/
def rMaxDef (K : PySem.W.Frag) : List V → List V → Hp → VK → Prop := fun vs zs H Q => ∃ (a : Addr) (ns : List Int) (d : Int), vs = [.ref a] ∧ zs = [.int d] ∧ SqL K H a (ns.map V.int) ∧ (ns = [] → Q (.int d) H) ∧ ∀ m, m ∈ ns → (∀ n ∈ ns, n ≤ m) → Q (.int m) H
theorem cr_maxDef {X : Cx} (hc : X.calm = true) (hu : X.A.units + 70 < cLine) : CallRK X (.builtin "max") [Str.ofString "default"] (rMaxDef X.K) := by
  intro pins s σ H xs zs us ws Q I r rz h
  obtain ⟨a, ns, d, rfl, rfl, hs, q0, q1⟩ := h
  obtain ⟨its, rv, hl, _⟩ := I.list hs
  rw [Vals.ref1 r]
  obtain ⟨u, rfl, t, rfl⟩ := vals1 rz
  refine PySem.W.max_list_datum_default (α := Int) (I.ok.hd hc) hl.isList (hold_ints (by simpa using rv)) (by show X.A.units + 1 + 0 < cLine; omega) (fun e h' tk hk => ⟨.int d, H, I.kept hk, ⟨t, rfl⟩, q0 e⟩) fun y ys i v h' tk e hi hv hk => ?_
  subst e
  obtain ⟨m1, m2⟩ := fold_max ys y
  exact ⟨.int _, H, I.kept hk, hold_int hv, q1 _ m1 m2⟩
section
variable {pn : Option Addr} {Γ : Gam} {c c1 c2 : Nat} {t tk : TA} {K : PySem.W.Frag}
/-- the greatest, or the default -/
def maxD (ns : List Int) (d : Int) : Int := match ns with | [] => d | n :: ns => ns.foldl (fun a y => if a < y then y else a) n
theorem maxD_mem : ∀ (xs : List Int) (x : Int), xs.foldl (fun a y => if a < y then y else a) x ∈ x :: xs ∧ ∀ n ∈ x :: xs, n ≤ xs.foldl (fun a y => if a < y then y else a) x
  | [], x => ⟨List.mem_cons_self .., fun n h => Int.le_of_eq (by simpa using h)⟩
  | y :: ys, x => by
    rw [List.foldl_cons]
    obtain ⟨h1, h2⟩ := maxD_mem ys (if x < y then y else x)
    have h3 := h2 _ (List.mem_cons_self ..)
    refine ⟨?_, fun n hn => ?_⟩
    · rcases List.mem_cons.mp h1 with e | e
      · rw [e]
        split <;> simp
      · exact List.mem_cons_of_mem _ (List.mem_cons_of_mem _ e)
    · rcases List.mem_cons.mp hn with e | e
      · subst e
        split at h3 <;> split <;> omega
      · rcases List.mem_cons.mp e with e | e
        · subst e
          split at h3 <;> split <;> omega
        · exact h2 n (List.mem_cons_of_mem _ e)
theorem maxD_of {ns : List Int} {d m : Int} (h : m ∈ ns) (g : ∀ n ∈ ns, n ≤ m) : m = maxD ns d := by
  cases ns with
  | nil => cases h
  | cons n ns =>
    obtain ⟨h1, h2⟩ := maxD_mem ns n
    have a := g _ h1
    have b := h2 m h
    show m = ns.foldl (fun a y => if a < y then y else a) n
    omega
theorem ev_maxDef {ns : List Int} {d : Int} (h1 : EvA pn t Γ c1 [mRow ns]) (h2 : EvA pn tk Γ c2 [mI d]) : Ev pn (tCKw (rMaxDef K) t tk) Γ (c1 + c2) (mI (maxD ns d)) := .mk fun {G H σ n} E l Q q =>
  h1.run E (by omega) _ fun vs G1 H1 n1 k1 p1 l1 z1 => h2.run (E.step k1 p1) (by omega) _ fun zs G2 H2 n2 k2 p2 l2 z2 => by
    obtain ⟨v, rfl, a, xs, rfl, ha, zx⟩ := zip1 z1
    obtain ⟨w, rfl, ew⟩ := zip1 z2
    cases (show w = V.int d from ew)
    rw [zip_ints zx] at ha
    exact ⟨a, ns, d, rfl, rfl, SqL.of (k2.gh.x (k2.gg _ _ ha)), fun e => q _ G2 H2 n2 (k1.trans0 k2) p2 (by omega) (by subst e; rfl), fun m hm hg => q _ G2 H2 n2 (k1.trans0 k2) p2 (by omega) (by
      show V.int m = V.int (maxD ns d)
      rw [← maxD_of hm hg])⟩
end
end Ev

set_option Elab.async false
set_option linter.all false
set_option maxRecDepth 100000
set_option maxHeartbeats 4000000
/-! one.append(other.pop(e)), e drawn. -/
namespace Ev
open PySem PySem.Spec L2
variable [z : Tz]
theorem Zip.erase {G : Hp} : ∀ {Ps : List MP} {vs : List V} (k : Nat), Zip G Ps vs → Zip G (Ps.eraseIdx k) (vs.eraseIdx k)
  | [], [], _, _ => by simp [Zip]
  | P :: Ps, v :: vs, 0, h => h.2
  | P :: Ps, v :: vs, k + 1, h => ⟨h.1, Zip.erase k h.2⟩
  | [], _ :: _, _, h => h.elim
  | _ :: _, [], _, h => h.elim
section
variable {pn : Option Addr} {Γ : Gam} {c : Nat} {ta : TE} {O : Outs} {K : PySem.W.Frag} {Ps Qs : List MP}
theorem own_in {G H : Hp} : ∀ {Γ : Gam} {σ : L2.St} {j : Nat} {N : MO} {a : Addr}, Slots pn G H Γ σ → Γ[j]? = some (.own N) → σ[j]? = some (some (.ref a)) → a ∈ owns Γ σ
  | [], _, _, _, _, _, e, _ => by simp at e
  | s :: Γ, o :: σ, 0, N, a, h, e1, e2 => by
    have e1' : s = .own N := Option.some.inj e1
    have e2' : o = some (.ref a) := Option.some.inj e2
    subst e1'
    subst e2'
    simp [owns]
  | s :: Γ, o :: σ, j + 1, N, a, h, e1, e2 => by
    have ih := own_in (j := j) h.2 (by simpa using e1) (by simpa using e2)
    cases s with
    | no => simpa [owns] using ih
    | im P => simpa [owns] using ih
    | own M' =>
      obtain ⟨b, w, e, _⟩ := h.1
      subst e
      simp only [owns]
      exact List.mem_cons_of_mem _ ih
  | _ :: _, [], _, _, _, h, _, _ => h.elim
/-- two slots of makers have two objects -/
theorem own_ne {G H : Hp} : ∀ {Γ : Gam} {σ : L2.St} {i j : Nat} {M N : MO} {a : Addr}, i ≠ j → Slots pn G H Γ σ → (owns Γ σ).Nodup → Γ[i]? = some (.own M) → Γ[j]? = some (.own N) → σ[i]? = some (some (.ref a)) → σ[j]? = some (some (.ref a)) → False
  | [], _, _, _, _, _, _, _, _, _, e, _, _, _ => by simp at e
  | s :: Γ, o :: σ, 0, 0, _, _, _, n, _, _, _, _, _, _ => n rfl
  | s :: Γ, o :: σ, 0, j + 1, M, N, a, _, h, nd, e1, e2, e3, e4 => by
    have e1' : s = .own M := Option.some.inj e1
    have e3' : o = some (.ref a) := Option.some.inj e3
    subst e1'
    subst e3'
    simp only [owns] at nd
    exact (List.nodup_cons.mp nd).1 (own_in h.2 (by simpa using e2) (by simpa using e4))
  | s :: Γ, o :: σ, i + 1, 0, M, N, a, _, h, nd, e1, e2, e3, e4 => by
    have e2' : s = .own N := Option.some.inj e2
    have e4' : o = some (.ref a) := Option.some.inj e4
    subst e2'
    subst e4'
    simp only [owns] at nd
    exact (List.nodup_cons.mp nd).1 (own_in h.2 (by simpa using e1) (by simpa using e3))
  | s :: Γ, o :: σ, i + 1, j + 1, M, N, a, n, h, nd, e1, e2, e3, e4 => own_ne (i := i) (j := j) (fun z => n (by rw [z])) h.2 (by
      cases s with
      | no => simpa [owns] using nd
      | im P => simpa [owns] using nd
      | own M' =>
        obtain ⟨b, w, e, _⟩ := h.1
        subst e
        simp only [owns] at nd
        exact (List.nodup_cons.mp nd).2) (by simpa using e1) (by simpa using e2) (by simpa using e3) (by simpa using e4)
  | _ :: _, [], _, _, _, _, _, _, h, _, _, _, _, _ => h.elim
theorem set_get {i j : Nat} {s : Sl} (h : i ≠ j) : (Γ.set i s)[j]? = Γ[j]? := List.getElem?_set_ne h
/-- len of a list that its maker still has -/
theorem ev_lenO {i : Nat} (hi : Γ[i]? = some (.own (oL Ps))) : Ev pn (tCB (rLenX K) (tCons (tVar i) tNil)) Γ 0 (mI ((Ps.length : Nat) : Int)) := .mk fun {G H σ n} E l Q q => by
  obtain ⟨a, u, A⟩ := E.sl.own E.nd hi
  obtain ⟨vs, eu, z⟩ := A.pr
  subst eu
  refine ⟨.ref a, A.val, a, vs, rfl, .inl (SqL.of A.obj), ?_⟩
  rw [z.len]
  exact q _ G H n (.refl E.gh) E.pen (by omega) rfl
theorem sx_appendPop {i j : Nat} {Px : Int → Prop} (hij : i ≠ j) (hi : Γ[i]? = some (.own (oL Ps))) (hj : Γ[j]? = some (.own (oL Qs))) (ha : Ev pn ta Γ c (mInts Px)) (hP : ∀ d, Px d → 0 ≤ d ∧ d < Qs.length) (hl : Ps.length < 100000) (hl2 : Qs.length ≤ 100000)
    (hn : ∀ (k : Nat) (P : MP), Px (k : Int) → Qs[k]? = some P → O.nx ((Γ.set j (.own (oL (Qs.eraseIdx k)))).set i (.own (oL (Ps ++ [P]))))) :
    Sx pn (tDrop (tBM K "list" rAppend (tVar i) (tCons (tBM K "list" rPopAt (tVar j) (tCons ta tNil)) tNil))) Γ c O := .mk fun {G H σ n} D E l q1 q2 q3 q4 => by
  obtain ⟨a, u, A⟩ := E.sl.own E.nd hi
  obtain ⟨vs, eu, z⟩ := A.pr
  subst eu
  obtain ⟨b, u2, B⟩ := E.sl.own E.nd hj
  obtain ⟨ws, eu2, z2⟩ := B.pr
  subst eu2
  refine ⟨.ref a, A.val, .inl ⟨rfl, _, SqL.of A.obj⟩, .ref b, B.val, .inl ⟨rfl, _, SqL.of B.obj⟩, ha.run E l _ fun y G1 H1 n1 k p ln ⟨d, pd, ey⟩ => ?_⟩
  cases (show y = V.int d from ey)
  have A1 := A.step E hi k p
  have B1 := B.step E hj k p
  have E1 := E.step k p
  obtain ⟨h0, h1⟩ := hP d pd
  obtain ⟨m, rfl⟩ : ∃ m : Nat, d = (m : Int) := ⟨d.toNat, by omega⟩
  have hm : m < Qs.length := by omega
  have eP : Qs[m]? = some Qs[m] := List.getElem?_eq_getElem hm
  obtain ⟨w, ew, hw⟩ := z2.get eP
  have lw := z2.len
  have sI : seqIndex? (m : Int) ws.length = some m := by
    unfold seqIndex?
    have h2 : ¬ ((m : Int) < 0) := by omega
    simp [h2]
    omega
  refine ⟨b, ws, (m : Int), m, w, rfl, rfl, B1.obj, by omega, by omega, sI, ew, ?_⟩
  have g1 := go_mut (M' := oL (Qs.eraseIdx m)) (u' := .lst (ws.eraseIdx m)) E1 B1 ⟨_, rfl, (z2.mono k.gg).erase m⟩
  have hi2 : (Γ.set j (.own (oL (Qs.eraseIdx m))))[i]? = some (.own (oL Ps)) := by rw [set_get (fun e => hij e.symm)]; exact hi
  obtain ⟨a', u', A2⟩ := g1.env.sl.own g1.env.nd hi2
  cases A1.val.symm.trans A2.val
  obtain ⟨vs', eu', z3⟩ := A2.pr
  subst eu'
  have hab : a ≠ b := fun e => by
    subst e
    obtain ⟨s1, o1⟩ := B1.say (oL Qs) B1.pr
    have nd := E.nd
    exact own_ne hij E.sl nd hi hj A.val B.val
  have eo : upd H1 b (.lst (ws.eraseIdx m)) a = some (.lst vs) := by rw [upd_ne hab]; exact A1.obj
  have e3 := eo.symm.trans A2.obj
  cases e3
  refine ⟨a, vs, w, rfl, rfl, A2.obj, Nat.lt_of_le_of_lt (m := 100000) (by rw [z.len]; omega) (by decide), ?_⟩
  have g2 := go_mut (M' := oL (Ps ++ [Qs[m]])) (u' := .lst (vs ++ [w])) g1.env A2 ⟨_, rfl, z3.app ⟨Qs[m].mono k.gg hw, trivial⟩⟩
  exact q1 _ _ _ _ _ (hn m _ pd eP) ((((Go.of E k ln E1 fun _ h => .inl h).trans g1).trans g2).more (by omega))
end
end Ev

set_option Elab.async false
set_option linter.all false
set_option maxRecDepth 100000
set_option maxHeartbeats 4000000
namespace Ev
open PySem PySem.Spec L2
variable [z : Tz]
def topS (i : Nat) : Stmt := PySem.Challenge.pw_everlit_k26_chains_and_rings_looked_at.main.body.getD i (.Pass ⟨0, 0, 0, 0⟩)
section
variable {P : Program} {w : World} {K : PySem.W.Frag} {mg : Str → Option Value} {base : Heap}
abbrev sDraw : Stmt := topS 24
abbrev spDraw : Sp := SpP (α := Int) (fun p m => [mV (.ref p), mV (.int m)]) (fun m => 1 ≤ m ∧ m < 1073741824) (fun _ => 1) (fun m => mInts fun d => 0 ≤ d ∧ d < m)
theorem scDraw : FnScope ["pen", "many", "digit", "at", "cell", "great", "mixed"] ["pen", "many"] (defScope sDraw) := ⟨rfl, rfl, rfl, by decide +kernel, rfl, by decide +kernel, by decide +kernel⟩
theorem ok_draw {f : Addr} {fd : FuncData} {k : Nat} (F : Fun K "_law_draw" "_law_draw" sDraw f fd) (T : Bl mg) : GnOk P w K mg base CX0 (k + 1) f fd ["pen", "many"] spDraw := by
  refine okG F scDraw (fun vs H Q E h => ?_) (fun cdv A outer s H vs Q E hc hr h => ?_)
  · exact SpP.len h (fun _ _ => rfl)
  · obtain ⟨m, G, p, n, ⟨hm1, hm2⟩, hG, hpk, hlt, z, kk⟩ := h
    obtain ⟨v1, v2, rfl, e1, e2⟩ := zip2 z
    obtain rfl : v1 = .ref p := e1
    obtain rfl : v2 = .int m := e2
    obtain ⟨gp, q, ns, pos, left, hp, gq, h0, hn⟩ := hpk p rfl
    have hq := hG.x gq
    have hlt' : n < 1000000 := Nat.lt_of_succ_le hlt
    have k : ∀ (H' : Hp) (pos' left' d : Int), H' p = some (.lst [.ref q, .int pos', .int left']) → 0 ≤ pos' → pos' ≤ n + 1 → But p H H' → 0 ≤ d → d < m → Q (.int d) H' := fun H' pos' left' d e1 a1 a2 bb d1 d2 =>
      kk (.int d) G H' (n + 1) (.of5 ⟨.refl _, fun b o e => (hG b o e).imp (fun h => bb b o h (fun x => by rw [x, gp] at e; cases e)) (fun ⟨od, kvs, h1, h2⟩ => ⟨od, kvs, h1, bb b _ h2 (fun x => by rw [x, gp] at e; cases e)⟩), fun b o e e2 _ => bb b o e (fun x => e2 (by rw [x])), fun b e _ _ _ => .inl e, fun b e => by
        by_cases x : b = p
        · rw [x, e1]; exact fun z => nomatch z
        · cases eb : H b with
          | none => exact absurd eb e
          | some o => rw [bb b o eb x]; exact fun z => nomatch z⟩) ⟨fun p' ep => by cases ep; exact ⟨gp, q, ns, pos', left', e1, gq, a1, by omega⟩, ⟨fun t ht => let ⟨g, ps, e, r⟩ := hpk.tab.1 t ht; ⟨g, ps, bb _ _ e (fun x => by rw [x, hp] at e; cases e), r⟩, let ⟨o, φ, e⟩ := hpk.tab.2; ⟨o, φ, bb _ _ e (fun x => by rw [x, hp] at e; cases e)⟩⟩⟩ (Nat.le_refl _) ⟨d, ⟨d1, d2⟩, rfl⟩
    have nd := scDraw.nd
    refine ⟨_, (C8.pss_cut (ps_if (pt_cmpR op_gt (pe_ix (ix_listK (K := K)) (pv 0) pe_int (fun _ _ => rfl)) pe_int (nomark _))
        (pss_cons (ps_set (i := 2) nd rfl (.inl rfl) (pe_op op_mod (pe_callTy call_int1 (by rfl) T.int (by decide +kernel) (pa_cons (pe_ix (ix_listK (K := K)) (pv 0) pe_int (fun _ _ => rfl)) pa_nil)) (pv 1)))
      (pss_cons (ps_asg (pe_op op_fdiv (pe_ix (ix_listK (K := K)) (pv 0) pe_int (fun _ _ => rfl)) (pv 1)) (pg_sub (pv 0) pe_int set_list))
      (pss_one (ps_ret (pv 2)))))
        pss_nil)
      (pss_cons (ps_set (i := 3) nd rfl (.inl rfl) (pe_ix (ix_listK (K := K)) (pv 0) pe_int (fun _ _ => rfl)))
      (pss_cons (ps_asg (pe_op op_add (pv 3) pe_int) (pg_sub (pv 0) pe_int set_list))
      (pss_cons (ps_set (i := 4) nd rfl (.inl rfl) (pe_op op_add (pe_op op_mul pe_int (pv 3)) pe_int))
      (C8.pss_cut (ps_if (pt_cmpR (op_neDK (K := K) hr.units) (pe_ix (ix_listK (K := K)) (pv 0) pe_int (fun _ _ => rfl)) (pe_lst pa_nil) (nomark _))
        (pss_one (ps_set (i := 4) nd rfl (.inl rfl) (pe_ix (ix_listK (K := K)) (pe_ix (ix_listK (K := K)) (pv 0) pe_int (fun _ _ => rfl)) (pe_op op_mod (pe_callTy call_int1 (by rfl) T.int (by decide +kernel) (pa_cons (pv 3) pa_nil)) (pe_callB (call_lenK (K := K)) (by rfl) T.len (PySem.boot_len) (pa_cons (pe_ix (ix_listK (K := K)) (pv 0) pe_int (fun _ _ => rfl)) pa_nil))) (fun _ _ => rfl))))
        pss_nil)
      (C8.pss_cut (ps_if (PW.pt (pw_and (pt_cmpR op_lt (pv 3) (pe_callB (call_lenK (K := K)) (by rfl) T.len (PySem.boot_len) (pa_cons (pe_ix (ix_listK (K := K)) (pv 0) pe_int (fun _ _ => rfl)) pa_nil)) (nomark _)) (pw_and1 (pt_cmpR op_ge (pe_callB call_abs (by rfl) T.abs (by decide +kernel) (pa_cons (pv 4) pa_nil)) (pe_op op_pow pe_int pe_int) (nomark _)))))
        (pss_cons (ps_set (i := 5) nd rfl (.inl rfl) (pe_op op_add (pe_op op_mul pe_int (pe_op op_sub (pe_callB call_abs (by rfl) T.abs (by decide +kernel) (pa_cons (pv 4) pa_nil)) (pe_op op_pow pe_int pe_int))) (pe_callTy call_int1 (by rfl) T.int (by decide +kernel) (pa_cons (pe_cmpR op_lt (pv 4) pe_int (nomark _)) pa_nil))))
      (pss_cons (ps_asg (pe_op op_fdiv (pv 5) (pv 1)) (pg_sub (pv 0) pe_int set_list))
      (pss_one (ps_ret (pe_op op_mod (pe_callTy call_int1 (by rfl) T.int (by decide +kernel) (pa_cons (pv 5) pa_nil)) (pv 1))))))
        pss_nil)
      (pss_cons (ps_set (i := 6) nd rfl (.inl rfl) (pe_op op_mod (pe_callTy call_int1 (by rfl) T.int (by decide +kernel) (pa_cons (pe_op op_pow (pe_op op_add (pe_op op_add (pe_op op_mod (pe_callTy call_int1 (by rfl) T.int (by decide +kernel) (pa_cons (pv 4) pa_nil)) pe_int) (pe_op op_mul pe_int (pv 3))) pe_int) pe_int) pa_nil)) pe_int))
      (pss_cons (ps_set (i := 6) nd rfl (.inl rfl) (pe_op op_mod (pe_callTy call_int1 (by rfl) T.int (by decide +kernel) (pa_cons (pe_op op_pow (pe_op op_add (pe_op op_add (pe_op op_mul (pv 6) (pe_op op_add (pe_op op_mul pe_int (pv 3)) pe_int)) (pe_op op_mul (pe_op op_mul pe_int (pv 3)) (pv 3))) pe_int) pe_int) pa_nil)) pe_int))
      (pss_one (ps_ret (pe_op op_mod (pe_callTy call_int1 (by rfl) T.int (by decide +kernel) (pa_cons (pe_op op_fdiv (pv 6) pe_int) pa_nil)) (pv 1)))))))))))), ?_⟩
    have nq : q ≠ p := fun e => by
      rw [e, hp] at hq
      cases ns with
      | nil => cases hq
      | cons x r => cases hq
    refine ⟨fun σ H' => σ = [some (.ref p), some (.int m), none, none, none, none, none] ∧ H = H', ?_, ?_⟩
    refine ⟨.ref p, rfl, p, _, 2, .int left, rfl, rfl, SqL.of hp, rfl, left, 0, rfl, rfl, _, rfl, ite2 (fun e => ?_) (fun e => ?_)⟩
    · -- a digit of a great cell
      refine ⟨.ref p, rfl, p, _, 2, .int left, rfl, rfl, SqL.of hp, rfl, .inl ⟨left, rfl, .int m, rfl, left, m, rfl, rfl, (by omega), ?_⟩⟩
      refine ⟨.ref p, rfl, p, _, 2, .int left, rfl, rfl, SqL.of hp, rfl, .int m, rfl, left, m, rfl, rfl, ⟨by omega, by omega⟩, ?_⟩
      refine ⟨.ref p, rfl, p, _, 2, 2, rfl, rfl, hp, rfl, .int (left % m), rfl, ?_⟩
      refine k _ pos (left / m) _ upd_same h0 (by omega) (fun b o e hb => by rw [upd_ne hb]; exact e) (Int.emod_nonneg _ (by omega)) (Int.emod_lt_of_pos _ (by omega))
    · exact ⟨rfl, rfl⟩
    · rintro σ H' ⟨rfl, rfl⟩
      -- at = pen[1]; pen[1] = at + 1; cell = ..
      refine ⟨.ref p, rfl, p, _, 1, .int pos, rfl, rfl, SqL.of hp, rfl, ?_⟩
      refine ⟨.int pos, rfl, pos, 1, rfl, rfl, .ref p, rfl, ?_⟩
      refine set_i hp rfl fun H1 hp1 b1 => ?_
      have hq1 : H1 q = some (.lst (ns.map V.int)) := b1 _ _ hq nq
      -- cell = 61121 * at + 401; if pen[0] != []
      refine ⟨.int pos, rfl, _, pos, rfl, rfl, .inl ⟨by decide, by decide⟩, _, _, rfl, rfl, ?_⟩
      refine ⟨fun σ H' => ∃ cell : Int, σ = [some (.ref p), some (.int m), none, some (.int pos), some (.int cell), none, none] ∧ H' p = some (.lst [.ref q, .int (pos + 1), .int left]) ∧ H' q = some (.lst (ns.map V.int)) ∧ But p H H', ?_, ?_⟩
      rotate_left
      · rintro σ H2 ⟨cell, rfl, hp2, hq2, b2⟩
        -- fin
        have fin : ∀ (H3 : Hp) (left' d : Int), H3 p = some (.lst [.ref q, .int (pos + 1), .int left']) → H3 q = some (.lst (ns.map V.int)) → But p H H3 → 0 ≤ d → d < m → Q (.int d) H3 :=
          fun H3 left' d e1 e2 b h1 h2 => k H3 (pos + 1) left' d e1 (by omega) (by omega) b h1 h2
        have pw18 : (10 : Int) ^ (18 : Int).toNat = 1000000000000000000 := by decide
        -- the way through the mixing
        have mix : ∀ (z : Int), 0 ≤ z % m ∧ z % m < m := fun z => ⟨Int.emod_nonneg _ (by omega), Int.emod_lt_of_pos _ (by omega)⟩
        refine ⟨fun σ H' => ∃ o5 : Option V, σ = [some (.ref p), some (.int m), none, some (.int pos), some (.int cell), o5, none] ∧ H2 = H', ?_, ?_⟩
        · refine ⟨.int pos, rfl, .ref p, rfl, p, _, 0, .ref q, rfl, rfl, SqL.of hp2, rfl, q, _, rfl, .inl (SqL.of hq2), pos, _, rfl, rfl, _, rfl, ite2 (fun c1 => ?_) (fun c1 => ?_)⟩
          · refine ⟨.int cell, rfl, cell, rfl, 10, 18, rfl, rfl, ⟨by decide, by decide, by decide⟩, _, _, rfl, rfl, _, rfl, ite2 (fun c2 => ?_) (fun c2 => ?_)⟩
            · refine ⟨.int cell, rfl, cell, rfl, 10, 18, rfl, rfl, ⟨by decide, by decide, by decide⟩, _, _, rfl, rfl, _, _, rfl, rfl, .inl ⟨by decide, by decide⟩, .int cell, rfl, cell, 0, rfl, rfl, .inr ⟨_, rfl, _, _, rfl, rfl, ?_⟩⟩
              refine ⟨_, rfl, .int m, rfl, _, m, rfl, rfl, ⟨by omega, by omega⟩, .ref p, rfl, ?_⟩
              refine set_i hp2 rfl fun H3 hp3 b3 => ?_
              refine ⟨_, rfl, .inl ⟨_, rfl, .int m, rfl, _, m, rfl, rfl, (by omega), ?_⟩⟩
              exact fin H3 _ _ hp3 (b3 _ _ hq2 nq) (fun b o e hb => b3 b o (b2 b o e hb) hb) (mix _).1 (mix _).2
            · exact ⟨none, rfl, rfl⟩
          · exact iteF ⟨none, rfl, rfl⟩
        · rintro σ H' ⟨o5, rfl, rfl⟩
          have hn' : pos ≤ 1000000 := by omega
          have e1 := Int.emod_nonneg cell (show (2147483549 : Int) ≠ 0 by decide)
          have e2 := Int.emod_lt_of_pos cell (show (0 : Int) < 2147483549 by decide)
          refine ⟨.int cell, rfl, .inl ⟨cell, rfl, cell, _, rfl, rfl, (show (0 : Int) < 2147483549 by decide), .int pos, rfl, _, pos, rfl, rfl, .inl ⟨by decide, by decide⟩, _, _, rfl, rfl, _, _, rfl, rfl, _, 5, rfl, rfl, ⟨by decide, by decide, ?_⟩, .inl ⟨_, rfl, _, _, rfl, rfl, (show (0 : Int) < 2147483629 by decide), ?_⟩⟩⟩
          · show (cell % 2147483549 + 49037 * pos + 29).natAbs < 2 ^ 64
            omega
          have fm : ∀ z : Int, 0 ≤ z % 2147483629 ∧ z % 2147483629 < 2147483629 := fun z => ⟨Int.emod_nonneg _ (by decide), Int.emod_lt_of_pos _ (by decide)⟩
          refine ⟨_, rfl, .int pos, rfl, _, pos, rfl, rfl, .inl ⟨by decide, by decide⟩, _, _, rfl, rfl, _, _, rfl, rfl, .inr ⟨by omega, by omega⟩, .int pos, rfl, _, pos, rfl, rfl, .inl ⟨by decide, by decide⟩, .int pos, rfl, _, pos, rfl, rfl, .inr ⟨by omega, by omega⟩, _, _, rfl, rfl, _, _, rfl, rfl, _, 3, rfl, rfl, ⟨by decide, by decide, ?_⟩, .inl ⟨_, rfl, _, _, rfl, rfl, (show (0 : Int) < 2147483587 by decide), ?_⟩⟩
          · show ((((cell % 2147483549 + 49037 * pos + 29) ^ (5 : Int).toNat) % 2147483629) * (2 * pos + 11) + 58909 * pos * pos + 7).natAbs < 2 ^ 64
            obtain ⟨f1, f2⟩ := fm ((cell % 2147483549 + 49037 * pos + 29) ^ (5 : Int).toNat)
            generalize ((cell % 2147483549 + 49037 * pos + 29) ^ (5 : Int).toNat) = big at f1 f2 ⊢
            have g1 : big % 2147483629 * (2 * pos + 11) ≤ 2147483629 * 2000100 := Int.mul_le_mul (by omega) (by omega) (by omega) (by decide)
            have g2 : 0 ≤ big % 2147483629 * (2 * pos + 11) := Int.mul_nonneg f1 (by omega)
            have g3 : 58909 * pos * pos ≤ (58909 * 1000000) * 1000000 := Int.mul_le_mul (by omega) (by omega) (by omega) (by decide)
            have g4 : 0 ≤ 58909 * pos * pos := Int.mul_nonneg (by omega) h0
            omega
          refine ⟨_, rfl, _, _, rfl, rfl, ⟨by decide, by decide⟩, .inl ⟨_, rfl, .int m, rfl, _, m, rfl, rfl, (by omega), ?_⟩⟩
          exact fin _ left _ hp2 hq2 b2 (mix _).1 (mix _).2
      refine ⟨.ref p, rfl, p, _, 0, .ref q, rfl, rfl, SqL.of hp1, rfl, ?_⟩
      refine lst0 fun l H2 hl hl2 e2 => ?_
      have hp2 := e2 _ _ hp1
      have hq2 := e2 _ _ hq1
      have b2 : But p H H2 := fun b o e hb => e2 _ _ (b1 b o e hb)
      refine ⟨_, _, .lst (SqL.of hq2) (dpInts _ _ ns), .lst (SqL.of hl2) .nil, shInts ns, (by decide), _, rfl, ?_⟩
      -- the cell, whatever it is
      refine ite2 (fun hne => ?_) (fun _ => ?_)
      · 
        have hlen : 0 < ns.length := by
          cases ns with
          | nil => simp [PyData.eqv, PyData.eqvAll] at hne
          | cons x r => simp
        have i1 : (0 : Int) ≤ pos % (ns.length : Int) := Int.emod_nonneg _ (by omega)
        have i2 : pos % (ns.length : Int) < (ns.length : Int) := Int.emod_lt_of_pos _ (by omega)
        obtain ⟨j, ej⟩ : ∃ j : Nat, pos % (ns.length : Int) = (j : Int) := ⟨(pos % (ns.length : Int)).toNat, by omega⟩
        have hj : j < ns.length := by omega
        refine ⟨.ref p, rfl, p, _, 0, .ref q, rfl, rfl, SqL.of hp2, rfl, .int pos, rfl, .inl ⟨pos, rfl, .ref p, rfl, p, _, 0, .ref q, rfl, rfl, SqL.of hp2, rfl, q, ns.map V.int, rfl, .inl (SqL.of hq2), pos, _, rfl, rfl, (by rw [List.length_map]; omega), ?_⟩⟩
        refine ⟨q, ns.map V.int, _, .int ns[j], rfl, rfl, SqL.of hq2, ?_, ?_⟩
        · rw [List.length_map, ej]
          exact atI_nat (by rw [List.getElem?_map, List.getElem?_eq_getElem hj]; rfl)
        · exact ⟨ns[j], rfl, hp2, hq2, b2⟩
      · exact ⟨_, rfl, hp2, hq2, b2⟩
end
end Ev

set_option Elab.async false
set_option linter.all false
set_option maxRecDepth 100000
set_option maxHeartbeats 4000000
namespace Ev
open PySem PySem.Spec L2
variable [z : Tz]
section
variable {P : Program} {w : World} {K : PySem.W.Frag} {mg : Str → Option Value} {base : Heap}
abbrev sSome : Stmt := topS 25
theorem scSome : FnScope ["pen", "most", "menu", "found", "k"] ["pen", "most"] (defScope sSome) := ⟨rfl, rfl, rfl, by decide +kernel, rfl, by decide +kernel, by decide +kernel⟩

abbrev menu10 : List Str := ["a", "a+", "a*", "b", "zz", "", "Q 1", "ab*", "c", "longlongname"]
theorem perm_pop {α : Type} : ∀ {xs : List α} {k : Nat} {x : α}, xs[k]? = some x → (x :: xs.eraseIdx k).Perm xs
  | [], _, _, h => by simp at h
  | y :: ys, 0, x, h => by
    have e : y = x := Option.some.inj h
    subst e
    exact .refl _
  | y :: ys, k + 1, x, h => (List.Perm.swap y x _).trans ((perm_pop (k := k) (by simpa using h)).cons y)
theorem erase_map {α β : Type} {f : α → β} : ∀ (xs : List α) (k : Nat), (xs.map f).eraseIdx k = (xs.eraseIdx k).map f
  | [], _ => by simp
  | x :: xs, 0 => rfl
  | x :: xs, k + 1 => congrArg (f x :: ·) (erase_map xs k)
abbrev spSome : Sp := SpP (α := Int) (fun p m => [mV (.ref p), mI m]) (fun m => 0 ≤ m ∧ m ≤ 9) (fun _ => 11) (fun m => mEx (fun ss : List Str => ss.length ≤ m.toNat ∧ ∃ ms, (ss ++ ms).Perm menu10) mStrs)
theorem ok_some {f : Addr} {fd : FuncData} {k : Nat} (F : Fun K "_law_some" "_law_some" sSome f fd) (T : Bl mg) (hrg : mg "range" = none) (G__law_draw : Fd P w K mg base k "_law_draw" ["pen", "many"] spDraw) : GnOk P w K mg base CX0 (k + 1) f fd ["pen", "most"] spSome := by
  refine okG F scSome (fun vs H Q E h => SpP.len h (fun _ _ => rfl)) (fun cdv A outer s H vs Q E hc hr h => ?_)
  refine ⟨_, (pss_cons (ps_set (i := 2) scSome.nd rfl (.inl rfl) (pe_lst (pa_cons pe_str (pa_cons pe_str (pa_cons pe_str (pa_cons pe_str (pa_cons pe_str (pa_cons pe_str (pa_cons pe_str (pa_cons pe_str (pa_cons pe_str (pa_cons pe_str pa_nil))))))))))))
      (pss_cons (ps_set (i := 3) scSome.nd rfl (.inl rfl) (pe_lst pa_nil))
      (pss_cons (ps_for PassesOwn.never rfl (pi_range1 (by rfl) hrg (pa_cons (pe_fd G__law_draw hc (hr.mono (by omega)) (pa_cons (pv 0) (pa_cons (pe_op op_add (pv 1) pe_int) pa_nil))) pa_nil)) (pg_name (i := 4) scSome.nd rfl (.inl rfl))
        (pss_one (ps_expr (pe_bm PySem.F.plainAttrs_list PySem.F.slot_list_append PySem.F.type_list_append mt_append (pv 3) (pa_cons (pe_bm PySem.F.plainAttrs_list PySem.F.slot_list_pop PySem.F.type_list_pop mt_popAt (pv 2) (pa_cons (pe_fd G__law_draw hc (hr.mono (by omega)) (pa_cons (pv 0) (pa_cons (pe_callB (call_lenK (K := K)) (by rfl) T.len (PySem.boot_len) (pa_cons (pv 2) pa_nil)) pa_nil))) pa_nil)) pa_nil)))))
      (pss_one (ps_ret (pv 3)))))), fn_P h fun p m hm => ?_⟩
  obtain ⟨h0, h9⟩ := hm
  show Sx (some p) _ [.im (mV (.ref p)), .im (mI m), .no, .no, .no] 11 (endO (mEx (fun ss : List Str => ss.length ≤ m.toNat ∧ ∃ ms, (ss ++ ms).Perm menu10) mStrs))
  refine x_own (M := oL (menu10.map mS)) (en_lst (ea_cons ev_c (ea_cons ev_c (ea_cons ev_c (ea_cons ev_c (ea_cons ev_c (ea_cons ev_c (ea_cons ev_c (ea_cons ev_c (ea_cons ev_c (ea_cons ev_c ea_nil))))))))))) ?_
  refine x_own (en_lst ea_nil) ?_
  refine x_seq (c1 := 10) (fun Γ' => ∃ (ss ms : List Str) (s4 : Sl), Γ' = [.im (mV (.ref p)), .im (mI m), .own (oL (ms.map mS)), .own (oL (ss.map mS)), s4] ∧ ss.length ≤ m.toNat ∧ (ss ++ ms).Perm menu10)
    (Sx.more (sx_for (ei_rng1 (Px := fun j => 0 ≤ j ∧ j ≤ m) (ea_cons (Ev.mono (ev_callP (m + 1) (ea_cons (ev_var rfl) (ea_cons (ev_op (ev_var rfl) ev_c rv_I0) ea_nil)) ⟨by omega, by omega⟩) ?_) ea_nil) (fun j hj => by omega)) 1 9 ?_) (by decide)) (fun Γ' hI => ?_) (by decide)
  · rintro G v ⟨d, ⟨hd0, hd1⟩, e⟩
    exact ⟨d, ⟨hd0, by omega⟩, e⟩
  · rintro Ps ⟨j, ⟨hj0, hj1⟩, rfl⟩
    have hlen : (rngPs 0 j.toNat).length = j.toNat := by unfold rngPs; simp
    refine ⟨by omega, fun i Γ' => ∃ (ss ms : List Str) (s4 : Sl), Γ' = [.im (mV (.ref p)), .im (mI m), .own (oL (ms.map mS)), .own (oL (ss.map mS)), s4] ∧ ss.length = i ∧ (ss ++ ms).Perm menu10, ⟨[], menu10, _, rfl, rfl, .refl _⟩, fun i P' Γ' hP hI => ?_, fun Γ' hI => ?_⟩
    · obtain ⟨ss, ms, s4, rfl, hss, hp⟩ := hI
      have hi : i < j.toNat := by
        have := (List.getElem?_eq_some_iff.mp hP).1
        omega
      have hcount : ss.length + ms.length = 10 := by
        have := hp.length_eq
        rw [List.length_append] at this
        exact this
      refine ⟨_, _, gx_name, ?_⟩
      refine Sx.more (sx_appendPop (i := 3) (j := 2) (Ps := ss.map mS) (Qs := ms.map mS) (by decide) rfl rfl (ev_callP ((ms.length : Nat) : Int) (ea_cons (ev_var rfl) (ea_cons (Ev.mono (ev_lenO (i := 2) rfl) (fun G v e => by simpa using e)) ea_nil)) ⟨by omega, by omega⟩) (fun d hd => by simpa using hd) (by simp; omega) (by simp; omega) fun k P _ hk => ?_) (by decide)
      · rw [List.getElem?_map] at hk
        cases ek : ms[k]? with
        | none => rw [ek] at hk; cases hk
        | some x =>
          rw [ek] at hk
          cases hk
          refine ⟨ss ++ [x], ms.eraseIdx k, .im P', ?_, by simp [hss], ?_⟩
          · rw [erase_map, List.map_append]
            rfl
          · have := perm_pop ek
            rw [List.append_assoc]
            exact (List.Perm.append_left ss this).trans hp
    · obtain ⟨ss, ms, s4, e, hl, hp⟩ := hI
      exact ⟨ss, ms, s4, e, by omega, hp⟩
  · obtain ⟨ss, ms, s4, rfl, hl, hp⟩ := hI
    refine sx_freeze (i := 3) rfl ?_
    exact x_ret (ev_var rfl) fun G v hv => ⟨ss, ⟨hl, ms, hp⟩, hv⟩
end
end Ev

set_option Elab.async false
set_option linter.all false
set_option maxRecDepth 100000
set_option maxHeartbeats 4000000
/-! Data with dicts, of any depth: what is tracked so, and its repr. -/
namespace Ev
open PySem PySem.Spec PyProof.Rows L2
variable [z : Tz]
def kDat : Key → PyData
  | .inl i => .int i
  | .inr x => .str x
mutual
/-- this value is such data -/
inductive Dq (K : PySem.W.Frag) (H : Hp) : V → PyData → Prop
  | non : Dq K H .non .none
  | bl (b : Bool) : Dq K H (.bl b) (.bool b)
  | int (i : Int) : Dq K H (.int i) (.int i)
  | str (x : Str) : Dq K H (.str x) (.str x)
  | lst {a : Addr} {vs : List V} {ds : List PyData} (h : SqL K H a vs) (g : DqAll K H vs ds) : Dq K H (.ref a) (.list ds)
  | tup {a : Addr} {vs : List V} {ds : List PyData} (h : SqT K H a vs) (g : DqAll K H vs ds) : Dq K H (.ref a) (.tuple ds)
  | dct {a : Addr} {kvs : List (Key × V)} {ds : List (PyData × PyData)} (h : Rd H a (.dK kvs)) (g : DqKv K H kvs ds) : Dq K H (.ref a) (.dict ds)
inductive DqAll (K : PySem.W.Frag) (H : Hp) : List V → List PyData → Prop
  | nil : DqAll K H [] []
  | cons {v : V} {vs : List V} {d : PyData} {ds : List PyData} (h : Dq K H v d) (g : DqAll K H vs ds) : DqAll K H (v :: vs) (d :: ds)
inductive DqKv (K : PySem.W.Frag) (H : Hp) : List (Key × V) → List (PyData × PyData) → Prop
  | nil : DqKv K H [] []
  | cons {q : Key × V} {kvs : List (Key × V)} {p : PyData × PyData} {ds : List (PyData × PyData)} (e : kDat q.1 = p.1) (h : Dq K H q.2 p.2) (g : DqKv K H kvs ds) : DqKv K H (q :: kvs) (p :: ds)
end
theorem SysT.notRd {H : Hp} {a : Addr} {u : HO} (t : SysT H) (h : Rd H a u) (n : isTp u = false) : a ≠ sysModules := fun e => by
  obtain ⟨o, φ, t⟩ := t
  rcases h with h | ⟨o', h⟩ <;> rw [e, t] at h <;> cases h <;> cases n
theorem SysT.notL {K : PySem.W.Frag} {H : Hp} {a : Addr} {vs : List V} (t : SysT H) (hK : K.lookup sysModules = none) (h : SqL K H a vs) : a ≠ sysModules := by
  rcases h with h | ⟨o, its, n, hk, _⟩
  · exact t.notRd h rfl
  · intro e
    rw [e, hK] at hk
    cases hk
section
variable {X : Cx} {pins : List (Addr × Obj)} {σ : L2.St} {H : Hp} {s : Shared}
mutual
theorem Dq.reads (I : Inv X pins σ H s) (hT : SysT H) (hK : X.K.lookup sysModules = none) : ∀ (d : PyData) (v : V) (u : Value), Dq X.K H v d → RelV v u → ∃ as, Reads s.heap u d as ∧ sysModules ∉ as
  | .none, _, _, h, r => by
    cases h
    cases r
    exact ⟨_, Reads.none, by simp⟩
  | .bool b, _, _, h, r => by
    cases h
    cases r
    exact ⟨_, Reads.bool b, by simp⟩
  | .int i, _, _, h, r => by
    cases h
    obtain ⟨t, rfl⟩ := r
    exact ⟨_, Reads.int i t, by simp⟩
  | .str x, _, _, h, r => by
    cases h
    obtain ⟨t, rfl⟩ := r
    exact ⟨_, Reads.str x t, by simp⟩
  | .list ds, _, _, h, r => by
    cases h with
    | lst hs ha =>
      cases r
      obtain ⟨its, rv, ⟨o, n, ho, hc, _, hd⟩, _⟩ := I.list hs
      obtain ⟨as, hr, hn⟩ := Dq.readsAll I hT hK ds _ its ha rv
      exact ⟨_, Reads.list ho hc hd hr, fun m => (List.mem_cons.mp m).elim (fun e => hT.notL hK hs e.symm) hn⟩
  | .tuple ds, _, _, h, r => by
    cases h with
    | tup hs ha =>
      cases r
      obtain ⟨its, rv, ⟨o, ho, hc, n, hd⟩, _⟩ := I.tuple hs
      obtain ⟨as, hr, hn⟩ := Dq.readsAll I hT hK ds _ its ha rv
      exact ⟨_, Reads.tuple ho hc hd hr, hn⟩
  | .dict ds, _, _, h, r => by
    cases h with
    | dct hs ha =>
      cases r
      obtain ⟨_, _, vs, kv, o, es, ep, ho, ⟨hc, _, _⟩, hd, _, pr, _⟩ := hs.ok I.hok
      obtain ⟨as, bs, h1, h2, n1, n2⟩ := Dq.readsKv I hT hK ds _ vs es.toList ha kv pr
      refine ⟨_, Reads.dict ho hc hd h1 h2, fun m => ?_⟩
      rcases List.mem_append.mp m with m | m
      · exact (List.mem_cons.mp m).elim (fun e => hT.notRd hs rfl e.symm) n1
      · exact n2 m
theorem Dq.readsAll (I : Inv X pins σ H s) (hT : SysT H) (hK : X.K.lookup sysModules = none) : ∀ (ds : List PyData) (vs : List V) (us : List Value), DqAll X.K H vs ds → Vals vs us → ∃ as, ReadsAll s.heap us ds as ∧ sysModules ∉ as
  | [], _, _, h, r => by
    cases h
    cases r
    exact ⟨_, ReadsAll.nil, by simp⟩
  | d :: ds, _, _, h, r => by
    cases h with
    | cons h1 h2 =>
      cases r with
      | cons r1 r2 =>
        obtain ⟨as, q1, n1⟩ := Dq.reads I hT hK d _ _ h1 r1
        obtain ⟨bs, q2, n2⟩ := Dq.readsAll I hT hK ds _ _ h2 r2
        exact ⟨_, ReadsAll.cons q1 q2, fun m => (List.mem_append.mp m).elim n1 n2⟩
theorem Dq.readsKv (I : Inv X pins σ H s) (hT : SysT H) (hK : X.K.lookup sysModules = none) : ∀ (ds : List (PyData × PyData)) (kvs : List (Key × V)) (vs : List (Key × Value)) (es : List DictEntry), DqKv X.K H kvs ds → KV kvs vs → Pairs (mixKind X.prog X.w) es vs →
    ∃ as bs, ReadsAll s.heap (es.map (·.key)) (ds.map (·.1)) as ∧ ReadsAll s.heap (es.map (·.val)) (ds.map (·.2)) bs ∧ sysModules ∉ as ∧ sysModules ∉ bs
  | [], _, _, _, h, r, p => by
    cases h
    cases r
    cases p
    exact ⟨_, _, ReadsAll.nil, ReadsAll.nil, by simp, by simp⟩
  | (k, d) :: ds, _, _, _, h, r, p => by
    cases h with
    | cons e h1 h2 =>
      cases r with
      | cons r1 r2 =>
        cases p with
        | cons p1 p2 p3 =>
          have rv := r1.2
          rw [← p2] at rv
          obtain ⟨bs, q1, n1⟩ := Dq.reads I hT hK d _ _ h1 rv
          obtain ⟨as', bs', q2, q3, n2, n3⟩ := Dq.readsKv I hT hK ds _ _ _ h2 r2 p3
          have k1 : keyIs _ _ = true := p1
          rw [← r1.1] at k1
          have e : kDat _ = k := e
          rcases keyIs_shape k1 with ⟨i, t, e1, e2⟩ | ⟨x, t, e1, e2⟩
          · rw [e1] at e
            cases e
            have rk := Reads.int (h := s.heap) i t
            rw [← e2] at rk
            refine ⟨_, _, ReadsAll.cons rk q2, ReadsAll.cons q1 q3, fun m => ?_, fun m => (List.mem_append.mp m).elim n1 n3⟩
            exact (List.mem_append.mp m).elim (fun z => nomatch z) n2
          · rw [e1] at e
            cases e
            have rk := Reads.str (h := s.heap) x t
            rw [← e2] at rk
            refine ⟨_, _, ReadsAll.cons rk q2, ReadsAll.cons q1 q3, fun m => ?_, fun m => (List.mem_append.mp m).elim n1 n3⟩
            exact (List.mem_append.mp m).elim (fun z => nomatch z) n2
end
end
/-- repr(e), e any data -/
def rReprQ (K : PySem.W.Frag) : List V → Hp → VK → Prop := fun xs H Q => ∃ x d, xs = [x] ∧ SysT H ∧ Dq K H x d ∧ d.showable = true ∧ d.depth ≤ 64 ∧ d.shown.length ≤ sizeLine ∧ Q (.str d.shown) H
theorem call_reprQ {X : Cx} (c : Calm X.A) (hu : X.A.units + 70 < cLine) (hK : X.K.lookup sysModules = none) : CallR X (.builtin "repr") (rReprQ X.K) := by
  intro pins s σ H xs us Q I r h
  obtain ⟨x, d, rfl, hT, hd, h1, h2, h3, q⟩ := h
  obtain ⟨u, rfl, rx⟩ := vals1 r
  have done : ∀ (h' : Heap) (t tk : Tok), (∀ b o, s.heap.get? b = some o → h'.get? b = some o) → EP X pins σ Q (.str d.shown t) { s with heap := h', toks := tk } := fun h' t tk hk => ⟨.str _, H, I.kept hk, ⟨_, rfl⟩, q⟩
  obtain ⟨as, r1, n1⟩ := Dq.reads I hT hK d x u hd rx
  cases d with
  | none =>
    cases r1
    exact PySem.P.repr_of_none (by simpa [PyData.shown] using done s.heap _ _ fun _ _ e => e)
  | bool b =>
    cases r1
    exact PySem.P.repr_of_bool (by simpa [PyData.shown] using done s.heap _ _ fun _ _ e => e)
  | int i =>
    cases r1
    exact PySem.P.repr_of_int (by simpa [PyData.showable] using h1) (by simpa [PyData.shown] using done s.heap _ _ fun _ _ e => e)
  | str t =>
    cases r1
    exact PySem.P.repr_of_str (by simpa [PyData.shown] using done s.heap _ _ fun _ _ e => e) (by simpa [PyData.shown] using h3)
  | list ds =>
    obtain ⟨a, rfl⟩ := isRef_of_reads r1 rfl
    exact repr_of_reads' r1 h1 (fun _ => n1) c (by omega) (fun _ _ e => e) done h3
  | tuple ds =>
    obtain ⟨a, rfl⟩ := isRef_of_reads r1 rfl
    exact repr_of_reads' r1 h1 (fun _ => n1) c (by omega) (fun _ _ e => e) done h3
  | dict kvs =>
    obtain ⟨a, rfl⟩ : ∃ a, u = Value.ref a := by cases r1; exact ⟨_, rfl⟩
    exact repr_of_reads' r1 h1 (fun _ => n1) c (by omega) (fun _ _ e => e) done h3
end Ev

set_option Elab.async false
set_option linter.all false
set_option maxRecDepth 100000
set_option maxHeartbeats 4000000
/-! Sets of tuples whose items are keys by value (whole numbers, texts); sorted of them. -/
namespace Ev
open PySem PySem.Spec L2 PyProof.Rows
variable [z : Tz]
section
variable {P : Program} {w : World} {κ : Type} [DecidableEq κ] {knd : KeyKind P w κ} {A : Around} {E : Value → Shared → Prop} {s : Shared}
/-- the items answer by themselves: no class statement; whether hashed by value, one way or the other -/
def Mild (knd : KeyKind P w κ) : Prop := ∀ k v, knd.is k v = true → (∀ n, ofAClassStatement n v = pure false) ∧ ∀ n, ∃ b, hashByValue n v = pure b
theorem mild_mix : Mild (mixKind P w) := fun k v e => by
  rcases keyIs_shape (k := k) (v := v) e with ⟨i, t, _, rfl⟩ | ⟨x, t, _, rfl⟩
  · exact ⟨fun n => by cases n <;> rfl, fun n => ⟨true, by cases n <;> rfl⟩⟩
  · exact ⟨fun n => by cases n <;> rfl, fun n => ⟨false, by cases n <;> simp [hashByValue]⟩⟩
theorem items_key {k : List κ} {vs : List Value} (z : ItemsAre knd k vs) : ∀ v ∈ vs, ∃ q, knd.is q v = true := by
  induction z with
  | nil => exact fun v m => nomatch m
  | @cons q u qs us e _ ih =>
    intro v m
    rcases List.mem_cons.mp m with rfl | m
    · exact ⟨q, e⟩
    · exact ih v m
theorem tup_noClass (ml : Mild knd) {k : List κ} {b : Addr} {Q : Bool → Shared → Prop} (hk : IsTupleKey knd s.heap k b) (h : Q false s) : wpAny (model P w) A (ofAClassStatement 8 (.ref b)) Q E s := by
  have ty := hk.typeIs
  obtain ⟨o, items, n, go, _, gd, z⟩ := hk
  unfold ofAClassStatement
  refine wpAny_bind (wpAny_typeOf ty ?_)
  dsimp only
  simp only [show (("tuple" : String) == "tuple") = true from by decide, if_true, Bool.not_true, Bool.false_eq_true, if_false]
  try (refine wpAny_bind (wpAny_pure ?_); try simp only [Bool.not_true, Bool.false_eq_true, if_false])
  show wpAny _ _ (seqItems? (.ref b) >>= _) _ _ s
  refine wpAny_bind (wpAny_seqItems go gd ?_)
  dsimp only
  refine wpAny_bind ?_
  show wpAny _ _ (forIn items _ _) _ _ s
  rw [← Array.forIn_toList]
  refine wpAny_forIn_list _ (fun rest r s2 => r = (none, ⟨⟩) ∧ s2 = s ∧ ∀ v ∈ rest, v ∈ items.toList) _ ?_ ?_ _ _ ⟨rfl, rfl, fun _ m => m⟩
  · rintro v rest r s2 ⟨rfl, rfl, all⟩
    obtain ⟨q, e⟩ := items_key z v (all v (List.mem_cons_self ..))
    rw [(ml q v e).1]
    refine wpAny_bind (wpAny_pure ?_)
    simp only [Bool.false_eq_true, if_false]
    exact wpAny_pure ⟨rfl, rfl, fun u m => all u (List.mem_cons_of_mem _ m)⟩
  · rintro r s2 ⟨rfl, rfl, _⟩
    exact wpAny_pure h
theorem tup_byValue (ml : Mild knd) {k : List κ} {b : Addr} {Q : Bool → Shared → Prop} (hk : IsTupleKey knd s.heap k b) (h : ∀ b, Q b s) : wpAny (model P w) A (hashByValue 8 (.ref b)) Q E s := by
  have ty := hk.typeIs
  obtain ⟨o, items, n, go, _, gd, z⟩ := hk
  unfold hashByValue
  refine wpAny_bind (wpAny_specialOf ty F.slot_tuple_hash.lookup ?_)
  show wpAny _ _ (seqItems? (.ref b) >>= _) _ _ s
  refine wpAny_bind (wpAny_seqItems go gd ?_)
  refine wpAny_bind ?_
  show wpAny _ _ (forIn items _ _) _ _ s
  rw [← Array.forIn_toList]
  refine wpAny_forIn_list _ (fun rest r s2 => r = (none, ⟨⟩) ∧ s2 = s ∧ ∀ v ∈ rest, v ∈ items.toList) _ ?_ ?_ _ _ ⟨rfl, rfl, fun _ m => m⟩
  · rintro v rest r s2 ⟨rfl, rfl, all⟩
    obtain ⟨q, e⟩ := items_key z v (all v (List.mem_cons_self ..))
    obtain ⟨c, hc⟩ := (ml q v e).2 7
    rw [hc]
    refine wpAny_bind (wpAny_pure ?_)
    cases c with
    | true =>
      simp only [Bool.not_true, Bool.false_eq_true, if_false]
      exact wpAny_pure ⟨rfl, rfl, fun u m => all u (List.mem_cons_of_mem _ m)⟩
    | false =>
      simp only [Bool.not_false, if_true]
      exact wpAny_pure (wpAny_pure (h false))
  · rintro r s2 ⟨rfl, rfl, _⟩
    exact wpAny_pure (h true)
/-- nothing of a search among such tuples is seen -/
theorem tup_unseen (ml : Mild knd) {k : List κ} {b : Addr} {ys : List Value} {Q : Bool → Shared → Prop} (hk : IsTupleKey knd s.heap k b) (hy : ∀ y ∈ ys, ∃ q c, y = Value.ref c ∧ IsTupleKey knd s.heap q c) (h : Q false s) :
    wpAny (model P w) A (searchCouldBeSeen (.ref b) ys) Q E s := by
  unfold searchCouldBeSeen
  refine wpAny_bind ?_
  refine wpAny_forIn_list _ (fun rest r s2 => r = (none, ⟨⟩) ∧ s2 = s ∧ ∀ y ∈ rest, y ∈ ys) _ ?_ ?_ _ _ ⟨rfl, rfl, fun _ m => m⟩
  · rintro v rest r s2 ⟨rfl, rfl, all⟩
    obtain ⟨q, c, rfl, hc⟩ := hy v (all v (List.mem_cons_self ..))
    have all' : ∀ y ∈ rest, y ∈ ys := fun u m => all u (List.mem_cons_of_mem _ m)
    dsimp only
    by_cases sm : (b == c || (carriedByValue (.ref b) && carriedByValue (.ref c))) = true
    · exact wp_if_pos sm (wpAny_pure ⟨rfl, rfl, all'⟩)
    · refine wp_if_neg sm (wpAny_bind (wpAny_eqIsQuiet_tuple hk ?_))
      simp only [Bool.not_true, Bool.false_eq_true, if_false]
      refine wpAny_bind (wpAny_eqIsQuiet_tuple hc ?_)
      simp only [Bool.not_true, Bool.false_eq_true, if_false]
      refine wpAny_bind (tup_noClass ml hk ?_)
      simp only [Bool.false_eq_true, if_false]
      refine wpAny_bind (tup_noClass ml hc ?_)
      simp only [Bool.false_eq_true, if_false]
      exact wpAny_pure ⟨rfl, rfl, all'⟩
  · rintro r s2 ⟨rfl, rfl, _⟩
    exact wpAny_pure h
end
end Ev

set_option Elab.async false
set_option linter.all false
set_option maxRecDepth 100000
set_option maxHeartbeats 4000000
/-! The set of tuples at an address: a search in it, one more put in. -/
namespace Ev
open PySem PySem.Spec L2 PyProof.Rows
variable [z : Tz]
section
variable {P : Program} {w : World} {κ : Type} [DecidableEq κ] {knd : KeyKind P w κ} {A : Around} {E : Value → Shared → Prop} {s : Shared}
abbrev kh (knd : KeyKind P w κ) (k : List κ) : Int := tupleKeyHash knd k
def rws (knd : KeyKind P w κ) (L : List (Addr × List κ)) : List (Int × Value) := L.map fun p => (kh knd p.2, Value.ref p.1)
theorem rws_len (L : List (Addr × List κ)) : (rws knd L).length = L.length := by unfold rws; rw [List.length_map]
theorem rws_at {L : List (Addr × List κ)} {i : Nat} {p : Addr × List κ} (e : L[i]? = some p) : (rws knd L)[i]? = some (kh knd p.2, Value.ref p.1) := by
  unfold rws
  rw [List.getElem?_map, e]
  rfl
/-- at a stands the set of these tuples (each an address and its items), in the table's order -/
structure TSet (knd : KeyKind P w κ) (h : Heap) (a : Addr) (L : List (Addr × List κ)) (es : Array (Int × Value)) (ep : Nat) (t : SetTable) : Prop where
  ob : ∃ o, h.get? a = some o ∧ o.ExactSet ∧ o.data = .set es ep t
  ent : es.toList = rws knd L
  tab : TabOk t (L.map fun p => kh knd p.2)
  nd : (L.map (·.2)).Nodup
  tup : ∀ p ∈ L, IsTupleKey knd h p.2 p.1
  led : w.params.followText "set-order" = true ∨ t.led = true
  room : L.length * 5 < t.mask * 3
  few : L.length < 64
variable {a : Addr} {L : List (Addr × List κ)} {es : Array (Int × Value)} {ep : Nat} {t : SetTable}
theorem ent_size (e : es.toList = rws knd L) : es.size = L.length := by
  rw [← Array.length_toList, e, rws_len]
theorem ent_at (e : es.toList = rws knd L) {i : Nat} {p : Addr × List κ} (h : L[i]? = some p) : es[i]? = some (kh knd p.2, Value.ref p.1) := by
  rw [← Array.getElem?_toList, e]
  exact rws_at h
theorem fits_of {n : Nat} (h1 : t.place.size = n) (h2 : t.dummies = #[]) (h3 : n ≤ t.mask) : t.fits n = true := by
  unfold SetTable.fits SetTable.fill
  rw [h2, Bool.and_eq_true, beq_iff_eq, decide_eq_true_eq]
  refine ⟨h1, ?_⟩
  show t.place.size + 0 ≤ t.mask
  omega
theorem TSet.fits (R : TSet knd s.heap a L es ep t) : t.fits es.size = true := by
  have r := R.room
  have z := R.tab.sz
  rw [List.length_map] at z
  refine fits_of ?_ R.tab.dm ?_ <;> rw [ent_size R.ent]
  · exact z
  · omega
/-- the c-th step of the way of a hash -/
abbrev prb (t : SetTable) (h : Int) (c : Nat) : SetTable.Probe := nth t.mask (runAt t.mask (SetTable.bits h % (t.mask + 1)) (SetTable.bits h)) c
theorem prb_add (h : Int) (c q : Nat) : nth t.mask (prb t h c) q = prb t h (c + q) := (nth_add t.mask c _ q).symm
theorem prb_j (h : Int) (c q : Nat) : (nth t.mask (prb t h c) q).j = way t.mask h (c + q) := congrArg SetTable.Probe.j (prb_add h c q)
theorem nth_noDummy (m : Nat) : ∀ (n : Nat) (p : SetTable.Probe), p.dummy = none → (nth m p n).dummy = none
  | 0, _, e => e
  | n + 1, p, e => nth_noDummy m n (adv m p) (by unfold adv; split <;> exact e)
/-- a search that adds, from the c-th step on; K is the first empty slot of the way -/
theorem tset_seek (ml : Mild knd) (R : TSet knd s.heap a L es ep t) {x : Addr} {k : List κ} (hx : IsTupleKey knd s.heap k x) (hu : A.units < cLine) {K : Nat} (kf : K < 10 * SetTable.turns t.mask) (kn : way t.mask (kh knd k) K ∉ t.place.toList)
    (kb : ∀ c, c < K → way t.mask (kh knd k) c ∈ t.place.toList) {Q : SetFound → Shared → Prop} (yes : k ∈ L.map (·.2) → Q (.there none) s) (no : k ∉ L.map (·.2) → Q (.free (way t.mask (kh knd k) K) false) s) :
    ∀ (f c : Nat) (st : Option SetTable.Probe), st.getD (t.probeStart (kh knd k)) = prb t (kh knd k) c → c ≤ K → K - c < f → (∀ (i : Nat) p, L[i]? = some p → p.2 = k → ∃ c', c ≤ c' ∧ c' < K ∧ t.place.toList[i]? = some (way t.mask (kh knd k) c')) →
      wpAny (model P w) A (setSearchFrom a (.ref x) (kh knd k) true f st) Q E s := by
  intro f
  induction f with
  | zero => exact fun c st _ _ hf _ => absurd hf (Nat.not_lt_zero _)
  | succ f ih =>
    intro c st hst hc hf ahead
    obtain ⟨o, go, _, gd⟩ := R.ob
    have gone : ¬ t.gaveWay = true := by
      unfold SetTable.gaveWay
      rw [mask_odd R.tab.mok]
      decide
    rw [setSearchFrom_succ]
    refine wpAny_bind (wpAny_setState_of go gd R.fits ?_)
    dsimp only
    refine wp_if_neg gone ?_
    try refine wpAny_bind (wpAny_pure ?_)
    have hash_at : ∀ (i : Nat) p, L[i]? = some p → (es[i]?.map (·.1)).getD 0 = kh knd p.2 := fun i p e => by
      rw [ent_at R.ent e]
      rfl
    have sp := go_spec t R.tab.ris R.tab.dm (fun i => (es[i]?.map (·.1)).getD 0) (kh knd k) (10 * SetTable.turns t.mask) (K - c) (prb t (kh knd k) c) (nth_noDummy _ c _ rfl) (by omega)
      (fun q hq => by rw [prb_j]; exact kb (c + q) (by omega)) (by rw [prb_j, Nat.add_sub_cancel' hc]; exact kn)
    rcases sp with ⟨q, i, hq, hi, hh, before, found⟩ | ⟨before, found⟩
    · rw [prb_j] at hi
      have asked : t.probe (fun i => (es[i]?.map (·.1)).getD 0) (kh knd k) (st.getD (t.probeStart (kh knd k))) = some (.candidate (way t.mask (kh knd k) (c + q)) i (prb t (kh knd k) (c + (q + 1)))) := by
        rw [hst, ← prb_j, ← prb_add]
        exact found
      rw [asked]
      dsimp only
      have il : i < L.length := by
        have e1 := (List.getElem?_eq_some_iff.mp hi).1
        have e2 := R.tab.sz
        rw [List.length_map] at e2
        rw [Array.length_toList] at e1
        omega
      obtain ⟨p, hp⟩ : ∃ p, L[i]? = some p := ⟨_, List.getElem?_eq_getElem il⟩
      have pm := List.mem_of_getElem? hp
      have live : t.slot (way t.mask (kh knd k) (c + q)) = .live i := slot_live R.tab.ris hi
      have tail : wpAny (model P w) A (searchRest a (.ref x) (kh knd k) true f es t (way t.mask (kh knd k) (c + q)) i (prb t (kh knd k) (c + (q + 1)))) Q E s := by
        unfold searchRest
        rw [ent_at R.ent hp]
        dsimp only
        refine wpAny_bind (wpAny_holding (wpAny_eqBool_tuple hu (R.tup p pm) hx ?_))
        refine wpAny_bind (wpAny_setState_of go gd R.fits ?_)
        dsimp only
        by_cases ek : p.2 = k
        · refine wp_if_pos (by simp [ek]) (wpAny_pure (yes ?_))
          rw [← ek]
          exact List.mem_map_of_mem pm
        · refine wp_if_neg (by simp [ek]) ?_
          try refine wpAny_bind (wpAny_pure ?_)
          rw [sameMem]
          dsimp only
          simp only [if_true, live, ent_at R.ent hp]
          refine wpAny_bind (wpAny_isSame_ref_self (wpAny_bind (wpAny_pure ?_)))
          simp only [if_true]
          refine wp_if_neg (by simp [ek]) (ih (c + (q + 1)) _ rfl (by omega) (by omega) fun j r hr er => ?_)
          obtain ⟨c', a1, a2, a3⟩ := ahead j r hr er
          refine ⟨c', ?_, a2, a3⟩
          rcases Nat.lt_trichotomy c' (c + q) with z | z | z
          · refine absurd ((hash_at j r hr).trans (congrArg (kh knd) er)) (before (c' - c) j (by omega) ?_)
            rw [prb_j, Nat.add_sub_cancel' a1]
            exact a3
          · rw [z] at a3
            have l2 := slot_live R.tab.ris a3
            rw [live] at l2
            injection l2 with l2
            rw [← l2, hp] at hr
            cases hr
            exact absurd er ek
          · omega
      by_cases hl : t.led = true
      · refine wp_if_neg (by simp [hl]) ?_
        try refine wpAny_bind (wpAny_pure ?_)
        exact tail
      · refine wp_if_pos (by simp [hl]) (wpAny_bind (tup_unseen ml hx (fun y hy => ?_) ?_))
        · obtain ⟨e, he, rfl⟩ := List.mem_map.mp hy
          have he2 : e ∈ es.toList := by
            have : e ∈ es ∧ e.1 = kh knd k := by simpa using he
            simpa using this.1
          rw [R.ent] at he2
          obtain ⟨r, hr, rfl⟩ := List.mem_map.mp he2
          exact ⟨r.2, r.1, rfl, R.tup r hr⟩
        · refine wp_if_neg (by decide) ?_
          try refine wpAny_bind (wpAny_pure ?_)
          exact tail
    · have asked : t.probe (fun i => (es[i]?.map (·.1)).getD 0) (kh knd k) (st.getD (t.probeStart (kh knd k))) = some (.empty (way t.mask (kh knd k) K) none) := by
        have e := prb_j (t := t) (kh knd k) c (K - c)
        rw [Nat.add_sub_cancel' hc] at e
        rw [hst, ← e]
        exact found
      rw [asked]
      dsimp only
      refine wpAny_pure (no fun hm => ?_)
      obtain ⟨r, hr, er⟩ := List.mem_map.mp hm
      obtain ⟨j, hj⟩ := List.getElem?_of_mem hr
      obtain ⟨c', a1, a2, a3⟩ := ahead j r hj er
      refine absurd ((hash_at j r hj).trans (congrArg (kh knd) er)) (before (c' - c) j (by omega) ?_)
      rw [prb_j, Nat.add_sub_cancel' a1]
      exact a3
theorem tset_search (ml : Mild knd) (R : TSet knd s.heap a L es ep t) {x : Addr} {k : List κ} (hx : IsTupleKey knd s.heap k x) (hu : A.units < cLine) {Q : SetFound → Shared → Prop} (yes : k ∈ L.map (·.2) → Q (.there none) s)
    (no : ∀ K, k ∉ L.map (·.2) → way t.mask (kh knd k) K ∉ t.place.toList → (∀ c, c < K → way t.mask (kh knd k) c ∈ t.place.toList) → Q (.free (way t.mask (kh knd k) K) false) s) :
    wpAny (model P w) A (setSearch a (.ref x) (kh knd k) true) Q E s := by
  have rm := R.room
  obtain ⟨K, kf, kn, kb⟩ := R.tab.first (by rw [List.length_map]; omega) (kh knd k)
  have small : K < 100000 := by
    have : 10 * SetTable.turns t.mask ≤ 1420 := by
      unfold SetTable.turns
      rcases R.tab.mok with e | e | e <;> omega
    omega
  unfold setSearch
  refine tset_seek ml R hx hu kf kn kb yes (fun hn => no K hn kn kb) 100000 0 none rfl (Nat.zero_le _) (by omega) fun i p hp er => ?_
  have il : i < t.place.toList.length := by
    have e1 := (List.getElem?_eq_some_iff.mp hp).1
    have e2 := R.tab.sz
    rw [List.length_map] at e2
    rw [Array.length_toList]
    omega
  have hj := List.getElem?_eq_getElem il
  obtain ⟨c, hc, e⟩ := R.tab.before kn (i := i) (by rw [List.getElem?_map, hp, ← er]; rfl) hj
  exact ⟨c, Nat.zero_le _, hc, by rw [hj, e]⟩
end
end Ev

set_option Elab.async false
set_option linter.all false
set_option maxRecDepth 100000
set_option maxHeartbeats 4000000
/-! One more tuple put into a set of tuples; a table laid anew. -/
namespace Ev
open PySem PySem.Spec L2 PyProof.Rows
variable [z : Tz]
theorem all_of_range {α : Type} : ∀ l : List α, (List.range l.length).filterMap (fun i => l[i]?) = l
  | [] => rfl
  | x :: l => by
    rw [List.length_cons, List.range_succ_eq_map, List.filterMap_cons_some (by rfl), List.filterMap_map]
    exact congrArg (x :: ·) (all_of_range l)
theorem picks_map {α β : Type} {f : Nat → Option α} {g : α → β} {u : Nat → β} : ∀ {l : List Nat}, (∀ i ∈ l, ∃ x, f i = some x ∧ u i = g x) → (l.filterMap f).map g = l.map u
  | [], _ => rfl
  | i :: l, h => by
    obtain ⟨x, e1, e2⟩ := h i (List.mem_cons_self ..)
    rw [List.filterMap_cons_some e1, List.map_cons, List.map_cons, picks_map fun j m => h j (List.mem_cons_of_mem _ m), e2]
section
variable {P : Program} {w : World} {κ : Type} [DecidableEq κ] {knd : KeyKind P w κ} {A : Around} {E : Value → Shared → Prop} {s : Shared}
theorem ent_order {L : List (Addr × List κ)} {es : Array (Int × Value)} {order : Array Nat} (e : es.toList = rws knd L) (hp : order.toList.Perm (List.range L.length)) :
    ∃ L2, (order.filterMap (es[·]?)).toList = rws knd L2 ∧ L2.Perm L ∧ (L2.map fun p => kh knd p.2) = order.toList.map fun i => (es.map (·.1)).getD i 0 := by
  refine ⟨order.toList.filterMap fun i => L[i]?, ?_, ?_, ?_⟩
  · have q : (order.filterMap (es[·]?)).toList = order.toList.filterMap fun i => es[i]? := by simp
    have r : (fun i : Nat => es[i]?) = fun i => (L[i]?).map fun (p : Addr × List κ) => (kh knd p.2, Value.ref p.1) := by
      funext i
      rw [← Array.getElem?_toList, e]
      unfold rws
      rw [List.getElem?_map]
    rw [q, r]
    unfold rws
    rw [List.map_filterMap]
  · have q := hp.filterMap fun i => L[i]?
    rwa [all_of_range] at q
  · refine picks_map fun i m => ?_
    have il := List.mem_range.mp (hp.mem_iff.mp m)
    refine ⟨_, List.getElem?_eq_getElem il, ?_⟩
    have q := ent_at e (List.getElem?_eq_getElem il)
    have r : (es.map (·.1))[i]? = some (kh knd (L[i]).2) := by rw [Array.getElem?_map, q]; rfl
    simp [Array.getD_eq_getD_getElem?, r]
variable {a : Addr} {L : List (Addr × List κ)} {es : Array (Int × Value)} {ep : Nat} {t : SetTable}
theorem key_same {h h' : Heap} {k : List κ} {a b : Addr} {o : Obj} {es : Array (Int × Value)} {ep : Nat} {t : SetTable} (hb : IsTupleKey knd h k b) (go : h.get? a = some o) (gd : o.data = .set es ep t) (sb : Heap.SameBut a h h') : IsTupleKey knd h' k b := by
  obtain ⟨u, its, n, gu, gc, g2, z⟩ := hb
  refine ⟨u, its, n, (sb.2 b fun e => ?_).trans gu, gc, g2, z⟩
  rw [e, go] at gu
  cases gu
  rw [gd] at g2
  cases g2
theorem key_keep {h h' : Heap} {k : List κ} {b : Addr} (x : IsTupleKey knd h k b) (kp : ∀ c o, h.get? c = some o → h'.get? c = some o) : IsTupleKey knd h' k b := by
  obtain ⟨o, its, n, go, r⟩ := x
  exact ⟨o, its, n, kp b o go, r⟩
/-- the table laid anew, larger -/
theorem tset_relay {o : Obj} (go : s.heap.get? a = some o) (ex : o.ExactSet) (gd : o.data = .set es ep t) (e : es.toList = rws knd L) (tsz : t.place.size = es.size) (tdm : t.dummies = #[]) (tfl : es.size ≤ t.mask) (nd : (L.map (·.2)).Nodup)
    (tup : ∀ p ∈ L, IsTupleKey knd s.heap p.2 p.1) (ld : w.params.followText "set-order" = true ∨ t.led = true) (few : L.length < 64) {wanted M : Nat} (hw : SetTable.sizeAbove wanted - 1 = M) (hM : MaskOk M) (hw2 : SetTable.sizeAbove wanted ≤ 128) (hn : L.length * 5 < M * 3) {Q : Unit → Shared → Prop}
    (q : ∀ h' L' es' ep' t', Heap.SameBut a s.heap h' → TSet knd h' a L' es' ep' t' → L'.Perm L → Q () { s with heap := h' }) : wpAny (model P w) A (setRelay a wanted) Q E s := by
  have sz := ent_size e
  obtain ⟨t2, order, e1, hp, T, em, el, _, _⟩ := relaid_ok t (hs := es.map (·.1)) (wanted := wanted) hw hM (by rw [Array.size_map, sz]; omega)
  rw [Array.size_map, sz] at hp
  obtain ⟨L2, r1, r2, r3⟩ := ent_order e hp
  rw [← r3] at T
  have sz2 : (order.filterMap (es[·]?)).size = es.size := by rw [ent_size r1, r2.length_eq, sz]
  rw [setRelay_eq]
  refine wpAny_bind (wpAny_setState_of go gd (fits_of tsz tdm tfl) ?_)
  dsimp only
  refine wp_if_neg (by rw [sizeLine_eq]; omega) ?_
  try refine wpAny_bind (wpAny_pure ?_)
  rw [e1]
  dsimp only
  refine wpAny_bind (wp_if_neg (by rw [sz2]; simp) ?_)
  try refine wpAny_bind (wpAny_pure ?_)
  refine wpAny_pure ?_
  dsimp only
  refine wpAny_storeSet_of go gd ?_ (by rw [sz2, sz, sizeLine_eq]; omega)
  have sb : Heap.SameBut a s.heap (s.heap.update a (Obj.putSet (order.filterMap (es[·]?)) t2)) := Heap.SameBut.update ..
  exact q _ L2 _ (ep + 1) t2 sb ⟨⟨_, store_at go gd, ⟨ex.1, ex.2.1, ex.2.2⟩, rfl⟩, r1, T, (r2.map (·.2)).nodup_iff.mpr nd, fun p m => key_same (tup p (r2.mem_iff.mp m)) go gd sb, by rw [el]; exact ld, by rw [r2.length_eq, em]; exact hn, by rw [r2.length_eq]; exact few⟩ r2
theorem TabOk.plainly {t : SetTable} {hs : List Int} (T : TabOk t hs) (b : Bool) : TabOk { t with plain := b } hs := ⟨T.ris, T.dm, T.sz, T.mok, T.bd, T.reach⟩
/-- one more is put in -/
theorem tset_add (ml : Mild knd) (R : TSet knd s.heap a L es ep t) {x : Addr} {k : List κ} (hx : IsTupleKey knd s.heap k x) (hu : A.units < cLine) (hl : L.length + 1 < 64) {Q : Bool → Shared → Prop}
    (q : ∀ b h' L' es' ep' t', Heap.SameBut a s.heap h' → TSet knd h' a L' es' ep' t' → (k ∈ L.map (·.2) ∧ L' = L ∨ k ∉ L.map (·.2) ∧ L'.Perm ((x, k) :: L)) → Q b { s with heap := h' }) :
    wpAny (model P w) A (setAddHashed a (.ref x) (kh knd k)) Q E s := by
  obtain ⟨o, go, ex, gd⟩ := R.ob
  have sz := ent_size R.ent
  have rm := R.room
  unfold setAddHashed
  refine wpAny_holding ?_
  rw [show (100000 : Nat) = 99999 + 1 from rfl, setAddHashedIn_succ]
  refine wpAny_bind (wpAny_setState_of go gd R.fits ?_)
  dsimp only
  refine wp_if_neg (by simp [byScan, Value.scannable]) ?_
  try refine wpAny_bind (wpAny_pure ?_)
  refine wpAny_bind (tset_search ml R hx hu (fun hm => ?_) fun K hm kn kb => ?_)
  · dsimp only
    exact wpAny_pure (q false s.heap L es ep t (Heap.SameBut.refl a s.heap) R (.inl ⟨hm, rfl⟩))
  · dsimp only
    refine wpAny_bind (wpAny_setState_of go gd R.fits ?_)
    dsimp only
    obtain ⟨q1, q2, q3, q4, q5, _, _, _, q9⟩ := R.tab.put kn kb
    generalize t.put (way t.mask (kh knd k) K) = pt at q1 q3 q4 q5 q9 ⊢
    obtain ⟨t1, p⟩ := pt
    dsimp only at q1 q3 q4 q5 q9 ⊢
    subst q1
    generalize SetTable.below t.place (way t.mask (kh knd k) K) = p at q2 q3 ⊢
    have ent2 : (SetTable.insertAt es p (kh knd k, Value.ref x)).toList = rws knd (L.take p ++ (x, k) :: L.drop p) := by
      rw [SetTable.toList_insertAt, R.ent]
      unfold rws
      simp only [List.map_append, List.map_cons, List.map_take, List.map_drop]
    have pm := put_perm L p (x, k)
    have ehs : (L.map fun p => kh knd p.2).take p ++ kh knd k :: (L.map fun p => kh knd p.2).drop p = (L.take p ++ (x, k) :: L.drop p).map fun p => kh knd p.2 := by
      simp only [List.map_append, List.map_cons, List.map_take, List.map_drop]
    rw [ehs] at q3
    generalize L.take p ++ (x, k) :: L.drop p = L1 at pm q3 ent2
    generalize SetTable.insertAt es p (kh knd k, Value.ref x) = es1 at ent2 ⊢
    have len1 : L1.length = L.length + 1 := pm.length_eq
    have nd1 : (L1.map (·.2)).Nodup := (pm.map (·.2)).nodup_iff.mpr (List.nodup_cons.mpr ⟨hm, R.nd⟩)
    have sz1 := ent_size ent2
    -- whether hashed by value, one way or the other
    have go2 : ∀ b : Bool, wpAny (model P w) A (do
        storeSet a es1 (if b then t1 else { t1 with plain := false })
        if !false && (if b then t1 else { t1 with plain := false } : SetTable).tooFull then setRelay a (SetTable.grown (es.size + 1))
        return true) Q E s := by
      intro b
      have c1 : (if b then t1 else { t1 with plain := false } : SetTable) = { t1 with plain := (b && t1.plain) } := by
        cases b
        · rfl
        · cases t1; rfl
      rw [c1]
      have T2 : TabOk { t1 with plain := (b && t1.plain) } (L1.map fun p => kh knd p.2) := TabOk.plainly q3 _
      have m2 : ({ t1 with plain := (b && t1.plain) } : SetTable).mask = t.mask := q4
      have l2 : ({ t1 with plain := (b && t1.plain) } : SetTable).led = t.led := q5
      have f2 : ({ t1 with plain := (b && t1.plain) } : SetTable).fill = (L.map fun p => kh knd p.2).length + 1 := q9
      clear q3 q4 q5 q9 c1
      generalize ({ t1 with plain := (b && t1.plain) } : SetTable) = t2 at T2 m2 l2 f2 ⊢
      rw [List.length_map] at f2
      refine wpAny_bind (wpAny_storeSet_of go gd ?_ (by rw [sz1, len1, sizeLine_eq]; omega))
      have sb : Heap.SameBut a s.heap (s.heap.update a (Obj.putSet es1 t2)) := Heap.SameBut.update ..
      have go1 := store_at (es' := es1) (t' := t2) go gd
      generalize s.heap.update a (Obj.putSet es1 t2) = h1 at sb go1 ⊢
      have tup1 : ∀ p ∈ L1, IsTupleKey knd h1 p.2 p.1 := fun r m => by
        rcases List.mem_cons.mp (pm.mem_iff.mp m) with e | m
        · rw [e]; exact key_same hx go gd sb
        · exact key_same (R.tup r m) go gd sb
      have ld2 : w.params.followText "set-order" = true ∨ t2.led = true := by rw [l2]; exact R.led
      have psz : t2.place.size = L1.length := by
        have := T2.sz
        rwa [List.length_map] at this
      by_cases full : t2.tooFull = true
      · have hfull : (L.length + 1) * 5 ≥ t.mask * 3 := by
          have e := full
          unfold SetTable.tooFull at e
          rwa [decide_eq_true_eq, f2, m2] at e
        refine wp_if_pos full (wpAny_bind ?_)
        rw [sz]
        have two : (t.mask = 7 ∧ L.length = 4) ∨ (t.mask = 31 ∧ L.length = 18) := by
          rcases R.tab.mok with e | e | e <;> rw [e] at rm hfull
          · exact .inl ⟨e, by omega⟩
          · exact .inr ⟨e, by omega⟩
          · omega
        have anew : ∀ M, SetTable.sizeAbove (SetTable.grown (L.length + 1)) - 1 = M → MaskOk M → SetTable.sizeAbove (SetTable.grown (L.length + 1)) ≤ 128 → (L.length + 1) * 5 < M * 3 →
            wpAny (model P w) A (setRelay a (SetTable.grown (L.length + 1))) (fun _ s' => wpAny (model P w) A (pure true) Q E s') E { s with heap := h1 } := fun M a1 a2 a3 a4 =>
          tset_relay (s := { s with heap := h1 }) go1 ⟨ex.1, ex.2.1, ex.2.2⟩ rfl ent2 (by rw [psz, sz1]) T2.dm (by rw [sz1, m2, len1]; rcases two with ⟨e, e2⟩ | ⟨e, e2⟩ <;> omega) nd1 tup1 ld2 (by rw [len1]; exact hl) a1 a2 a3 (by rw [len1]; exact a4)
            fun h2 L2 es2 ep2 t2 sb2 R2 pm2 => wpAny_pure (q true h2 L2 es2 ep2 t2 (sb.trans sb2) R2 (.inr ⟨hm, pm2.trans pm⟩))
        rcases two with ⟨_, e2⟩ | ⟨_, e2⟩
        · exact anew 31 (by rw [e2, size_20]) (.inr (.inl rfl)) (by rw [e2, size_20]; decide) (by omega)
        · exact anew 127 (by rw [e2, size_76]) (.inr (.inr rfl)) (by rw [e2, size_76]; decide) (by omega)
      · refine wp_if_neg full (wpAny_pure ?_)
        refine q true h1 L1 es1 (ep + 1) t2 sb ⟨⟨_, go1, ⟨ex.1, ex.2.1, ex.2.2⟩, rfl⟩, ent2, T2, nd1, tup1, ld2, ?_, by rw [len1]; exact hl⟩ (.inr ⟨hm, pm⟩)
        have e := full
        unfold SetTable.tooFull at e
        rw [decide_eq_true_eq, f2, m2] at e
        rw [len1, m2]
        omega
    by_cases pl : t1.plain = true
    · exact wp_if_pos pl (wpAny_bind (tup_byValue ml hx go2))
    · exact wp_if_neg pl (wpAny_bind (wpAny_pure (go2 true)))
end
end Ev

set_option Elab.async false
set_option linter.all false
set_option maxRecDepth 100000
set_option maxHeartbeats 4000000
/-! set(xs), xs a list or a tuple of tuples; sorted of such a set. -/
namespace Ev
open PySem PySem.Spec L2 PyProof.Rows
variable [z : Tz]
section
variable {P : Program} {w : World} {κ : Type} [DecidableEq κ] {knd : KeyKind P w κ} {A : Around} {E : Value → Shared → Prop} {s : Shared}
/-- what a set has got from the first i of some tuples -/
structure Gets (ks : List (Addr × List κ)) (i : Nat) (L : List (Addr × List κ)) : Prop where
  from_ : ∀ p ∈ L, p ∈ ks.take i
  each : ∀ p ∈ ks.take i, p.2 ∈ L.map (·.2)
  few : L.length ≤ i
theorem Gets.none (ks : List (Addr × List κ)) : Gets ks 0 [] := ⟨fun _ m => (nomatch m), fun _ m => (by rw [List.take_zero] at m; cases m), Nat.le_refl _⟩
theorem Gets.step {ks L L' : List (Addr × List κ)} {i : Nat} {r : Addr × List κ} (g : Gets ks i L) (e : ks[i]? = some r) (h : r.2 ∈ L.map (·.2) ∧ L' = L ∨ r.2 ∉ L.map (·.2) ∧ L'.Perm (r :: L)) : Gets ks (i + 1) L' := by
  have cut : ks.take (i + 1) = ks.take i ++ [r] := by
    rw [List.take_succ, e]
    rfl
  have mem : ∀ p, p ∈ ks.take (i + 1) ↔ p ∈ ks.take i ∨ p = r := fun p => by rw [cut, List.mem_append, List.mem_singleton]
  rcases h with ⟨hm, rfl⟩ | ⟨_, pm⟩
  · refine ⟨fun p m => (mem p).mpr (.inl (g.from_ p m)), fun p m => ?_, Nat.le_succ_of_le g.few⟩
    rcases (mem p).mp m with m | rfl
    · exact g.each p m
    · exact hm
  · refine ⟨fun p m => (mem p).mpr ?_, fun p m => (pm.map (·.2)).mem_iff.mpr ?_, by rw [pm.length_eq]; exact Nat.succ_le_succ g.few⟩
    · rcases List.mem_cons.mp (pm.mem_iff.mp m) with rfl | m
      · exact .inr rfl
      · exact .inl (g.from_ p m)
    · rcases (mem p).mp m with m | rfl
      · exact List.mem_cons_of_mem _ (g.each p m)
      · exact List.mem_cons_self ..
theorem TSet.carry {h h' : Heap} {a : Addr} {L : List (Addr × List κ)} {es : Array (Int × Value)} {ep : Nat} {t : SetTable} (R : TSet knd h a L es ep t) (ka : ∀ o, h.get? a = some o → h'.get? a = some o) (kt : ∀ p ∈ L, IsTupleKey knd h' p.2 p.1) : TSet knd h' a L es ep t := by
  obtain ⟨o, go, r⟩ := R.ob
  exact ⟨⟨o, ka o go, r⟩, R.ent, R.tab, R.nd, kt, R.led, R.room, R.few⟩
abbrev newSetObj (w : World) : Obj := { cls := .type "set", dict := none, data := .set #[] 0 (.fresh 0 0 (!w.params.followText "set-order")) }
theorem tset_new {h : Heap} {a : Addr} (go : h.get? a = some (newSetObj w)) : TSet knd h a [] #[] 0 (.fresh 0 0 (!w.params.followText "set-order")) := by
  refine ⟨⟨_, go, ⟨rfl, rfl, rfl⟩, rfl⟩, rfl, ⟨List.Pairwise.nil, rfl, rfl, .inl rfl, fun _ m => (nomatch m), fun i _ _ e => ?_⟩, List.nodup_nil, fun _ m => (nomatch m), ?_, ?_, ?_⟩
  · simp at e
  · show _ ∨ (!w.params.followText "set-order") = true
    cases w.params.followText "set-order"
    · exact .inr rfl
    · exact .inl rfl
  · show 0 * 5 < 7 * 3
    decide
  · show 0 < 64
    decide
/-- the loop of set.update over tuples -/
theorem tset_loop (ml : Mild knd) {I : Addr} {fp wr : List Addr} {G : Array GenState → Array GenState → Prop} {n : Nat} {Pv : Nat → Value → Prop} {St : Nat → Shared → Prop} {R : Result → Shared → Prop} (W : WalksS P w A.in1 I fp wr G n Pv St) (S : Addr) (hS : S ∉ fp)
    (ks : List (Addr × List κ)) (hn : n = ks.length) (few : ks.length < 64) (val : ∀ i v, Pv i v → ∃ p, ks[i]? = some p ∧ v = .ref p.1) (h0 : Heap) (hk : ∀ p ∈ ks, IsTupleKey knd h0 p.2 p.1) (nS : h0.get? S = none) (nW : ∀ b ∈ wr, h0.get? b = none) (hu : A.in1.units < cLine) :
    ∀ (k i : Nat) (s : Shared), n - i = k → i ≤ n → St i s → (∀ b o, h0.get? b = some o → s.heap.get? b = some o) → (∃ L es ep t, TSet knd s.heap S L es ep t ∧ Gets ks i L) →
      (∀ s' L es ep t, Moved (S :: wr) G s s' → TSet knd s'.heap S L es ep t → Gets ks n L → (∀ b o, h0.get? b = some o → s'.heap.get? b = some o) → R (.ok (.ret .none)) s') →
      codeAny (model P w) A (.builtin "set.update.loop" ⟨[.ref S, .ref I], []⟩) R s := by
  have nSw : S ∉ wr := fun m => hS (W.sub _ m)
  have wider : ∀ b ∈ wr, b ∈ S :: wr := fun b m => List.mem_cons_of_mem _ m
  have after : ∀ {s s' : Shared}, Moved wr G s s' → (∀ b o, h0.get? b = some o → s.heap.get? b = some o) → ∀ b o, h0.get? b = some o → s'.heap.get? b = some o := fun mv kp b o e =>
    mv.heap b o (fun m => by rw [nW b m] at e; cases e) (kp b o e)
  intro k
  induction k with
  | zero =>
    intro i s e1 e2 st kp ⟨L, es, ep, t, T, g⟩ fin
    obtain rfl : i = n := by omega
    refine codeAny_builtin F.entry_set_update_loop ?_
    rw [Around.under_plainId F.plain_set_update_loop _]
    show wpAny _ A.in1 (pyNext (.ref I) >>= _) _ _ s
    refine wpAny_bind (W.done s _ _ st fun s' mv => ?_)
    show wpAny _ A.in1 (ret Value.none) _ _ s'
    have kp' := after mv kp
    exact wpAny_pure (fin s' L es ep t (mv.mono wider) (T.carry (fun o e => mv.heap S o nSw e) fun p m => key_keep (hk p (List.mem_of_mem_take (g.from_ p m))) kp') g kp')
  | succ k ih =>
    intro i s e1 e2 st kp ⟨L, es, ep, t, T, g⟩ fin
    have lt : i < n := by omega
    refine codeAny_builtin F.entry_set_update_loop ?_
    rw [Around.under_plainId F.plain_set_update_loop _]
    show wpAny _ A.in1 (pyNext (.ref I) >>= _) _ _ s
    refine wpAny_bind (W.item i s _ _ lt st fun v s' pv st' mv => ?_)
    obtain ⟨r, hr, rfl⟩ := val i v pv
    have kp' := after mv kp
    have T' : TSet knd s'.heap S L es ep t := T.carry (fun o e => mv.heap S o nSw e) fun p m => key_keep (hk p (List.mem_of_mem_take (g.from_ p m))) kp'
    have hx : IsTupleKey knd s'.heap r.2 r.1 := key_keep (hk r (List.mem_of_getElem? hr)) kp'
    show wpAny _ A.in1 (holding [Value.ref r.1] (setAdd S (.ref r.1)) >>= _) _ _ s'
    refine wpAny_bind (wpAny_holding ?_)
    unfold setAdd
    refine wpAny_holding (wpAny_bind (wpAny_pyHash_tuple hu hx ?_))
    have gf := g.few
    refine tset_add (s := { s' with toks := s'.toks + (r.2.length + 1) }) ml T' hx hu (by omega) fun b h' L' es' ep' t' sb T2 c => ?_
    have kp2 : ∀ b o, h0.get? b = some o → h'.get? b = some o := fun b o e => (sb.2 b (fun z => by rw [z, nS] at e; cases e)).trans (kp' b o e)
    refine wpAny_pure ⟨plainId_quiet F.plain_set_update_loop _, ih (i + 1) _ (by omega) lt (W.frame _ s' _ _ st' (Nat.le_add_right _ _) fun b m o e => ?_) kp2 ⟨L', es', ep', t', T2, g.step hr c⟩ fun s2 L2 es2 ep2 t2 mv2 T3 g3 kp3 => ?_⟩
    · rw [sb.2 b (fun z : b = S => hS (by rw [← z]; exact m))]; exact e
    · refine fin s2 L2 es2 ep2 t2 (Moved.trans W.gtrans ((mv.mono wider).then_heap (Nat.le_add_right _ _) fun b o m e => ?_) mv2) T3 g3 kp3
      rw [sb.2 b (fun z : b = S => m (by rw [z]; exact List.mem_cons_self ..))]; exact e

theorem call_set_ofList (ml : Mild knd) {l : Addr} {items : Array Value} (ks : List (Addr × List κ)) {Q : Value → Shared → Prop} (hh : A.handled = none) (hl : s.heap.IsList l items) (hit : items.toList = ks.map fun p => Value.ref p.1) (hk : ∀ p ∈ ks, IsTupleKey knd s.heap p.2 p.1)
    (few : ks.length < 64) (hu : A.units + 3 < cLine) (q : ∀ (h' : Heap) (tk : Nat) L es ep t, TSet knd h' s.heap.objs.size L es ep t → Gets ks ks.length L → (∀ b o, s.heap.get? b = some o → h'.get? b = some o) → Q (.ref s.heap.objs.size) { s with heap := h', toks := tk }) :
    wpAny (model P w) A (call (.type "set") [.ref l]) Q E s := by
  have sz : items.size = ks.length := by rw [← Array.length_toList, hit, List.length_map]
  obtain ⟨c, tl, hmro⟩ := F.called_set.mro
  have hmade := F.called_set.made
  have hsub := F.called_set.sub
  refine wpAny_call (codeAny_of_tree ?_)
  show wpAny _ _ (callAny (.type "set") _) _ _ _
  refine wpAny_pure ⟨Code.quiet_builtin _ (by decide +kernel), codeAny_builtin F.entry_type_call ?_⟩
  rw [Around.under_plain (weight_type_call_type "set" [.ref l] []) rfl]
  have h1 := F.called_set.notType
  have h2 := F.called_set.canCreate
  have hct := F.typeCall_set_1 (.ref l)
  repeat (any_goals (first | assumption | wp_step))
  refine codeAny_mono (code_set_led1 (.ref l) (E := E) (Q₁ := fun obj s₁ => obj = .ref s.heap.objs.size ∧ s₁ = { s with heap := s.heap.push (newSetObj w) }) ⟨rfl, rfl⟩) fun r s₁ hr => ?_
  cases r with
  | error e => exact hr
  | ok fl =>
    cases fl with
    | ret obj =>
      obtain ⟨rfl, rfl⟩ := hr
      have hS : (s.heap.push (newSetObj w)).get? s.heap.objs.size = some (newSetObj w) := Heap.get?_push_size _ rfl
      have hT : Shared.TypeIs { s with heap := s.heap.push (newSetObj w) } (.ref s.heap.objs.size) "set" := ⟨_, hS, rfl⟩
      have hli := F.called_set.init.lookup
      have hbi := F.called_set.init.bind (.ref s.heap.objs.size)
      repeat (any_goals (first | assumption | wp_step))
      refine codeAny_mono (codeAny_call_builtin (R := wants (fun r s₂ => r = .none ∧ ∃ h' tk L es ep t, s₂ = { s with heap := h', toks := tk } ∧ TSet knd h' s.heap.objs.size L es ep t ∧ Gets ks ks.length L ∧
          (∀ b o, s.heap.get? b = some o → h'.get? b = some o)) E) F.called_set.init.plain F.entry_set_init (check_set_init_1 hT ?_)) fun r₂ s₂ hr₂ => ?_
      · obtain ⟨ol, hol, hcl, nl, hdl⟩ := hl
        obtain ⟨ocls, odict, odata, oslots⟩ := ol
        simp only at hcl hdl
        subst hcl; subst hdl
        have hol' : (s.heap.push (newSetObj w)).get? l = some { cls := .type "list", dict := odict, data := .seq items nl, slots := oslots } := Heap.get?_push_of_some _ hol
        have hsls := F.sub_list_set
        have hslf := F.sub_list_frozenset
        have hne : (Value.type "list" == Value.type "dict") = false := by decide
        have hl1 : (s.heap.push (newSetObj w)).IsList l items := ⟨_, hol', rfl, nl, rfl⟩
        unfold Builtin.«set.__init__» noKeywords Builtin.Frozenset.updateFrom
        generalize hPI : pyIter = PI
        wp_walk
        subst hPI
        refine wpAny_pyIter_list hl1 (wpAny_bind (wpAny_runValue ?_))
        have ll : l < s.heap.objs.size := Heap.lt_size hol
        have z1 : (s.heap.push (newSetObj w)).objs.size = s.heap.objs.size + 1 := Heap.size_push ..
        have lI : l ≠ (s.heap.push (newSetObj w)).objs.size := by
          rw [z1]
          exact Nat.ne_of_lt (Nat.lt_succ_of_lt ll)
        have out : s.heap.objs.size ∉ [(s.heap.push (newSetObj w)).objs.size, l] := fun m => by
          rcases List.mem_cons.mp m with e | m
          · exact absurd (e.trans z1) (Nat.ne_of_lt (Nat.lt_succ_self _))
          · exact absurd (List.mem_singleton.mp m) (Nat.ne_of_gt ll)
        have none_of : ∀ b, s.heap.objs.size ≤ b → s.heap.get? b = none := fun b hb => by
          cases q : s.heap.get? b with
          | none => rfl
          | some o => exact absurd (Nat.lt_of_lt_of_le (Heap.lt_size q) hb) (Nat.lt_irrefl _)
        refine tset_loop ml ((Walks.list (by simp [hh] : A.in1.in1.in1.handled = none) _ l lI items).toS) s.heap.objs.size out ks sz few (fun i v hv => ?_) s.heap hk (none_of _ (Nat.le_refl _)) (fun b m => none_of b ?_) hu (items.size - 0) 0 _ (by omega) (Nat.zero_le _)
          ⟨⟨_, Heap.get?_push_size _ rfl, rfl, rfl⟩, (hl1.push _)⟩ (fun b o e => Heap.get?_push_of_some _ (Heap.get?_push_of_some _ e)) ⟨[], #[], 0, _, tset_new (Heap.get?_push_of_some _ hS), Gets.none ks⟩ ?_
        · have e : items.toList[i]? = some v := by rw [Array.getElem?_toList]; exact hv
          rw [hit, List.getElem?_map] at e
          obtain ⟨p, hp, e⟩ := Option.map_eq_some_iff.mp e
          exact ⟨p, hp, e.symm⟩
        · rw [List.mem_singleton.mp m, z1]
          exact Nat.le_succ _
        · intro s' L es ep t mv T g kp
          obtain ⟨h', g2, d', tk', os'⟩ := s'
          obtain rfl : g2 = s.gens := mv.gens
          obtain rfl : d' = s.drawn := mv.drawn
          obtain rfl : os' = s.os := mv.os
          show wpAny _ _ _ _ _ _
          refine wpAny_pure ?_
          show wpAny _ _ (ret Value.none) _ _ _
          rw [sz] at g
          exact wpAny_pure ⟨rfl, h', tk', L, es, ep, t, rfl, T, g, kp⟩
      · cases r₂ with
        | error e => exact hr₂
        | ok fl₂ =>
          cases fl₂ with
          | ret r =>
            obtain ⟨rfl, h', tk, L, es, ep, t, rfl, T, g, kp⟩ := hr₂
            repeat (any_goals (first | assumption | wp_step))
            exact q _ _ _ _ _ _ T g kp
          | _ => exact hr₂.elim
    | _ => exact hr.elim

theorem call_set_ofTuple (ml : Mild knd) {l : Addr} {items : Array Value} (ks : List (Addr × List κ)) {Q : Value → Shared → Prop} (hh : A.handled = none) (hl : s.heap.IsTuple l items) (hit : items.toList = ks.map fun p => Value.ref p.1) (hk : ∀ p ∈ ks, IsTupleKey knd s.heap p.2 p.1)
    (few : ks.length < 64) (hu : A.units + 3 < cLine) (q : ∀ (h' : Heap) (tk : Nat) L es ep t, TSet knd h' s.heap.objs.size L es ep t → Gets ks ks.length L → (∀ b o, s.heap.get? b = some o → h'.get? b = some o) → Q (.ref s.heap.objs.size) { s with heap := h', toks := tk }) :
    wpAny (model P w) A (call (.type "set") [.ref l]) Q E s := by
  have sz : items.size = ks.length := by rw [← Array.length_toList, hit, List.length_map]
  obtain ⟨c, tl, hmro⟩ := F.called_set.mro
  have hmade := F.called_set.made
  have hsub := F.called_set.sub
  refine wpAny_call (codeAny_of_tree ?_)
  show wpAny _ _ (callAny (.type "set") _) _ _ _
  refine wpAny_pure ⟨Code.quiet_builtin _ (by decide +kernel), codeAny_builtin F.entry_type_call ?_⟩
  rw [Around.under_plain (weight_type_call_type "set" [.ref l] []) rfl]
  have h1 := F.called_set.notType
  have h2 := F.called_set.canCreate
  have hct := F.typeCall_set_1 (.ref l)
  repeat (any_goals (first | assumption | wp_step))
  refine codeAny_mono (code_set_led1 (.ref l) (E := E) (Q₁ := fun obj s₁ => obj = .ref s.heap.objs.size ∧ s₁ = { s with heap := s.heap.push (newSetObj w) }) ⟨rfl, rfl⟩) fun r s₁ hr => ?_
  cases r with
  | error e => exact hr
  | ok fl =>
    cases fl with
    | ret obj =>
      obtain ⟨rfl, rfl⟩ := hr
      have hS : (s.heap.push (newSetObj w)).get? s.heap.objs.size = some (newSetObj w) := Heap.get?_push_size _ rfl
      have hT : Shared.TypeIs { s with heap := s.heap.push (newSetObj w) } (.ref s.heap.objs.size) "set" := ⟨_, hS, rfl⟩
      have hli := F.called_set.init.lookup
      have hbi := F.called_set.init.bind (.ref s.heap.objs.size)
      repeat (any_goals (first | assumption | wp_step))
      refine codeAny_mono (codeAny_call_builtin (R := wants (fun r s₂ => r = .none ∧ ∃ h' tk L es ep t, s₂ = { s with heap := h', toks := tk } ∧ TSet knd h' s.heap.objs.size L es ep t ∧ Gets ks ks.length L ∧
          (∀ b o, s.heap.get? b = some o → h'.get? b = some o)) E) F.called_set.init.plain F.entry_set_init (check_set_init_1 hT ?_)) fun r₂ s₂ hr₂ => ?_
      · obtain ⟨ol, hol, hcl, nl, hdl⟩ := hl
        obtain ⟨ocls, odict, odata, oslots⟩ := ol
        simp only at hcl hdl
        subst hcl; subst hdl
        have hol' : (s.heap.push (newSetObj w)).get? l = some { cls := .type "tuple", dict := odict, data := .seq items nl, slots := oslots } := Heap.get?_push_of_some _ hol
        have hsls := F.sub_tuple_set
        have hslf := F.sub_tuple_frozenset
        have hne : (Value.type "tuple" == Value.type "dict") = false := by decide
        have hl1 : (s.heap.push (newSetObj w)).IsTuple l items := ⟨_, hol', rfl, nl, rfl⟩
        unfold Builtin.«set.__init__» noKeywords Builtin.Frozenset.updateFrom
        generalize hPI : pyIter = PI
        wp_walk
        subst hPI
        refine wpAny_pyIter_tuple hl1 (wpAny_bind (wpAny_runValue ?_))
        have ll : l < s.heap.objs.size := Heap.lt_size hol
        have z1 : (s.heap.push (newSetObj w)).objs.size = s.heap.objs.size + 1 := Heap.size_push ..
        have lI : l ≠ (s.heap.push (newSetObj w)).objs.size := by
          rw [z1]
          exact Nat.ne_of_lt (Nat.lt_succ_of_lt ll)
        have out : s.heap.objs.size ∉ [(s.heap.push (newSetObj w)).objs.size, l] := fun m => by
          rcases List.mem_cons.mp m with e | m
          · exact absurd (e.trans z1) (Nat.ne_of_lt (Nat.lt_succ_self _))
          · exact absurd (List.mem_singleton.mp m) (Nat.ne_of_gt ll)
        have none_of : ∀ b, s.heap.objs.size ≤ b → s.heap.get? b = none := fun b hb => by
          cases q : s.heap.get? b with
          | none => rfl
          | some o => exact absurd (Nat.lt_of_lt_of_le (Heap.lt_size q) hb) (Nat.lt_irrefl _)
        refine tset_loop ml ((Walks.tuple (by simp [hh] : A.in1.in1.in1.handled = none) _ l lI items).toS) s.heap.objs.size out ks sz few (fun i v hv => ?_) s.heap hk (none_of _ (Nat.le_refl _)) (fun b m => none_of b ?_) hu (items.size - 0) 0 _ (by omega) (Nat.zero_le _)
          ⟨⟨_, Heap.get?_push_size _ rfl, rfl, rfl⟩, (hl1.push _)⟩ (fun b o e => Heap.get?_push_of_some _ (Heap.get?_push_of_some _ e)) ⟨[], #[], 0, _, tset_new (Heap.get?_push_of_some _ hS), Gets.none ks⟩ ?_
        · have e : items.toList[i]? = some v := by rw [Array.getElem?_toList]; exact hv
          rw [hit, List.getElem?_map] at e
          obtain ⟨p, hp, e⟩ := Option.map_eq_some_iff.mp e
          exact ⟨p, hp, e.symm⟩
        · rw [List.mem_singleton.mp m, z1]
          exact Nat.le_succ _
        · intro s' L es ep t mv T g kp
          obtain ⟨h', g2, d', tk', os'⟩ := s'
          obtain rfl : g2 = s.gens := mv.gens
          obtain rfl : d' = s.drawn := mv.drawn
          obtain rfl : os' = s.os := mv.os
          show wpAny _ _ _ _ _ _
          refine wpAny_pure ?_
          show wpAny _ _ (ret Value.none) _ _ _
          rw [sz] at g
          exact wpAny_pure ⟨rfl, h', tk', L, es, ep, t, rfl, T, g, kp⟩
      · cases r₂ with
        | error e => exact hr₂
        | ok fl₂ =>
          cases fl₂ with
          | ret r =>
            obtain ⟨rfl, h', tk, L, es, ep, t, rfl, T, g, kp⟩ := hr₂
            repeat (any_goals (first | assumption | wp_step))
            exact q _ _ _ _ _ _ T g kp
          | _ => exact hr₂.elim
    | _ => exact hr.elim
end
end Ev

set_option Elab.async false
set_option linter.all false
set_option maxRecDepth 100000
set_option maxHeartbeats 4000000
/-! sorted of texts, of a dict; tuple(..). -/
namespace Ev
open PySem PySem.Spec L2
variable [z : Tz]
/-- some arrangement of these texts, ascending -/
def Asc (ss ys : List Str) : Prop := ys.Perm ss ∧ PyProof.Rows.sortedS ys = true
def mAsc (ss : List Str) : MP := mEx (Asc ss) mStrs
section
variable {pn : Option Addr} {Γ : Gam} {c c1 : Nat} {ta te : TE} {t : TA} {K : PySem.W.Frag} {Ps : List MP} {S : MP}
theorem rc_sortedS {ss : List Str} (h : ss.length < 64) : RC (rSortedS K) [mStrs ss] (mAsc ss) := .mk fun {G H vs} e z Q q => by
  obtain ⟨v, rfl, a, ws, rfl, ha, z'⟩ := zip1 z
  rw [zip_strs z'] at ha
  refine ⟨a, ss, rfl, SqL.of (e.x ha), h, fun ys p hp hs np => ?_⟩
  have k := Stp.new (o := .lst (ys.map V.str)) e np
  refine q (.ref p) _ _ k ⟨ys, ⟨hp, hs⟩, p, _, rfl, upd_same, ?_⟩
  have := Zip.vals (G := upd G p (.lst (ys.map V.str))) (ys.map V.str)
  rw [List.map_map] at this
  exact this
def rSortedDk : List V → Hp → VK → Prop := fun xs H Q => ∃ (a : Addr) (kvs : List (Key × V)) (ks : List Str), xs = [.ref a] ∧ Rd H a (.dK kvs) ∧ kvs.map (·.1) = ks.map Sum.inr ∧ ks.length < 64 ∧ ∀ ys p, ys.Perm ks → PyProof.Rows.sortedS ys = true → H p = none → Q (.ref p) (upd H p (.lst (ys.map V.str)))
theorem rc_sortedDk {ws : List (Str × Int)} (h : ws.length < 64) : RC rSortedDk [mDk ws] (mAsc (ws.map (·.1))) := .mk fun {G H vs} e z Q q => by
  obtain ⟨v, rfl, a, rfl, ha⟩ := zip1 z
  refine ⟨a, dkv ws, ws.map (·.1), rfl, e.rd ha, ?_, by rw [List.length_map]; exact h, fun ys p hp hs np => ?_⟩
  · unfold dkv
    rw [List.map_map, List.map_map]
    rfl
  · have k := Stp.new (o := .lst (ys.map V.str)) e np
    refine q (.ref p) _ _ k ⟨ys, ⟨hp, hs⟩, p, _, rfl, upd_same, ?_⟩
    have := Zip.vals (G := upd G p (.lst (ys.map V.str))) (ys.map V.str)
    rw [List.map_map] at this
    exact this
def rTupOf (K : PySem.W.Frag) : List V → Hp → VK → Prop := fun xs H Q => ∃ p ys, xs = [.ref p] ∧ ((SqL K H p ys ∧ ∀ l, H l = none → Q (.ref l) (upd H l (.tup ys))) ∨ (SqT K H p ys ∧ Q (.ref p) H))
theorem rc_tupL : RC (rTupOf K) [mL Ps] (mT Ps) := .mk fun {G H vs} e z Q q => by
  obtain ⟨v, rfl, a, ws, rfl, ha, z'⟩ := zip1 z
  refine ⟨a, ws, rfl, .inl ⟨SqL.of (e.x ha), fun l hl => ?_⟩⟩
  have k := Stp.new (o := .tup ws) e hl
  exact q (.ref l) _ _ k ⟨l, ws, rfl, upd_same, z'.mono k.gg⟩
theorem rc_tupT : RC (rTupOf K) [mT Ps] (mT Ps) := .mk fun {G H vs} e z Q q => by
  obtain ⟨v, rfl, a, ws, rfl, ha, z'⟩ := zip1 z
  exact ⟨a, ws, rfl, .inr ⟨SqT.of (e.x ha), q (.ref a) G H (.refl e) ⟨a, ws, rfl, ha, z'⟩⟩⟩
/-- d[text] where d is still its maker's -/
theorem ev_dgetO {i : Nat} {ws : List (Str × Int)} {s : Str} {v : Int} {ty : TE} (hi : Γ[i]? = some (.own (oDk ws))) (hy : Ev pn ty Γ c (mS s)) (h : look ws s = some v) : Ev pn (tDGet (tVar i) ty) Γ c (mI v) := .mk fun {G H σ n} E l Q q => by
  obtain ⟨a, u, A⟩ := E.sl.own E.nd hi
  refine ⟨.ref a, A.val, hy.run E l _ fun y G2 H2 n2 k2 p2 l2 s2 => ?_⟩
  have A2 := A.step E hi k2 p2
  have eu : u = .dK (dkv ws) := A2.pr
  subst eu
  cases (show y = V.str s from s2)
  have g : DGet H2 a (kV (.inr s)) (valV (dkv ws) (.inr s)) := DGet.k A2.obj
  rw [val_dkv, h] at g
  exact ⟨a, .int v, rfl, g, q (.int v) G2 H2 n2 k2 p2 l2 rfl⟩
end
end Ev

set_option Elab.async false
set_option linter.all false
set_option maxRecDepth 100000
set_option maxHeartbeats 4000000
/-! sorted(s), s a set of tuples of texts. -/
namespace Ev
open PySem PySem.Spec L2 PyProof.Rows PyProof.Rows.G
variable [z : Tz]
theorem perm_pull {α β : Type} {f : α → β} {xs ys : List β} (h : xs.Perm ys) : ∀ {L : List α}, L.map f = ys → ∃ L' : List α, L'.Perm L ∧ L'.map f = xs := by
  induction h with
  | nil => exact fun {L} e => ⟨L, .refl _, e⟩
  | @cons x l1 l2 _ ih =>
    intro L e
    cases L with
    | nil => cases e
    | cons y L =>
      injection e with e1 e2
      obtain ⟨L', p, e3⟩ := ih e2
      exact ⟨y :: L', p.cons y, by rw [List.map_cons, e3, e1]⟩
  | @swap x y l =>
    intro L e
    cases L with
    | nil => cases e
    | cons a L =>
      cases L with
      | nil => cases e
      | cons b L =>
        injection e with e1 e2
        injection e2 with e2 e3
        exact ⟨b :: a :: L, .swap .., by rw [List.map_cons, List.map_cons, e1, e2, e3]⟩
  | trans _ _ ih1 ih2 =>
    intro L e
    obtain ⟨L2, p2, e2⟩ := ih2 e
    obtain ⟨L1, p1, e1⟩ := ih1 e2
    exact ⟨L1, p1.trans p2, e1⟩
def tokK : Key → Int ⊕ List Nat
  | .inl n => .inl n
  | .inr x => .inr x.cps.toList
/-- rows in the order of their items -/
def rowLt (p q : List Key) : Bool := lexLt itemOrd (p.map tokK) (q.map tokK)
section
variable {P : Program} {w : World} {A : Around} {E : Value → Shared → Prop} {s : Shared}
theorem tup_items_str : ∀ {k : List Key} {vs : List Value} (i : Nat), ItemsAre (mixKind P w) k vs → (∀ q ∈ k, ∃ x, q = .inr x) → tupItems (fun _ => true) i vs = some (k.map tokK)
  | _, _, _, .nil, _ => rfl
  | q :: k, v :: vs, i, .cons e z, h => by
    obtain ⟨x, rfl⟩ := h q (List.mem_cons_self ..)
    rcases keyIs_shape (k := Sum.inr x) (v := v) e with ⟨j, t, e2, rfl⟩ | ⟨y, t, e2, rfl⟩
    · cases e2
    · cases e2
      have ih := tup_items_str (i + 1) z fun q m => h q (List.mem_cons_of_mem _ m)
      unfold tupItems
      rw [if_pos rfl, ih]
      rfl
theorem tup_key_str {h : Heap} {k : List Key} {b : Addr} (x : IsTupleKey (mixKind P w) h k b) (hs : ∀ q ∈ k, ∃ x, q = .inr x) : tupKeyC h (fun _ => true) (.ref b) = some (k.map tokK) := by
  obtain ⟨o, its, n, go, gc, gd, z⟩ := x
  unfold tupKeyC
  have e1 : isTupObj h (.ref b) = true := by
    simp only [isTupObj, go, gc]
    decide
  rw [if_pos e1]
  simp only [tupKey, go, gd]
  exact tup_items_str (P := P) (w := w) 0 z hs
theorem tup_of_str {h : Heap} {k : List Key} {b : Addr} (x : IsTupleKey (mixKind P w) h k b) (ne : k ≠ []) (hs : ∀ q ∈ k, ∃ x, q = .inr x) : ∃ f, TupOf h (fun _ => true) (.ref b) f := by
  obtain ⟨o, its, n, go, gc, gd, z⟩ := x
  cases k with
  | nil => exact absurd rfl ne
  | cons q k =>
    obtain ⟨y, rfl⟩ := hs q (List.mem_cons_self ..)
    cases e : its.toList with
    | nil => rw [e] at z; cases z
    | cons v vs =>
      rw [e] at z
      cases z with
      | cons e1 _ =>
        rcases keyIs_shape (k := Sum.inr y) (v := v) e1 with ⟨j, t, e2, rfl⟩ | ⟨y', t, e2, rfl⟩
        · cases e2
        · refine ⟨.str y' t, b, o, its, n, rfl, go, gc, gd, ?_, fun z => (nomatch z), fun _ => ⟨y', t, rfl⟩⟩
          rw [← Array.getElem?_toList, e]
          rfl
theorem tups_of {h : Heap} {sh : Nat → Bool} : ∀ {vs : List Value}, (∀ v ∈ vs, ∃ f, TupOf h sh v f) → ∃ fs, TupsOf h sh vs fs
  | [], _ => ⟨[], .nil⟩
  | v :: vs, a => by
    obtain ⟨f, t⟩ := a v (List.mem_cons_self ..)
    obtain ⟨fs, ts⟩ := tups_of fun u m => a u (List.mem_cons_of_mem _ m)
    exact ⟨f :: fs, .cons t ts⟩
variable {a : Addr} {L : List (Addr × List Key)} {es : Array (Int × Value)} {ep : Nat} {t : SetTable}
theorem sorted_tset {Q : Value → Shared → Prop} (R : TSet (mixKind P w) s.heap a L es ep t) (hh : A.handled = none) (ok : ∀ p ∈ L, p.2 ≠ [] ∧ ∀ q ∈ p.2, ∃ x, q = .inr x)
    (q : ∀ s' p (out : Array Value) (c : Nat) (L' : List (Addr × List Key)), (∀ b o, s.heap.get? b = some o → s'.heap.get? b = some o) → s'.gens = s.gens → s'.os = s.os → s.heap.objs.size ≤ p → s'.heap.get? p = some (seqObj "list" out c) →
      out.toList = L'.map (fun r => Value.ref r.1) → L'.Perm L → L'.Pairwise (fun x y => rowLt y.2 x.2 = false) → Q (.ref p) s') : wpAny (model P w) A (call (.builtin "sorted") [.ref a]) Q E s := by
  obtain ⟨o, go, ex, gd⟩ := R.ob
  have few := R.few
  refine Calls.call_function_entry kind_sorted plain_sorted entry_sorted (args_sorted1 _) ?_
  unfold Builtin.«sorted»
  refine wpAny_bind (m := checkCount "sorted" 1 1 _) (wpAny_pure ?_)
  refine wpAny_bind (collect_set (A := A.in1) hh ⟨o, go, ex.1, gd⟩ R.fits (by rw [ent_size R.ent]; unfold scanBound; omega) R.tab.ris R.led fun s1 vs k1 hz g1 o1 pm => ?_)
  have e2 : es.toList.map (·.2) = L.map fun r => Value.ref r.1 := by
    rw [R.ent]
    unfold rws
    rw [List.map_map]
    rfl
  rw [e2] at pm
  have vl : vs.length = L.length := by rw [pm.length_eq, List.length_map]
  refine wpAny_bind (wpAny_newList ?_ (by rw [sizeLine_eq]; omega))
  have gl : (s1.heap.push (seqObj "list" vs.toArray 0)).get? s1.heap.objs.size = some (seqObj "list" vs.toArray 0) := Heap.get?_push_size _ rfl
  have kt : ∀ r ∈ L, IsTupleKey (mixKind P w) (s1.heap.push (seqObj "list" vs.toArray 0)) r.2 r.1 := fun r m => key_keep (R.tup r m) fun b u e => Heap.get?_push_of_some _ (k1 b u e)
  have row : ∀ v ∈ vs, ∃ r ∈ L, v = Value.ref r.1 := fun v m => by
    obtain ⟨r, hr, e⟩ := List.mem_map.mp (pm.mem_iff.mp m)
    exact ⟨r, hr, e.symm⟩
  obtain ⟨fs, tf⟩ := tups_of (h := s1.heap.push (seqObj "list" vs.toArray 0)) (sh := fun _ => true) (vs := vs) fun v m => by
    obtain ⟨r, hr, rfl⟩ := row v m
    exact tup_of_str (kt r hr) (ok r hr).1 (ok r hr).2
  have keys : ∀ v, v ∈ vs → ∃ l, tupKeyC (s1.heap.push (seqObj "list" vs.toArray 0)) (fun _ => true) v = some l := fun v m => by
    obtain ⟨r, hr, rfl⟩ := row v m
    exact ⟨_, tup_key_str (kt r hr) (ok r hr).2⟩
  refine wpAny_bind (wpAny_holding (wpAny_call_entry slot_list_sort ⟨_, gl, rfl⟩ entry_list_sort (list_sort_tups (s := { s1 with heap := s1.heap.push (seqObj "list" vs.toArray 0) }) gl tf keys (by rw [sizeLine_eq]; omega) fun st pm2 srt _ => ⟨_, rfl, ?_⟩) (args_list_sort _)))
  generalize arrOf st = ps at pm2 srt ⊢
  have pl : ps.toList.Perm (vs.zip vs) := by
    have := pm2.toList
    rwa [pairsOf_toList] at this
  have diag : ∀ p ∈ ps.toList, p.1 = p.2 ∧ p.1 ∈ vs := fun p m => by
    obtain ⟨e, m2⟩ := mem_zip_self (pl.mem_iff.mp m)
    exact ⟨e, m2⟩
  have outp : (ps.map (·.2)).toList.Perm (L.map fun r => Value.ref r.1) := by
    rw [Array.toList_map]
    have e := pl.map Prod.snd
    rw [List.map_snd_zip (Nat.le_refl _)] at e
    exact e.trans pm
  obtain ⟨L', pL, eL⟩ := perm_pull outp rfl
  obtain ⟨c, hc⟩ := sortedHeap_at (vs := vs) (out := ps.map (·.2)) gl
  refine wpAny_pure ⟨_, rfl, q _ s1.heap.objs.size _ c L' (fun b u e => ?_) g1 o1 hz hc eL.symm pL ?_⟩
  · have q2 := k1 b u e
    have lt := Heap.lt_size q2
    show (sortedHeap (s1.heap.push (seqObj "list" vs.toArray 0)) s1.heap.objs.size vs (ps.map (·.2))).get? b = some u
    rw [sortedHeap_old (Nat.ne_of_lt lt) (by rw [size_push']; exact Nat.lt_succ_of_lt lt)]
    exact Heap.get?_push_of_some _ q2
  · refine List.pairwise_iff_getElem.mpr fun i j hi hj hij => ?_
    have len : L'.length = ps.size := by
      have e := congrArg List.length eL
      rw [List.length_map, Array.toList_map, List.length_map, Array.length_toList] at e
      exact e
    have at_ : ∀ n (hn : n < L'.length), ∃ p, ps[n]? = some p ∧ p.1 = Value.ref (L'[n]).1 := fun n hn => by
      have hn2 : n < ps.size := by rw [← len]; exact hn
      refine ⟨ps[n], Array.getElem?_eq_getElem hn2, ?_⟩
      have d := (diag ps[n] (by simp)).1
      have e : (L'.map fun r => Value.ref r.1)[n]? = some (Value.ref (L'[n]).1) := by rw [List.getElem?_map, List.getElem?_eq_getElem hn]; rfl
      rw [eL, Array.toList_map, List.getElem?_map, Array.getElem?_toList, Array.getElem?_eq_getElem hn2] at e
      rw [d]
      exact Option.some.inj e
    have kk : ∀ n (hn : n < L'.length), KK (tupKindC (s1.heap.push (seqObj "list" vs.toArray 0)) fun _ => true) ps n = (L'[n]).2.map tokK := fun n hn => by
      obtain ⟨p, e1, e2⟩ := at_ n hn
      have m : L'[n] ∈ L := pL.mem_iff.mp (List.getElem_mem hn)
      unfold KK
      rw [e1]
      show (tupKeyC _ _ p.1).getD [] = _
      rw [e2, tup_key_str (kt _ m) (ok _ m).2]
      rfl
    have ord := srt i j (Nat.le_of_lt hij) (by rw [pairsOf_size, vl, ← pL.length_eq]; exact hj)
    rw [kk i hi, kk j hj] at ord
    exact ord
end
end Ev

set_option Elab.async false
set_option linter.all false
set_option maxRecDepth 100000
set_option maxHeartbeats 4000000
/-! The rule for sorted(set(xs)), xs a list or a tuple of tuples of texts. -/
namespace Ev
open PySem PySem.Spec L2 PyProof.Rows
variable [z : Tz]
section
variable {X : Cx}
def tSortSet (K : PySem.W.Frag) (ta : TE) : TE := fun σ H Q => ta σ H fun x H1 => ∃ (l : Addr) (ks : List (Addr × List Key)), x = V.ref l ∧ (SqL K H1 l (ks.map fun p => V.ref p.1) ∨ SqT K H1 l (ks.map fun p => V.ref p.1)) ∧
  (∀ p ∈ ks, H1 p.1 = some (.tup (p.2.map kV)) ∧ p.2 ≠ [] ∧ ∀ q ∈ p.2, ∃ x, q = .inr x) ∧ ks.length < 64 ∧
  ∀ (L : List (Addr × List Key)) (p : Addr), (∀ r ∈ L, r ∈ ks) → (∀ r ∈ ks, r.2 ∈ L.map (·.2)) → (L.map (·.2)).Nodup → L.Pairwise (fun x y => rowLt y.2 x.2 = false) → H1 p = none → Q (.ref p) (upd H1 p (.lst (L.map fun r => V.ref r.1)))
theorem refs_vals : ∀ {ks : List (Addr × List Key)} {us : List Value}, Vals (ks.map fun p => V.ref p.1) us → us = ks.map fun p => Value.ref p.1
  | [], _, .nil => rfl
  | p :: ks, _, .cons r t => by
    obtain rfl := r
    rw [refs_vals t]
    rfl
theorem vals_refs : ∀ ks : List (Addr × List Key), Vals (ks.map fun p => V.ref p.1) (ks.map fun p => Value.ref p.1)
  | [] => .nil
  | _ :: ks => .cons rfl (vals_refs ks)
theorem pe_sortSet {a : Expr} {ta : TE} {p p2 q pos : Pos} (hc : X.calm = true) (hu : X.A.units + 64 < cLine) (hg : Gl X "sorted") (hm : X.mg "sorted" = none) (hg2 : Gl X "set") (hm2 : X.mg "set" = none) (ha : PE X a ta)
    (na : starEach [a] X.env = (false, eval a X.env) :: starEach [] X.env := by rfl) : PE X (.Call (.Name "sorted" p) [.Call (.Name "set" p2) [a] [] q] [] pos) (tSortSet X.K ta) := by
  refine ⟨fun pins s σ H Q I h => ?_⟩
  refine Call_ (ld_blt I hg hm PyProof.Rows.boot_sorted ?_)
  refine PyProof.Rows.callWith_builtin1 (PyProof.Rows.args_cons ?_ rfl) rfl rfl
  refine Call_ (ld_blt I hg2 hm2 PyProof.Rows.boot_set ?_)
  refine PyProof.Rows.callWith_type1 (PyProof.Rows.args_cons (thn (ha.run pins s σ H _ I h) fun v s1 ⟨x, H1, I1, r1, q1⟩ => PyProof.Rows.args_nil ?_) na) na rfl
  obtain ⟨l, ks, rfl, hq, hk, few, q1⟩ := q1
  cases r1
  have keys : ∀ r ∈ ks, IsTupleKey (mixKind X.prog X.w) s1.heap r.2 r.1 := fun r m => key_of I1.hok (hk r m).1
  have rest : ∀ (h' : Heap) (tk : Nat) L es ep t, TSet (mixKind X.prog X.w) h' s1.heap.objs.size L es ep t → Gets ks ks.length L → (∀ b o, s1.heap.get? b = some o → h'.get? b = some o) →
      wpAny (model X.prog X.w) X.A (call (.builtin "sorted") [.ref s1.heap.objs.size]) (EP X pins σ Q) X.xe { s1 with heap := h', toks := tk } := by
    intro h' tk L es ep t R g kp
    have I2 : Inv X pins σ H1 { s1 with heap := h', toks := tk } := I1.kept kp
    have sub : ∀ r ∈ L, r ∈ ks := fun r m => List.mem_of_mem_take (g.from_ r m)
    refine sorted_tset R (I1.ok.hd hc) (fun r m => (hk r (sub r m)).2) fun s' p out c L' k2 gg oo hp ho eo pm pw => ?_
    have hn : H1 p = none := I2.hok.fresh hp
    have z : (L'.map fun r => V.ref r.1).length ≤ sizeLine := by
      have := R.few
      rw [List.length_map, pm.length_eq, sizeLine_eq]
      omega
    have J : Inv X pins σ (upd H1 p (.lst (L'.map fun r => V.ref r.1))) { ({ s1 with heap := h', toks := tk } : Shared) with heap := s'.heap, gens := s'.gens, drawn := s'.drawn, toks := s'.toks } :=
      I2.call (ch := []) (Un.laid k2 hp hn) (I2.hok.laid k2 hp ⟨z, out.toList, c, by rw [eo]; exact vals_refs L', ho⟩) (by rw [gg]; exact I2.bare) fun _ z => nomatch z
    have e : s' = { ({ s1 with heap := h', toks := tk } : Shared) with heap := s'.heap, gens := s'.gens, drawn := s'.drawn, toks := s'.toks } := by
      cases s'
      cases oo
      rfl
    rw [e]
    exact ⟨.ref p, _, J, rfl, q1 L' p (fun r m => sub r (pm.mem_iff.mp m)) (fun r m => (pm.map (·.2)).mem_iff.mpr (g.each r (by rw [List.take_length]; exact m))) ((pm.map (·.2)).nodup_iff.mpr R.nd) pw hn⟩
  rcases hq with hq | hq
  · obtain ⟨its, rv, pl, _⟩ := I1.list hq
    refine call_set_ofList mild_mix ks (I1.ok.hd hc) pl.isList (by simpa using refs_vals rv) keys few (by omega) fun h' tk L es ep t R g kp => PyProof.Rows.args_nil ?_
    exact rest h' tk L es ep t R g kp
  · obtain ⟨its, rv, pl, _⟩ := I1.tuple hq
    refine call_set_ofTuple mild_mix ks (I1.ok.hd hc) pl (by simpa using refs_vals rv) keys few (by omega) fun h' tk L es ep t R g kp => PyProof.Rows.args_nil ?_
    exact rest h' tk L es ep t R g kp
end
end Ev

set_option Elab.async false
set_option linter.all false
set_option maxRecDepth 100000
set_option maxHeartbeats 4000000
/-! Dict comprehensions whose keys are whole numbers, texts, or tuples of such: one rule, the store said by DPut. -/
namespace Ev
open PySem PySem.Spec L2 PyProof.Rows
variable [z : Tz]
section
variable {X : Cx}
/-- the empty dict, to be of the kind that is wanted -/
def empD (b : Bool) : HO := if b then .dT [] else .dK []
theorem empD_ok {P : Program} {w : World} {H : Hp} (b : Bool) (h : Heap) (hb : sysModules < h.objs.size) : ObjOk P w H (h.push { cls := .type "dict", data := .dict #[] }) h.objs.size (empD b) := by
  cases b
  · exact dk_empty h hb
  · exact dt_empty h hb
/-- d[y] = z by a comprehension -/
theorem dput_set {pins : List (Addr × Obj)} {σ : L2.St} {H H' : Hp} {s : Shared} {D : Addr} {y z : V} {u r : Value} {A : Around} {E : Value → Shared → Prop} {Q : Unit → Shared → Prop} (hu : A.units + 1 < cLine) (I : Inv X pins σ H s) (g : DPut H D y z H') (ry : RelV y u) (rz : RelV z r)
    (h : ∀ s', Inv X pins σ H' s' → Q () s') : wpAny (model X.prog X.w) A (dictSet D u r) Q E s := by
  rcases g with ⟨kvs, k, e, rfl, l, rfl⟩ | ⟨kvs, k, b, e, rfl, eb, l, rfl⟩
  · obtain ⟨zl, hd, vs, rel, dd⟩ := dk_of I.hok e
    have e1 : vs.length ≤ sizeLine := by rw [← rel.length]; exact zl
    have e2 : (putK kvs k z).length ≤ sizeLine := Nat.le_trans (length_putK kvs k z) l
    refine wpAny_dictSet_pairs (hsz := e1) (kV_is ry) dd fun h' dd' sb => h _ ?_
    have there : ∃ q, h'.get? D = some q := let ⟨q, _, _, hq, _⟩ := dd'; ⟨q, hq⟩
    exact d_write I (by rw [e]; exact True.intro) sb there (dk_new e2 hd (rel.put k rz) dd')
  · obtain rfl : u = Value.ref b := ry
    obtain ⟨zl, hd, xs, rel, dd⟩ := dt_of I.hok e
    have e1 : xs.length ≤ sizeLine := by rw [← Paired.length rel]; exact zl
    have e2 : (putK kvs k z).length ≤ sizeLine := Nat.le_trans (length_putK kvs k z) l
    refine wpAny_dictSet_heap (hsz := e1) (knd := tupleKind (mixKind X.prog X.w)) (Nat.lt_of_succ_lt hu) (key_of I.hok eb) dd fun h' dd' sb => h _ ?_
    obtain ⟨q, es, ep, hq, h2, h3, h4, _, h5⟩ := dd'
    refine d_write I (by rw [e]; exact True.intro) sb ⟨q, hq⟩ ⟨e2, hd, _, (rel.put k eb rz).keeps fun c ys ec => ?_, q, es, ep, hq, h2, h3, h4, h5⟩
    rw [upd_ne (ne_of ec e (fun z => nomatch z))]
    exact ec
/-- {k: v for target in iter if ..}: D the new dict, locked for ever behind the comprehension -/
def tDcP (b : Bool) (wi : TI) (g : TG) (tt : TT) (tk tv : TE) (vs : List Nat) : TE := fun σ H Q => wi σ H fun J H1 => ∀ D, H1 D = none → ∃ W : Nat → Nat → Hp → Prop, (∃ m, W 0 m (upd H1 D (empD b))) ∧ ∀ i m H, W i m H →
  (J.stop i H ∧ ∃ u, H D = some u ∧ Mut (some u) ∧ ∀ od, Q (.ref D) (upd H D (.frz od u))) ∨ (J.go i H ∧ ∃ Nx : Hp → Prop, (∀ H', Nx H' → ∃ m', m' < m ∧ W (i + 1) m' H') ∧ ∀ x H', J.yld i H x H' → g x (wipe σ vs) H' fun σ2 H2 => wipe σ2 vs = wipe σ vs ∧ tt σ2 H2 fun c H3 =>
    if c = true then tk σ2 H3 fun y H4 => tv σ2 H4 fun z H5 => ∃ H6, DPut H5 D y z H6 ∧ Nx H6 else Nx H3)
theorem pe_dcP {b : Bool} {kx vx tg iter : Expr} {ifs : List Expr} {scope : Scope} {own : List (Str × Nat)} {pos : Pos} {wi : TI} {g : TG} {tt : TT} {tk tv : TE} (hu : X.A.units + 64 < cLine) (hc : X.calm = true) (hN : X.N.Nodup) (hi : PI X tg iter wi) (ok : BlkOk X.N X.env.scope scope own)
    (hg : ∀ (s : Shared) (H : Hp) (C : Addr) (cl : List (Str × Addr)) (fp : List Addr), PG (X.blk s H scope (compEnvC scope cl C X.env) fp) tg g) (ht : ∀ (s : Shared) (H : Hp) (C : Addr) (cl : List (Str × Addr)) (fp : List Addr), PTs (X.blk s H scope (compEnvC scope cl C X.env) fp) ifs tt)
    (hk : ∀ (s : Shared) (H : Hp) (C : Addr) (cl : List (Str × Addr)) (fp : List Addr), PE (X.blk s H scope (compEnvC scope cl C X.env) fp) kx tk)
    (hv : ∀ (s : Shared) (H : Hp) (C : Addr) (cl : List (Str × Addr)) (fp : List Addr), PE (X.blk s H scope (compEnvC scope cl C X.env) fp) vx tv) (hs : ∀ x, foldedSetIterable iter X.env x = pure x := by intro _; rfl) :
    PE X (.DictComp kx vx [⟨tg, iter, ifs, 0⟩] scope pos) (tDcP b wi g tt tk tv (own.map (·.2))) := by
  refine ⟨fun pins s σ H Q I h => ?_⟩
  rw [arm_eval_DictComp]
  have frees : ∀ y ∈ scope.names, y.2 = .free → ∃ c, X.env.cells.lookup y.1 = some c := fun y m e => by
    rcases ok.free y m e with k | k
    · exact I.ok.has _ (.inl k)
    · exact I.ok.has _ (.inr k)
  refine wpAny_comprehension_free (use := none) rfl hs (closure_ok frees) ok.kind (fun y m e => by rw [ok.uniq y m, e]) (thn (hi.run pins s σ H _ I h) fun xv s1 hx => thn hx fun itv s2 h2 => ?_)
  obtain ⟨it, fp, tn, J, H2, rfl, I2, T, st2, f2, q⟩ := h2
  refine wpAny_newObj_type (newEnv_comp ?_)
  generalize hD : s2.heap.objs.size = D
  have freshD : H2 D = none := I2.hok.fresh (Nat.le_of_eq hD)
  obtain ⟨W, ⟨m0, w0⟩, turn⟩ := q D freshD
  generalize hs3 : ({ s2 with heap := s2.heap.push { cls := .type "dict", data := .dict #[] } } : Shared) = s3
  have I3 : Inv X pins σ (upd H2 D (empD b)) s3 := by
    rw [← hs3]
    refine I2.laid (t' := s2.toks) (fun c o e => Heap.get?_push_of_some _ e) (Nat.le_of_eq hD) ?_
    rw [← hD]
    exact empD_ok b s2.heap I2.big
  have h3 : s3.heap = s2.heap.push { cls := .type "dict", data := .dict #[] } := by rw [← hs3]
  have old : ∀ c ∈ fp, c < s2.heap.objs.size := fun c m => let ⟨o, e, _⟩ := T.obj _ _ st2 c m; Heap.lt_size e
  have f3 : ∀ c ∈ fp, FpOk X pins (upd H2 D (empD b)) c ∧ c < s3.heap.objs.size := fun c m => by
    refine ⟨⟨?_, (f2 c m).2⟩, by rw [h3, Heap.size_push]; exact Nat.lt_succ_of_lt (old c m)⟩
    rw [upd_ne (by rw [← hD]; exact Nat.ne_of_lt (old c m))]
    exact (f2 c m).1
  have st3 : tn 0 s3.heap := T.keep _ _ _ st2 fun c _ o e => by rw [h3]; exact Heap.get?_push_of_some _ e
  have I4 := block_start I3 ok hN f3
  -- the parts, in the comprehension's own frame
  have pg := hg s3 (upd H2 D (empD b)) s3.heap.objs.size (cellsFrom (s3.heap.objs.size + 1) scope.names (cloFrom X.env.cells scope.names [])) fp
  have pt := ht s3 (upd H2 D (empD b)) s3.heap.objs.size (cellsFrom (s3.heap.objs.size + 1) scope.names (cloFrom X.env.cells scope.names [])) fp
  have pk := hk s3 (upd H2 D (empD b)) s3.heap.objs.size (cellsFrom (s3.heap.objs.size + 1) scope.names (cloFrom X.env.cells scope.names [])) fp
  have pv := hv s3 (upd H2 D (empD b)) s3.heap.objs.size (cellsFrom (s3.heap.objs.size + 1) scope.names (cloFrom X.env.cells scope.names [])) fp
  show codeAny _ _ (.compStart (.DictComp kx vx [⟨tg, iter, ifs, 0⟩] scope pos) 0 (.ref it) (.ref D) (compEnvC scope (cellsFrom (s3.heap.objs.size + 1) scope.names (cloFrom X.env.cells scope.names [])) s3.heap.objs.size X.env)) (compPost (model X.prog X.w) X.A X.xe none (EP X pins σ Q) (.ref D) s3.heap.objs.size) { s3 with heap := pushCells (s3.heap.push { cls := .type "dict", data := .dict #[] }) scope.names }
  generalize hce : compEnvC scope (cellsFrom (s3.heap.objs.size + 1) scope.names (cloFrom X.env.cells scope.names [])) s3.heap.objs.size X.env = ce at I4 pg pt pk pv ⊢
  have cL : ce.locals = s3.heap.objs.size := by subst hce; rfl
  have nfp : ∀ c ∈ fp, (upd H2 D (empD b)) c = none := fun c m => (f3 c m).1.1
  generalize hH3 : upd H2 D (empD b) = H3 at I3 I4 pg pt pk pv w0 nfp f3
  generalize hs4 : ({ s3 with heap := pushCells (s3.heap.push { cls := .type "dict", data := .dict #[] }) scope.names } : Shared) = s4 at I4 ⊢
  have st4 : tn 0 s4.heap := T.keep _ _ _ st3 fun c _ o e => by rw [← hs4]; exact pushCells_keeps _ _ _ _ (Heap.get?_push_of_some _ e)
  have fps : ∀ {σ' : L2.St} {H' : Hp} {s' : Shared}, Inv (X.blk s3 H3 scope ce fp) [] σ' H' s' → (∀ c ∈ fp, H' c = none) → ∀ c ∈ fp, FpOk (X.blk s3 H3 scope ce fp) [] H' c := fun {σ' H' s'} I' n c m =>
    ⟨n c m, (I'.ok.exf c m).1, I'.ok.exfs c m, .inl m, fun x d e => (I'.ok.exf c m).2 x d e, fun p mp => absurd (show p ∈ ([] : List (Addr × Obj)) ++ [] from mp) (by simp)⟩
  have loop : codeAny (model X.prog X.w) X.A (.compLoop (.DictComp kx vx [⟨tg, iter, ifs, 0⟩] scope pos) 0 (.ref it) (.ref D) ce) (compPost (model X.prog X.w) X.A X.xe none (EP X pins σ Q) (.ref D) s3.heap.objs.size) s4 := by
    refine compLoop_anyD (fun n s' => ∃ i H', Inv (X.blk s3 H3 scope ce fp) [] (wipe σ (own.map (·.2))) H' s' ∧ tn i s'.heap ∧ (∀ c ∈ fp, H' c = none) ∧ W i n H') ?_ m0 ⟨0, H3, I4, st4, nfp, w0⟩
    rintro n s5 ⟨i, H5, I5, st5, n5, w5⟩
    rcases turn i n H5 w5 with ⟨stop, u, eD, mu, fin⟩ | ⟨go, Nx, less, step⟩
    · refine thnF (T.done (X.blk s3 H3 scope ce fp) rfl rfl rfl hc i [] s5 _ H5 (fun _ _ => False) I5 (fps I5 n5) st5 stop) fun r s6 ⟨hr, I6⟩ => ?_
      subst hr
      have I7 : Inv X pins σ H5 s6 := I3.call' (ch := fp) I6.os I6.base I6.hok I6.bare fun c m => ⟨(f3 c m).1.2.2.2.1, (f3 c m).1.2.1, (f3 c m).1.2.2.2.2.1, (f3 c m).1.2.2.2.2.2⟩
      have nC : H5 s3.heap.objs.size = none := by
        have z : H5 ce.locals = none := I6.free
        rwa [cL] at z
      obtain ⟨mm, hn, _⟩ := I6.loc
      have hn2 : s6.heap.Ns ce.locals mm := hn
      rw [cL] at hn2
      obtain ⟨od, I8⟩ := I7.lock eD mu
      have nC2 : (upd H5 D (.frz od u)) s3.heap.objs.size = none := by
        rw [upd_ne (fun e => by rw [e, eD] at nC; cases nC)]
        exact nC
      obtain ⟨g0, g1, g2, g3, g4, _⟩ := I3.fpOk (Nat.le_refl _) nC2
      exact ⟨mm, hn2, fun h'' sb => ⟨.ref D, _, I8.turned (t' := s6.toks) (fun c o hb e => (sb.2 c hb).trans e) g0 g1 g3 g4 (I3.fpOk (Nat.le_refl _) nC2).2.2.2.2.2, rfl, fin od⟩⟩
    · refine thnF (T.item (X.blk s3 H3 scope ce fp) rfl rfl rfl hc i [] s5 _ H5 (fun _ _ => False) I5 (fps I5 n5) st5 go) fun r s6 ⟨u, hr, h6⟩ => ?_
      subst hr
      refine thnF h6 fun _ s7 ⟨x, H7, I7, r7, y7, st7, n7⟩ => ?_
      refine thnF (pg.run _ s7 _ H7 x u _ (I7.pinned (fps I7 n7) (T.obj _ _ st7)) r7 (step x H7 y7)) fun _ s8 ⟨σ8, H8, I8, hw8, q8⟩ => ?_
      refine thnF (pt.run _ s8 σ8 H8 _ I8 q8) fun c s9 ⟨H9, I9, q9⟩ => ?_
      have close : ∀ {s' : Shared} {H' : Hp}, Inv (X.blk s3 H3 scope ce fp) ([] ++ pinsAt fp s7.heap) σ8 H' s' → Nx H' → ∃ m, m < n ∧ ∃ i H', Inv (X.blk s3 H3 scope ce fp) [] (wipe σ (own.map (·.2))) H' s' ∧ tn i s'.heap ∧ (∀ c ∈ fp, H' c = none) ∧ W i m H' := fun {s' H'} I' nx => by
        obtain ⟨m', lt, w'⟩ := less H' nx
        have kept : ∀ c ∈ fp, ∀ o, s7.heap.get? c = some o → s'.heap.get? c = some o ∧ H' c = none := fun c m o e =>
          let z := I'.pin (c, o) (List.mem_append_right _ (List.mem_append_right _ (mem_pinsAt m e)))
          ⟨z.1, z.2.1⟩
        refine ⟨m', lt, i + 1, H', (I'.unpinned (pins := [])).weak (by rw [← hw8, wipe_length]) (fun j v e => ?_), T.keep _ _ _ st7 fun c m o e => (kept c m o e).1, fun c m => ?_, w'⟩
        · rw [← hw8] at e
          exact (wipe_some e).1
        · obtain ⟨o, e, _⟩ := T.obj _ _ st7 c m
          exact (kept c m o e).2
      cases c with
      | false =>
        simp only [Bool.false_eq_true, if_false] at q9 ⊢
        exact close I9 q9
      | true =>
        simp only [if_true] at q9 ⊢
        refine thnF (pk.run _ s9 σ8 H9 _ I9 q9) fun z s10 ⟨yk, H10, I10, r10, q10⟩ => ?_
        refine thnF (pv.run _ s10 σ8 H10 _ I10 q10) fun z2 s11 ⟨yv, H11, I11, r11, H12, put, nx⟩ => ?_
        exact dput_set (X := X.blk s3 H3 scope ce fp) (A := X.A) (by omega) I11 put r10 r11 fun s12 I12 => close I12 nx
  exact codeAny_compStart_dict loop (T.self X.A 0 _ _ _ st4 loop)
end
end Ev

set_option Elab.async false
set_option linter.all false
set_option maxRecDepth 100000
set_option maxHeartbeats 4000000
/-! Dicts from texts to what stands for anything: the maker's own, and locked for ever. -/
namespace Ev
open PySem PySem.Spec L2
variable [z : Tz]
def ZipK (G : Hp) : List (Str × MP) → List (Key × V) → Prop
  | [], [] => True
  | p :: ks, q :: kvs => (q.1 = .inr p.1 ∧ p.2.pr G q.2) ∧ ZipK G ks kvs
  | [], _ :: _ => False
  | _ :: _, [] => False
theorem ZipK.mono {G G' : Hp} (s : Same G G') : ∀ {ks : List (Str × MP)} {kvs : List (Key × V)}, ZipK G ks kvs → ZipK G' ks kvs
  | [], [], _ => trivial
  | p :: _, _ :: _, h => ⟨⟨h.1.1, p.2.mono s h.1.2⟩, ZipK.mono s h.2⟩
  | [], _ :: _, h => h.elim
  | _ :: _, [], h => h.elim
theorem ZipK.len {G : Hp} : ∀ {ks : List (Str × MP)} {kvs : List (Key × V)}, ZipK G ks kvs → kvs.length = ks.length
  | [], [], _ => rfl
  | _ :: _, _ :: _, h => congrArg (· + 1) (ZipK.len h.2)
  | [], _ :: _, h => h.elim
  | _ :: _, [], h => h.elim
theorem ZipK.get {G : Hp} : ∀ {ks : List (Str × MP)} {kvs : List (Key × V)} {i : Nat} {p : Str × MP}, ZipK G ks kvs → ks[i]? = some p → ∃ v, kvs[i]? = some (.inr p.1, v) ∧ p.2.pr G v
  | [], _, _, _, _, e => by simp at e
  | p :: ks, q :: kvs, 0, p', h, e => by
    have e' : p = p' := Option.some.inj e
    subst e'
    exact ⟨q.2, by rw [← h.1.1]; rfl, h.1.2⟩
  | p :: ks, q :: kvs, i + 1, p', h, e => ZipK.get (ks := ks) (kvs := kvs) (i := i) h.2 e
  | _ :: _, [], _, _, h, _ => h.elim
theorem ZipK.snoc {G : Hp} {s : Str} {P : MP} {v : V} (hp : P.pr G v) : ∀ {ks : List (Str × MP)} {kvs : List (Key × V)}, ZipK G ks kvs → ZipK G (ks ++ [(s, P)]) (kvs ++ [(.inr s, v)])
  | [], [], _ => ⟨⟨rfl, hp⟩, trivial⟩
  | _ :: _, _ :: _, h => ⟨h.1, ZipK.snoc hp h.2⟩
  | [], _ :: _, h => h.elim
  | _ :: _, [], h => h.elim
/-- by its keys and what each stands for -/
def fK (xs : List Str) (f : Str → MP) : List (Str × MP) := xs.map fun s => (s, f s)
theorem fK_val {G : Hp} {s : Str} {f : Str → MP} : ∀ {xs : List Str} {kvs : List (Key × V)}, ZipK G (fK xs f) kvs → (s ∈ xs → ∃ v, valV kvs (.inr s) = some v ∧ (f s).pr G v) ∧ (s ∉ xs → valV kvs (.inr s) = none)
  | [], [], _ => ⟨fun m => (nomatch m), fun _ => rfl⟩
  | x :: xs, q :: kvs, h => by
    obtain ⟨k, v⟩ := q
    obtain ⟨⟨e, pv⟩, t⟩ := h
    have e : k = .inr x := e
    subst e
    have ih := fK_val (s := s) (xs := xs) (kvs := kvs) t
    by_cases c : x = s
    · subst c
      exact ⟨fun _ => ⟨v, valV_pos rfl, pv⟩, fun n => absurd (List.mem_cons_self ..) n⟩
    · have n : ¬ (Sum.inr x : Key) = .inr s := fun z => c (Sum.inr.inj z)
      refine ⟨fun m => ?_, fun m => ?_⟩
      · obtain ⟨v', e1, e2⟩ := ih.1 ((List.mem_cons.mp m).resolve_left fun z => c z.symm)
        exact ⟨v', by rw [valV_neg n]; exact e1, e2⟩
      · rw [valV_neg n]
        exact ih.2 fun z => m (List.mem_cons_of_mem _ z)
  | [], _ :: _, h => h.elim
  | _ :: _, [], h => h.elim
theorem fK_congr {xs : List Str} {f g : Str → MP} (h : ∀ s ∈ xs, f s = g s) : fK xs f = fK xs g := List.map_congr_left fun s m => by rw [h s m]
/-- the keys behind a store -/
def kput (xs : List Str) (s : Str) : List Str := if s ∈ xs then xs else xs ++ [s]
theorem fK_repl {G : Hp} {s : Str} {f : Str → MP} {P : MP} {v : V} (hp : P.pr G v) : ∀ {xs : List Str} {kvs : List (Key × V)}, ZipK G (fK xs f) kvs → ZipK G (fK xs fun t => if t = s then P else f t) (kvs.map fun kv => if kv.1 = .inr s then (kv.1, v) else kv)
  | [], [], _ => trivial
  | x :: xs, q :: kvs, h => by
    obtain ⟨k, u⟩ := q
    obtain ⟨⟨e, pv⟩, t⟩ := h
    have e : k = .inr x := e
    subst e
    refine ⟨?_, fK_repl (xs := xs) (kvs := kvs) hp t⟩
    by_cases c : x = s
    · subst c
      simp only [if_true]
      exact ⟨trivial, hp⟩
    · have n : ¬ (Sum.inr x : Key) = .inr s := fun z => c (Sum.inr.inj z)
      simp only [if_neg c, if_neg n]
      exact ⟨trivial, pv⟩
  | [], _ :: _, h => h.elim
  | _ :: _, [], h => h.elim
theorem fK_put {G : Hp} {s : Str} {f : Str → MP} {P : MP} {v : V} {xs : List Str} {kvs : List (Key × V)} (hp : P.pr G v) (h : ZipK G (fK xs f) kvs) : ZipK G (fK (kput xs s) fun t => if t = s then P else f t) (putK kvs (.inr s) v) := by
  obtain ⟨h1, h2⟩ := fK_val (s := s) h
  unfold kput putK
  by_cases m : s ∈ xs
  · obtain ⟨v', e, _⟩ := h1 m
    have an : (kvs.any fun kv => decide (kv.1 = .inr s)) = true := by rw [valV_any, e]; rfl
    rw [if_pos m, if_pos an]
    exact fK_repl hp h
  · have an : ¬ (kvs.any fun kv => decide (kv.1 = .inr s)) = true := by rw [valV_any, h2 m]; simp
    rw [if_neg m, if_neg an]
    have e1 : (fK (xs ++ [s]) fun t => if t = s then P else f t) = fK xs f ++ [(s, P)] := by
      unfold fK
      rw [List.map_append]
      refine congr (congrArg _ (List.map_congr_left fun t mt => ?_)) ?_
      · show (t, if t = s then P else f t) = (t, f t)
        rw [if_neg (fun z : t = s => m (by rw [← z]; exact mt))]
      · simp
    rw [e1]
    exact h.snoc hp
def mDl (ks : List (Str × MP)) : MP := ⟨fun G v => ∃ a od kvs, v = .ref a ∧ G a = some (.frz od (.dK kvs)) ∧ ZipK G ks kvs, fun s ⟨a, od, kvs, e, h, z⟩ => ⟨a, od, kvs, e, s _ _ h, z.mono s⟩⟩
def oDl (ks : List (Str × MP)) : MO := ⟨fun G _ o => ∃ kvs, o = .dK kvs ∧ ZipK G ks kvs, fun s ⟨kvs, e, z⟩ => ⟨kvs, e, z.mono s⟩, fun ⟨_, e, _⟩ => by rw [e]; rfl⟩
/-- a locked dict -/
def mD (xs : List Str) (f : Str → MP) : MP := mDl (fK xs f)
/-- one's own dict -/
def oD (xs : List Str) (f : Str → MP) : MO := oDl (fK xs f)
theorem mD_congr {xs : List Str} {f g : Str → MP} (h : ∀ s ∈ xs, f s = g s) : mD xs f = mD xs g := congrArg mDl (fK_congr h)
theorem oD_congr {xs : List Str} {f g : Str → MP} (h : ∀ s ∈ xs, f s = g s) : oD xs f = oD xs g := congrArg oDl (fK_congr h)
section
variable {pn : Option Addr} {Γ Γ1 : Gam} {c c1 c2 : Nat} {S S1 S2 : MP} {te ta tb td tv ty : TE} {tt : TT} {t u ts : TS} {O O1 : Outs} {K : PySem.W.Frag} {Ps : List MP} {xs : List Str} {f : Str → MP} {s : Str}
theorem dget_frz {G H : Hp} {a : Addr} {od : Obj} {kvs : List (Key × V)} (e : Sm G H) (h : G a = some (.frz od (.dK kvs))) : DGet H a (.str s) (valV kvs (.inr s)) := .inl ⟨kvs, .inr s, .inr ⟨od, e.x h⟩, rfl, rfl⟩
theorem ev_dgetF (hd : Ev pn td Γ c1 (mD xs f)) (hy : Ev pn ty Γ c2 (mS s)) (hs : s ∈ xs) : Ev pn (tDGet td ty) Γ (c1 + c2) (f s) := .mk fun E l Q q =>
  hd.run E (by omega) _ fun x G1 H1 n1 k1 p1 l1 sx => hy.run (E.step k1 p1) (by omega) _ fun y G2 H2 n2 k2 p2 l2 sy => by
    obtain ⟨a, od, kvs, rfl, ha, z⟩ := sx
    obtain rfl : y = .str s := sy
    obtain ⟨v, hv, pv⟩ := (fK_val (s := s) z).1 hs
    refine ⟨a, v, rfl, ?_, q v _ _ n2 (k1.trans0 k2) p2 (by omega) ((f s).mono k2.gg pv)⟩
    rw [← hv]
    exact dget_frz k2.gh (k2.gg _ _ ha)
theorem ev_inF (hy : Ev pn ty Γ c1 (mS s)) (hd : Ev pn td Γ c2 (mD xs f)) : Ev pn (tDIn ty td) Γ (c1 + c2) (mV (.bl (decide (s ∈ xs)))) := .mk fun E l Q q =>
  hy.run E (by omega) _ fun y G1 H1 n1 k1 p1 l1 sy => hd.run (E.step k1 p1) (by omega) _ fun x G2 H2 n2 k2 p2 l2 sx => by
    obtain ⟨a, od, kvs, rfl, ha, z⟩ := sx
    obtain rfl : y = .str s := sy
    refine ⟨a, _, rfl, dget_frz k2.gh ha, q _ _ _ n2 (k1.trans0 k2) p2 (by omega) ?_⟩
    obtain ⟨h1, h2⟩ := fK_val (s := s) z
    by_cases m : s ∈ xs
    · obtain ⟨v, e, _⟩ := h1 m
      show _ = _
      rw [e, decide_eq_true m]
      rfl
    · show _ = _
      rw [h2 m, decide_eq_false m]
      rfl
theorem ev_notInF (hy : Ev pn ty Γ c1 (mS s)) (hd : Ev pn td Γ c2 (mD xs f)) : Ev pn (tDNotIn ty td) Γ (c1 + c2) (mV (.bl (!decide (s ∈ xs)))) := .mk fun E l Q q =>
  hy.run E (by omega) _ fun y G1 H1 n1 k1 p1 l1 sy => hd.run (E.step k1 p1) (by omega) _ fun x G2 H2 n2 k2 p2 l2 sx => by
    obtain ⟨a, od, kvs, rfl, ha, z⟩ := sx
    obtain rfl : y = .str s := sy
    refine ⟨a, _, rfl, dget_frz k2.gh ha, q _ _ _ n2 (k1.trans0 k2) p2 (by omega) ?_⟩
    obtain ⟨h1, h2⟩ := fK_val (s := s) z
    by_cases m : s ∈ xs
    · obtain ⟨v, e, _⟩ := h1 m
      show _ = _
      rw [e, decide_eq_true m]
      rfl
    · show _ = _
      rw [h2 m, decide_eq_false m]
      rfl
/-- one's own dict, in the slot i -/
theorem en_dnewF : EvN pn tDNewK Γ 0 (oD [] f) := .mk fun {G H σ n} E l Q q => fun p hp => by
  have k := Stp.newH (o := .dK []) E.gh hp
  obtain ⟨k', p'⟩ := k.pure E.pen
  exact q p _ G _ n k' p' (Nat.le_refl _) hp (E.gh.free hp) upd_same ⟨[], rfl, trivial⟩
theorem ev_dgetOF {i : Nat} (hi : Γ[i]? = some (.own (oD xs f))) (hy : Ev pn ty Γ c (mS s)) (hs : s ∈ xs) : Ev pn (tDGet (tVar i) ty) Γ c (f s) := .mk fun {G H σ n} E l Q q => by
  obtain ⟨a, u, A⟩ := E.sl.own E.nd hi
  refine ⟨.ref a, A.val, hy.run E l _ fun y G1 H1 n1 k1 p1 l1 sy => ?_⟩
  obtain rfl : y = .str s := sy
  have A1 := A.step E hi k1 p1
  obtain ⟨kvs, rfl, z⟩ := A1.pr
  obtain ⟨v, hv, pv⟩ := (fK_val (s := s) z).1 hs
  refine ⟨a, v, rfl, ?_, q v _ _ n1 k1 p1 l1 pv⟩
  rw [← hv]
  exact DGet.k (k := .inr s) A1.obj
theorem ev_inOF {i : Nat} (hi : Γ[i]? = some (.own (oD xs f))) (hy : Ev pn ty Γ c (mS s)) : Ev pn (tDIn ty (tVar i)) Γ c (mV (.bl (decide (s ∈ xs)))) := .mk fun {G H σ n} E l Q q =>
  hy.run E l _ fun y G1 H1 n1 k1 p1 l1 sy => by
    obtain ⟨a, u, A⟩ := E.sl.own E.nd hi
    obtain rfl : y = .str s := sy
    have A1 := A.step E hi k1 p1
    obtain ⟨kvs, rfl, z⟩ := A1.pr
    refine ⟨.ref a, A.val, a, _, rfl, DGet.k (k := .inr s) A1.obj, q _ _ _ n1 k1 p1 l1 ?_⟩
    obtain ⟨h1, h2⟩ := fK_val (s := s) z
    by_cases m : s ∈ xs
    · obtain ⟨v, e, _⟩ := h1 m
      show _ = _
      rw [e, decide_eq_true m]
      rfl
    · show _ = _
      rw [h2 m, decide_eq_false m]
      rfl
theorem ev_notInOF {i : Nat} (hi : Γ[i]? = some (.own (oD xs f))) (hy : Ev pn ty Γ c (mS s)) : Ev pn (tDNotIn ty (tVar i)) Γ c (mV (.bl (!decide (s ∈ xs)))) := .mk fun {G H σ n} E l Q q =>
  hy.run E l _ fun y G1 H1 n1 k1 p1 l1 sy => by
    obtain ⟨a, u, A⟩ := E.sl.own E.nd hi
    obtain rfl : y = .str s := sy
    have A1 := A.step E hi k1 p1
    obtain ⟨kvs, rfl, z⟩ := A1.pr
    refine ⟨.ref a, A.val, a, _, rfl, DGet.k (k := .inr s) A1.obj, q _ _ _ n1 k1 p1 l1 ?_⟩
    obtain ⟨h1, h2⟩ := fK_val (s := s) z
    by_cases m : s ∈ xs
    · obtain ⟨v, e, _⟩ := h1 m
      show _ = _
      rw [e, decide_eq_true m]
      rfl
    · show _ = _
      rw [h2 m, decide_eq_false m]
      rfl
theorem sx_dputF {i : Nat} {P : MP} (hi : Γ[i]? = some (.own (oD xs f))) (hv : Ev pn tv Γ c1 P) (hy : Ev pn ty Γ c2 (mS s)) (hl : xs.length < 100000) (hn : O.nx (Γ.set i (.own (oD (kput xs s) fun t => if t = s then P else f t)))) :
    Sx pn (sDPut (tVar i) ty tv) Γ (c1 + c2) O := .mk fun {G H σ n} D E l q1 q2 q3 q4 =>
  hv.run E (by omega) _ fun v G1 H1 n1 k1 p1 l1 pv => by
    obtain ⟨a, u, A⟩ := E.sl.own E.nd hi
    refine ⟨.ref a, A.val, hy.run (E.step k1 p1) (by omega) _ fun y G2 H2 n2 k2 p2 l2 sy => ?_⟩
    have E2 := (E.step k1 p1).step k2 p2
    have A2 := (A.step E hi k1 p1).step (E.step k1 p1) hi k2 p2
    obtain ⟨kvs, rfl, z⟩ := A2.pr
    obtain rfl : y = .str s := sy
    have hz : kvs.length < sizeLine := Nat.lt_of_lt_of_le (m := 100000) (by rw [z.len]; unfold fK; rw [List.length_map]; exact hl) (by decide)
    refine ⟨a, _, rfl, DPut.k (k := .inr s) A2.obj hz, ?_⟩
    have g := go_mut (M' := oD (kput xs s) fun t => if t = s then P else f t) (u' := .dK (putK kvs (.inr s) v)) E2 A2 ⟨_, rfl, fK_put (P.mono k2.gg pv) z⟩
    exact q1 _ _ _ _ _ hn (((Go.of (c := c1 + c2) E (k1.trans0 k2) (by omega) E2 fun _ h => .inl h).trans g).more (Nat.le_refl _))
/-- a walk over a locked dict -/
theorem its_keys {G0 : Hp} {a : Addr} {od : Obj} {kvs : List (Key × V)} (h : G0 a = some (.frz od (.dK kvs))) (z : ZipK G0 (fK xs f) kvs) : Its (Itk a od kvs) G0 (xs.map mS) := by
  have el : kvs.length = xs.length := by rw [z.len]; unfold fK; rw [List.length_map]
  refine ⟨fun {G H i} s k hi => ⟨k.x (s _ _ h), ?_⟩, fun {G H i x H' P} s k hP hy => ?_, fun {G H i} s k hi => ⟨k.x (s _ _ h), ?_⟩⟩
  · rw [List.length_map] at hi
    omega
  · obtain ⟨rfl, q, v, e, rfl⟩ := hy
    rw [List.getElem?_map] at hP
    obtain ⟨t, ht, rfl⟩ := Option.map_eq_some_iff.mp hP
    have e2 : (fK xs f)[i]? = some (t, f t) := by unfold fK; rw [List.getElem?_map, ht]; rfl
    obtain ⟨v', e3, _⟩ := z.get e2
    rw [e] at e3
    cases e3
    exact ⟨G, .refl k, rfl⟩
  · rw [List.length_map] at hi
    omega
theorem ei_keysF (h : Ev pn td Γ c (mD xs f)) : EvI pn (iKeys td) Γ c (· = xs.map mS) := .mk fun E l R r => h.run E l _ fun x G1 H1 n1 k p ln sx => by
  obtain ⟨a, od, kvs, rfl, ha, z⟩ := sx
  exact ⟨a, od, rfl, .inl ⟨kvs, k.gh.x ha, r _ _ _ _ _ k p ln rfl (its_keys ha z)⟩⟩
end
end Ev

set_option Elab.async false
set_option linter.all false
set_option maxRecDepth 100000
set_option maxHeartbeats 4000000
/-! Dict comprehensions; dicts whose keys are pairs of texts; a dict of one's own that is given out, locked. -/
namespace Ev
open PySem PySem.Spec L2
variable [z : Tz]
theorem isTp_frz {od : Obj} {u : HO} (h : isTp u = false) : isTp (.frz od u) = false := by
  cases u <;> first | rfl | cases h
/-! ### locked for ever -/
def tFrz (te : TE) : TE := fun σ H Q => te σ H fun v H1 => ∃ d u, v = .ref d ∧ H1 d = some u ∧ Mut (some u) ∧ ∀ od, Q v (upd H1 d (.frz od u))
theorem pe_frz {X : Cx} {e : Expr} {te : TE} (h : PE X e te) : PE X e (tFrz te) := ⟨fun pins s σ H Q I q => thn (h.run pins s σ H _ I q) fun v s1 ⟨x, H1, I1, r, d, u, ex, hd, mu, k⟩ => by
  obtain ⟨od, I2⟩ := I1.lock hd mu
  exact ⟨x, _, I2, r, k od⟩⟩
/-- a tuple that stands there may be known from here on -/
theorem Stp.tup {G H : Hp} {q : Addr} {xs : List V} (e : Sm G H) (h : H q = some (.tup xs)) : ∃ G', Stp none [] G H G' H ∧ G' q = some (.tup xs) := by
  cases g : G q with
  | some o =>
    refine ⟨G, .refl e, ?_⟩
    rcases e q o g with e1 | ⟨od, kvs, _, e1⟩
    · rw [g, ← e1, h]
    · rw [h] at e1
      cases e1
  | none =>
    refine ⟨upd G q (.tup xs), .of5 ⟨fun b o z => ?_, fun b o z => ?_, fun _ _ z _ _ => z, fun b z1 z2 _ _ => ?_, fun _ z => z⟩, upd_same⟩
    · rw [upd_ne (ne_of_none z g)]; exact z
    · by_cases x : b = q
      · rw [x, upd_same] at z
        cases z
        rw [x]
        exact .inl h
      · rw [upd_ne x] at z
        exact e b o z
    · by_cases x : b = q
      · exact .inr ⟨xs, by rw [x]; exact h⟩
      · rw [upd_ne x]
        exact .inl z1
/-! ### dicts whose keys are pairs of texts -/
def pk (p : Str × Str) : List Key := [.inr p.1, .inr p.2]
theorem pk_inj {p q : Str × Str} (h : pk p = pk q) : p = q := by
  unfold pk at h
  injection h with h1 h2
  injection h2 with h2 _
  exact Prod.ext (Sum.inr.inj h1) (Sum.inr.inj h2)
def mDT (ps : List (Str × Str)) : MP := ⟨fun G v => ∃ a od kvs, v = .ref a ∧ G a = some (.frz od (.dT kvs)) ∧ kvs.map (·.1) = ps.map pk, fun s ⟨a, od, kvs, e, h, z⟩ => ⟨a, od, kvs, e, s _ _ h, z⟩⟩
section
variable {pn : Option Addr} {Γ Γ1 : Gam} {c c1 c2 ck cv : Nat} {S S1 S2 : MP} {te ta tb td tv tk ty : TE} {tt : TT} {t u ts : TS} {O O1 : Outs} {K : PySem.W.Frag} {Ps : List MP} {xs : List Str} {f : Str → MP} {s : Str} {ps : List (Str × Str)}
theorem its_keysT {G0 : Hp} {a : Addr} {od : Obj} {kvs : List (List Key × V)} (h : G0 a = some (.frz od (.dT kvs))) (z : kvs.map (·.1) = ps.map pk) : Its (Itkt a od kvs) G0 (ps.map mPair) := by
  have el : kvs.length = ps.length := by
    have := congrArg List.length z
    rwa [List.length_map, List.length_map] at this
  refine ⟨fun {G H i} s k hi => ⟨k.x (s _ _ h), ?_⟩, fun {G H i x H' P} s k hP hy => ?_, fun {G H i} s k hi => ⟨k.x (s _ _ h), ?_⟩⟩
  · rw [List.length_map] at hi
    omega
  · obtain ⟨rfl, q, v, b, e, rfl, hb⟩ := hy
    rw [List.getElem?_map] at hP
    obtain ⟨p, hp, rfl⟩ := Option.map_eq_some_iff.mp hP
    have e2 : (kvs.map (·.1))[i]? = some (pk p) := by rw [z, List.getElem?_map, hp]; rfl
    rw [List.getElem?_map, e] at e2
    obtain rfl : q = pk p := Option.some.inj e2
    obtain ⟨G', k', g'⟩ := Stp.tup k hb
    exact ⟨G', k', b, _, rfl, g', rfl, rfl, trivial⟩
  · rw [List.length_map] at hi
    omega
theorem ei_keysT (h : Ev pn td Γ c (mDT ps)) : EvI pn (iKeys td) Γ c (· = ps.map mPair) := .mk fun E l R r => h.run E l _ fun x G1 H1 n1 k p ln sx => by
  obtain ⟨a, od, kvs, rfl, ha, z⟩ := sx
  exact ⟨a, od, rfl, .inr ⟨kvs, k.gh.x ha, r _ _ _ _ _ k p ln rfl (its_keysT ha z)⟩⟩
/-! ### comprehensions -/
theorem ev_dcG {b : Bool} {wi : TI} {g : TG} {vs : List Nat} {L : List MP → Prop} {Sr : MP} (hi : EvI pn wi Γ c1 L) (ct ck cv m : Nat) (A : Nat → MO → Prop)
    (h : ∀ Ps, L Ps → Ps.length ≤ m ∧ (∃ M, A 0 M ∧ ∀ G a, M.pr G a (empD b)) ∧
      (∀ i P M, Ps[i]? = some P → A i M → ∃ Γ1 ts Pb, Gx pn g (wipeG Γ vs) P Γ1 ts ∧ (∀ t ∈ ts, t ∈ vs) ∧ EvT pn tt Γ1 ct Pb ∧ (Pb false → A (i + 1) M) ∧
        (Pb true → ∃ Sk Sv M', Ev pn tk Γ1 ck Sk ∧ Ev pn tv Γ1 cv Sv ∧ A (i + 1) M' ∧ ∀ {G H : Hp} {D : Addr} {u : HO} {y z : V}, Sm G H → H D = some u → M.pr G D u → Sk.pr G y → Sv.pr G z → ∃ u', DPut H D y z (upd H D u') ∧ M'.pr G D u')) ∧
      (∀ M, A Ps.length M → ∀ {G : Hp} {D : Addr} {u : HO}, G D = none → M.pr G D u → Mut (some u) ∧ ∀ od, Sr.pr (upd G D (.frz od u)) (.ref D))) :
    Ev pn (tDcP b wi g tt tk tv vs) Γ (c1 + m * (ct + ck + cv)) Sr := .mk fun {G H σ n} E l Q q =>
  hi.run E (by omega) _ fun J G1 H1 n1 Ps k p ln hL it => fun Da hD => by
    obtain ⟨hlen, ⟨M0, h0, h00⟩, hs, hd⟩ := h Ps hL
    have E1 := E.step k p
    obtain ⟨Ew, sw⟩ := E1.wipe vs
    have kN := Stp.newH (o := empD b) k.gh hD
    obtain ⟨kN', pN⟩ := kN.pure p
    have hDo : ∀ a ∈ owns (wipeG Γ vs) (L2.wipe σ vs), a ∉ [Da] := fun a ha z => by
      obtain rfl : a = Da := by simpa using z
      exact (owns_tracked Ew.sl a ha).1 hD
    have npD : pn ≠ some Da := fun z => (p Da z).2.ne hD
    have gD : G1 Da = none := k.gh.free hD
    refine ⟨fun i m' H' => m' = Ps.length - i ∧ i ≤ Ps.length ∧ ∃ G' n' M u, A i M ∧ Stp pn [Da] G1 (upd H1 Da (empD b)) G' H' ∧ PenOk pn G' H' n' ∧ n' ≤ n1 + i * (ct + ck + cv) ∧ H' Da = some u ∧ G' Da = none ∧ M.pr G' Da u,
      ⟨Ps.length, by simp, Nat.zero_le _, G1, n1, M0, empD b, h0, .refl kN.gh, pN, by omega, upd_same, gD, h00 _ _⟩, ?_⟩
    rintro i m' H' ⟨rfl, hi', G', n', M, u, hA, kk, pp, ll, hw, gw, zz⟩
    have k0 : Stp pn [Da] G1 H1 G' H' := kk.pre hD
    have Ei : Env pn G' H' (wipeG Γ vs) (L2.wipe σ vs) n' := ⟨kk.gh, pp, Ew.sl.stepO k0 hDo, Ew.nd⟩
    have le1 := Nat.mul_le_mul_right (ct + ck + cv) hlen
    by_cases lt : i < Ps.length
    · refine .inr ⟨it.go kk.gg kk.gh lt, fun H2 => ∃ G2 n2 M2 u2, A (i + 1) M2 ∧ Stp pn [Da] G1 (upd H1 Da (empD b)) G2 H2 ∧ PenOk pn G2 H2 n2 ∧ n2 ≤ n1 + (i + 1) * (ct + ck + cv) ∧ H2 Da = some u2 ∧ G2 Da = none ∧ M2.pr G2 Da u2,
        fun H2 a => ⟨Ps.length - (i + 1), by omega, rfl, lt, a⟩, fun x H2 hy => ?_⟩
      have eP : Ps[i]? = some Ps[i] := List.getElem?_eq_getElem lt
      obtain ⟨G2, k2, px⟩ := it.yld kk.gg kk.gh eP hy
      obtain ⟨k3, p3⟩ := k2.pure pp
      have E2 := Ei.step k3 p3
      obtain ⟨Γ3, ts, Pb, hg, hts, ht, hF, hT⟩ := hs i Ps[i] M eP hA
      refine hg.run E2 px _ fun σ3 E3 o3 w3 => ⟨(w3 vs hts).trans (wipe_wipe vs σ), ?_⟩
      have e1 : (i + 1) * (ct + ck + cv) = i * (ct + ck + cv) + (ct + ck + cv) := by rw [Nat.add_mul]; omega
      have le2 : (i + 1) * (ct + ck + cv) ≤ Ps.length * (ct + ck + cv) := Nat.mul_le_mul_right _ lt
      have nt := M.nt zz
      have hw2 : H2 Da = some u := k3.hh Da _ hw npD (fun z => nomatch z)
      have gw2 : G2 Da = none := k3.own_none gw hw nt npD (fun z => nomatch z)
      refine ht.run E3 (by omega) _ fun c G4 H4 n4 k4 p4 l4 hb => ?_
      have hw4 : H4 Da = some u := k4.hh Da _ hw2 npD (fun z => nomatch z)
      have gw4 : G4 Da = none := k4.own_none gw2 hw2 nt npD (fun z => nomatch z)
      have k5 : Stp pn [Da] G1 (upd H1 Da (empD b)) G4 H4 := (kk.trans k3 fun _ h => nomatch h).trans k4 fun _ h => nomatch h
      cases c with
      | false => exact ⟨G4, n4, M, u, hF hb, k5, p4, by omega, hw4, gw4, M.mono (k3.gg.trans k4.gg) zz⟩
      | true =>
        obtain ⟨Sk, Sv, M', hk, hv, hA2, put⟩ := hT hb
        refine hk.run (E3.step k4 p4) (by omega) _ fun y G6 H6 n6 k6 p6 l6 hy6 => ?_
        have hw6 : H6 Da = some u := k6.hh Da _ hw4 npD (fun z => nomatch z)
        have gw6 : G6 Da = none := k6.own_none gw4 hw4 nt npD (fun z => nomatch z)
        refine hv.run ((E3.step k4 p4).step k6 p6) (by omega) _ fun z G7 H7 n7 k7 p7 l7 hz7 => ?_
        have hw7 : H7 Da = some u := k7.hh Da _ hw6 npD (fun z => nomatch z)
        have gw7 : G7 Da = none := k7.own_none gw6 hw6 nt npD (fun z => nomatch z)
        obtain ⟨u', dp, pr'⟩ := put k7.gh hw7 (M.mono (((k3.gg.trans k4.gg).trans k6.gg).trans k7.gg) zz) (Sk.mono k7.gg hy6) hz7
        refine ⟨_, dp, ?_⟩
        have ka : Stp pn [Da] G1 (upd H1 Da (empD b)) G7 H7 := (k5.trans k6 fun _ h => nomatch h).trans k7 fun _ h => nomatch h
        have nt7 := M.nt zz
        have kb : Stp pn [Da] G7 H7 G7 (upd H7 Da u') := .chg k7.gh gw7 (by rw [hw7]; exact fun z => nomatch z)
        refine ⟨G7, n7, M', u', hA2, ka.trans kb fun x h => .inl h, p7.updH npD (no_tbl hw7 nt7), by omega, upd_same, gw7, pr'⟩
    · have e : i = Ps.length := by omega
      subst e
      obtain ⟨mu, fin⟩ := hd M hA gw zz
      refine .inl ⟨it.stop kk.gg kk.gh (Nat.le_refl _), u, hw, mu, fun od => ?_⟩
      have sm : Same G' (upd G' Da (.frz od u)) := fun b o e => by rw [upd_ne (ne_of_none e gw)]; exact e
      have hH : H Da = none := none_back k hD
      have nt := M.nt zz
      exact q (.ref Da) (upd G' Da (.frz od u)) _ n' ((k.more.trans k0 fun x h => .inl h).commit hH gw (fun b nb => upd_ne nb) upd_same (.inl rfl)) ((pp.updH npD (no_tbl hw nt)).updG npD gw (no_tbl (u := .frz od u) upd_same (isTp_frz nt))) (by omega) (fin od)
/-- {k x: v x for x in xs}, the keys all unlike -/
theorem ev_dcF {α : Type} {ys : List α} {R : α → MP} {kf : α → Str} {f : Str → MP} {wi : TI} {g : TG} {vs : List Nat} (hi : EvI pn wi Γ c1 (· = ys.map R)) (hm : ys.length ≤ 90000) (nd : (ys.map kf).Nodup)
    (h : ∀ x ∈ ys, ∃ Γ1 ts, Gx pn g (wipeG Γ vs) (R x) Γ1 ts ∧ (∀ t ∈ ts, t ∈ vs) ∧ Ev pn tk Γ1 ck (mS (kf x)) ∧ Ev pn tv Γ1 cv (f (kf x))) : Ev pn (tDcP false wi g tYes tk tv vs) Γ (c1 + ys.length * (0 + ck + cv)) (mD (ys.map kf) f) := by
  refine ev_dcG hi 0 ck cv ys.length (fun i M => M = oD ((ys.take i).map kf) f) ?_
  rintro Ps rfl
  refine ⟨by rw [List.length_map]; exact Nat.le_refl _, ⟨_, rfl, fun G a => ⟨[], rfl, trivial⟩⟩, fun i P M hP hA => ?_, fun M hA {G D u} g0 pr => ?_⟩
  · subst hA
    rw [List.getElem?_map] at hP
    obtain ⟨x, hx, rfl⟩ := Option.map_eq_some_iff.mp hP
    obtain ⟨Γ1, ts, e1, e2, e3, e4⟩ := h x (List.mem_of_getElem? hx)
    refine ⟨Γ1, ts, _, e1, e2, et_yes, fun z => (nomatch z), fun _ => ⟨_, _, _, e3, e4, rfl, fun {G H D u y z} sm hD pr hy hz => ?_⟩⟩
    obtain ⟨kvs, rfl, zk⟩ := pr
    obtain rfl : y = .str (kf x) := hy
    have hl : kvs.length < sizeLine := Nat.lt_of_le_of_lt (m := 90000) (by
      rw [zk.len]
      unfold fK
      rw [List.length_map, List.length_map, List.length_take]
      omega) (by decide)
    have notin : kf x ∉ (ys.take i).map kf := by
      have s := split_at hx
      rw [s, List.map_append, List.map_cons] at nd
      exact fun m => (List.nodup_append.mp nd).2.2 _ m _ (List.mem_cons_self ..) rfl
    have none_ : valV kvs (.inr (kf x)) = none := (fK_val zk).2 notin
    have e : putK kvs (.inr (kf x)) z = kvs ++ [(.inr (kf x), z)] := by
      unfold putK
      rw [if_neg (by rw [valV_any, none_]; simp)]
    refine ⟨_, DPut.k (k := .inr (kf x)) hD hl, _, rfl, ?_⟩
    rw [e, take_succ hx, List.map_append]
    have e5 : fK ((ys.take i).map kf ++ [x].map kf) f = fK ((ys.take i).map kf) f ++ [(kf x, f (kf x))] := by unfold fK; rw [List.map_append]; rfl
    rw [e5]
    exact zk.snoc hz
  · subst hA
    rw [List.length_map, List.take_length] at pr
    obtain ⟨kvs, rfl, zk⟩ := pr
    refine ⟨trivial, fun od => ⟨D, od, kvs, rfl, upd_same, zk.mono fun b o e => ?_⟩⟩
    rw [upd_ne (ne_of_none e g0)]
    exact e
/-- {p: v for p in ps}, the pairs all unlike -/
theorem ev_dcT {wi : TI} {g : TG} {vs : List Nat} (hi : EvI pn wi Γ c1 (· = ps.map mPair)) (hm : ps.length ≤ 90000) (nd : ps.Nodup)
    (h : ∀ x ∈ ps, ∃ Γ1 ts, Gx pn g (wipeG Γ vs) (mPair x) Γ1 ts ∧ (∀ t ∈ ts, t ∈ vs) ∧ Ev pn tk Γ1 ck (mPair x) ∧ Ev pn tv Γ1 cv S) : Ev pn (tDcP true wi g tYes tk tv vs) Γ (c1 + ps.length * (0 + ck + cv)) (mDT ps) := by
  let oT : List (Str × Str) → MO := fun qs => ⟨fun _ _ o => ∃ kvs, o = .dT kvs ∧ kvs.map (·.1) = qs.map pk, fun _ h => h, fun ⟨_, e, _⟩ => by rw [e]; rfl⟩
  refine ev_dcG hi 0 ck cv ps.length (fun i M => M = oT (ps.take i)) ?_
  rintro Ps rfl
  refine ⟨by rw [List.length_map]; exact Nat.le_refl _, ⟨_, rfl, fun G a => ⟨[], rfl, rfl⟩⟩, fun i P M hP hA => ?_, fun M hA {G D u} g0 pr => ?_⟩
  · subst hA
    rw [List.getElem?_map] at hP
    obtain ⟨x, hx, rfl⟩ := Option.map_eq_some_iff.mp hP
    obtain ⟨Γ1, ts, e1, e2, e3, e4⟩ := h x (List.mem_of_getElem? hx)
    refine ⟨Γ1, ts, _, e1, e2, et_yes, fun z => (nomatch z), fun _ => ⟨_, _, _, e3, e4, rfl, fun {G H D u y z} sm hD pr hy hz => ?_⟩⟩
    obtain ⟨kvs, rfl, zk⟩ := pr
    obtain ⟨b, ws, rfl, gb, zb⟩ := hy
    have ews : ws = (pk x).map kV := by
      obtain ⟨v1, v2, rfl, h1, h2⟩ := zip2 zb
      rw [show v1 = _ from h1, show v2 = _ from h2]
      rfl
    subst ews
    have el : kvs.length = (ps.take i).length := by
      have := congrArg List.length zk
      rwa [List.length_map, List.length_map] at this
    have hl : kvs.length < sizeLine := Nat.lt_of_le_of_lt (m := 90000) (by rw [el, List.length_take]; omega) (by decide)
    have notin : pk x ∉ kvs.map (·.1) := by
      rw [zk]
      intro m
      obtain ⟨y, my, ey⟩ := List.mem_map.mp m
      have s := split_at hx
      rw [s] at nd
      exact (List.nodup_append.mp nd).2.2 y my x (List.mem_cons_self ..) (pk_inj ey)
    have e : putK kvs (pk x) z = kvs ++ [(pk x, z)] := by
      unfold putK
      rw [if_neg fun a => ?_]
      obtain ⟨q, mq, eq⟩ := List.any_eq_true.mp a
      exact notin (List.mem_map.mpr ⟨q, mq, of_decide_eq_true eq⟩)
    refine ⟨_, DPut.t hD (sm.x gb) hl, _, rfl, ?_⟩
    rw [e, take_succ hx, List.map_append, List.map_append, zk]
    rfl
  · subst hA
    rw [List.length_map, List.take_length] at pr
    obtain ⟨kvs, rfl, zk⟩ := pr
    exact ⟨trivial, fun od => ⟨D, od, kvs, rfl, upd_same, zk⟩⟩
/-- return name, a dict of one's own: from here on it is locked -/
theorem x_retF {i : Nat} (hi : Γ[i]? = some (.own (oD xs f))) (hs : ∀ G v, (mD xs f).pr G v → O.rt.pr G v := by intro _ _ h; exact h) : Sx pn (tRet (tFrz (tVar i))) Γ c O := .mk fun {G H σ n} D E l q1 q2 q3 q4 => by
  obtain ⟨a, u, A⟩ := E.sl.own E.nd hi
  obtain ⟨kvs, rfl, z⟩ := A.pr
  refine ⟨.ref a, A.val, a, _, rfl, A.obj, trivial, fun od => ?_⟩
  have sm : Same G (upd G a (.frz od (.dK kvs))) := fun b o e => by rw [upd_ne (ne_of_none e A.gn)]; exact e
  refine q2 (.ref a) (upd G a (.frz od (.dK kvs))) (upd H a (.frz od (.dK kvs))) n (.of5 ⟨sm, fun b o e => ?_, fun b o e e1 e2 => ?_, fun b e1 e2 e3 e4 => .inl ?_, fun b e => ?_⟩) ((E.pen.updH A.np (no_tbl A.obj)).updG A.np A.gn (no_tbl (u := .frz od (.dK kvs)) upd_same)) (by omega) (hs _ _ ⟨a, od, kvs, rfl, upd_same, z.mono sm⟩)
  · by_cases x : b = a
    · rw [x, upd_same] at e ⊢
      exact .inl e
    · rw [upd_ne x] at e ⊢
      exact E.gh b o e
  · rw [upd_ne (fun x => e2 (by rw [x]; exact A.mem))]
    exact e
  · rw [upd_ne (fun x => e3 (by rw [x]; exact A.mem))]
    exact e1
  · by_cases x : b = a
    · rw [x, upd_same]; exact fun z => nomatch z
    · rw [upd_ne x]; exact e
end
end Ev

set_option Elab.async false
set_option linter.all false
set_option maxRecDepth 100000
set_option maxHeartbeats 4000000
/-! list(d.values()); tuple(d), list(d) of dicts whose keys are pairs. -/
namespace Ev
open PySem PySem.Spec L2 PyProof.Rows
variable [z : Tz]
section
variable {prog : Program} {w : World} {A : Around} {E : Value → Shared → Prop} {s : Shared} {T : String} {r d : Addr} {n : Nat} {P : Nat → Value → Prop} {OK : Heap → Prop}
/-- what is gathered of such a source -/
theorem collect_src {Q : List Value → Shared → Prop} (K : PySem.W.KdlSrc prog w T r d n P OK) (hh : A.handled = none) (ok : OK s.heap) (hn : n ≤ sizeLine)
    (q : ∀ (h' : Heap) tk (acc : Array Value), (∀ b o, s.heap.get? b = some o → h'.get? b = some o) → ItemsOf P acc n → Q acc.toList { s with heap := h', toks := tk }) : wpAny (model prog w) A (collect (.ref r)) Q E s := by
  unfold collect
  refine wpAny_bind (wpAny_runValue (codeAny_builtin F.entry_proto_collect ?_))
  rw [Around.under_plainId F.plain_proto_collect _]
  show wpAny _ A.in1 (newList [] >>= fun l => again (.builtin "list.__iadd__" ⟨[l, .ref r], []⟩)) _ _ s
  refine wpAny_bind (wpAny_newObj_type ?_)
  refine wpAny_pure ⟨plainId_quiet F.plain_list_iadd _, codeAny_builtin F.entry_list_iadd ?_⟩
  rw [Around.under_plainId F.plain_list_iadd _]
  have hS : (s.heap.push { cls := .type "list", data := .seq ([] : List Value).toArray }).get? s.heap.objs.size = some { cls := .type "list", data := .seq ([] : List Value).toArray } := Heap.get?_push_size _ rfl
  have lt := K.there _ ok
  show wpAny _ A.in1 (Builtin.List.listExtendWith (.ref s.heap.objs.size) (.ref r) (.ref s.heap.objs.size)) _ _ _
  let go : Value → Sem (List Value) := fun v => match v with
    | .ref a => do
      match (← load a).data with
      | .seq xs _ => pure xs.toList
      | _ => unsupported "internal:collect"
    | _ => unsupported "internal:collect"
  refine wpAny_mono (PySem.W.kdl_extend (R := wants (fun v s' => wpAny (model prog w) A (go v) Q E s') E) (s := { s with heap := s.heap.push { cls := .type "list", data := .seq ([] : List Value).toArray } }) K hh (K.keep _ _ ok fun b _ o e => Heap.get?_push_of_some _ e) s.heap.objs.size (Nat.ne_of_gt lt.1) (Nat.ne_of_gt lt.2) (.ref s.heap.objs.size) 0 hS (fun h' tk acc c kp hl it => ?_) hn) (fun fin s' z => ?_) fun e s' z => z
  rotate_left
  · cases fin with
    | done f => cases f <;> exact z
    | again c' => exact ⟨z.1, codeAny_mono z.2 fun r s2 y => by
        cases r with
        | error e => exact y
        | ok f => cases f <;> exact y⟩
  show wpAny _ A (load s.heap.objs.size >>= _) _ _ _
  refine wpAny_bind (wpAny_load hl ?_)
  refine wpAny_pure (q h' tk acc (fun b o e => kp b o (Nat.ne_of_lt (Heap.lt_size e)) (Heap.get?_push_of_some _ e)) it)
theorem code_tuple_src {Q₁ : Value → Shared → Prop} (K : PySem.W.KdlSrc prog w T r d n P OK) (hh : A.handled = none) (ok : OK s.heap) (hn : n ≤ sizeLine)
    (q : ∀ (h' : Heap) tk (acc : Array Value), (∀ b o, s.heap.get? b = some o → h'.get? b = some o) → ItemsOf P acc n → Q₁ (.ref h'.objs.size) { s with heap := h'.push { cls := .type "tuple", data := .seq acc }, toks := tk }) :
    codeAny (model prog w) A (.call (.builtin "tuple.__new__") ⟨[.type "tuple", .ref r], []⟩) (wants Q₁ E) s := by
  refine codeAny_of_tree ?_
  show wpAny _ A.in1 (do checkBuiltinCall "tuple.__new__" ⟨[.type "tuple", .ref r], []⟩; again (.builtin "tuple.__new__" ⟨[.type "tuple", .ref r], []⟩)) _ _ s
  refine wpAny_bind (wpAny_of_eq (F.newCall_tuple_1 _) (wpAny_pure ⟨plainId_quiet F.plain_tuple_new _, codeAny_builtin F.entry_tuple_new ?_⟩))
  rw [Around.under_plainId F.plain_tuple_new _]
  have hsub := sub_tuple_self
  have hinit := init_tuple_lookup
  have hmh := madeHere_tuple
  have hT := K.type _ ok
  wp_walk using wpAny_typeOf hT
  rw [if_neg (by rw [K.notTuple]; exact Bool.false_ne_true)]
  refine wpAny_bind (collect_src K (by simpa using hh) ok hn fun h' tk acc kp it => ?_)
  refine wpAny_bind (wpAny_pure ?_)
  show wpAny _ _ (Builtin.Tuple.tupleExact acc.toList.toArray >>= fun v => ret v) _ _ _
  unfold Builtin.Tuple.tupleExact
  refine wpAny_bind (wpAny_newObj_type ?_ (by show acc.toList.toArray.size ≤ sizeLine; simp only [Array.toArray_toList]; rw [it.1]; exact hn))
  refine wpAny_pure ?_
  rw [Array.toArray_toList]
  exact q h' tk acc kp it
theorem call_tuple_src {Q : Value → Shared → Prop} (K : PySem.W.KdlSrc prog w T r d n P OK) (hh : A.handled = none) (ok : OK s.heap) (hn : n ≤ sizeLine)
    (q : ∀ (h' : Heap) tk (acc : Array Value), (∀ b o, s.heap.get? b = some o → h'.get? b = some o) → ItemsOf P acc n → Q (.ref h'.objs.size) { s with heap := h'.push { cls := .type "tuple", data := .seq acc }, toks := tk }) :
    wpAny (model prog w) A (call (.type "tuple") [.ref r]) Q E s := by
  refine callType_codes (Q₁ := fun obj s₁ => s₁.TypeIs obj "tuple" ∧ Q obj s₁) F.called_tuple (F.typeCall_tuple_1 _) F.entry_object_init
    (code_tuple_src K (by simpa using hh) ok hn fun h' tk acc kp it => ⟨⟨_, Heap.get?_push_size _ rfl, rfl⟩, q h' tk acc kp it⟩) fun obj s₁ h₁ => ?_
  exact ⟨h₁.1, F.args_object_init_2 obj _, object_init_meets F.called_tuple.init.lookup F.called_tuple.made (by decide) prog w A.in1 _ s₁ ⟨h₁.1, rfl, h₁.2⟩⟩
end
section
variable {X : Cx} {e : Expr} {te : TE} {p apos cpos pos : Pos}
/-- tuple(d), the keys pairs of texts and whole numbers: a tuple of the keys' own tuples -/
theorem call_tuple_dT (hc : X.calm = true) : CallR X (.type "tuple") (fun xs H Q => ∃ d kvs, xs = [V.ref d] ∧ Rd H d (.dT kvs) ∧ ∀ p bs, H p = none → IsKeys H kvs bs → Q (.ref p) (upd H p (.tup (bs.map V.ref)))) := by
  intro pins s σ H xs us Q I r h
  obtain ⟨d, kvs, rfl, hd, q⟩ := h
  obtain ⟨u, rfl, rx⟩ := r.one
  cases rx
  obtain ⟨z, hs, ks, pr, o, es, ep, ho, hx, hdt, he, hn⟩ := (show ObjOk X.prog X.w H s.heap d (.dT kvs) from hd.ok I.hok)
  have l1 : es.size = ks.length := size_of_entries he
  have l2 : kvs.length = ks.length := Paired.length pr
  refine call_tuple_src (kdl_raw hs hx hdt) (I.ok.hd hc) ho (by omega) fun h' tk acc kp it => ?_
  have same : acc.toList = (ks.map fun x => x.2.1).map Value.ref := by
    have hl : acc.toList.length = ks.length := by rw [Array.length_toList, it.1]; exact l1
    rw [List.map_map]
    refine List.ext_getElem? fun j => ?_
    rw [List.getElem?_map]
    cases hj : acc.toList[j]? with
    | none =>
      have h1 := List.getElem?_eq_none_iff.mp hj
      rw [List.getElem?_eq_none (by omega)]
      rfl
    | some v =>
      obtain ⟨en, hen, hv⟩ := it.2 j v (by rw [← Array.getElem?_toList]; exact hj)
      have qe := entry_at he j
      rw [hen] at qe
      cases hb : ks[j]? with
      | none => rw [hb] at qe; cases qe
      | some b =>
        rw [hb] at qe
        have e2 : en = entryOfKey (tupleKind (mixKind X.prog X.w)) b := Option.some.inj qe
        rw [hv, e2]
        rfl
  have hz : ((ks.map fun x => x.2.1).map V.ref).length ≤ sizeLine := by rw [List.length_map, List.length_map]; omega
  have I2 : Inv X pins σ H { s with heap := h', toks := tk } := I.kept kp
  refine ⟨.ref h'.objs.size, _, I2.laid (t' := tk) (o := .tup ((ks.map fun x => x.2.1).map V.ref)) (fun b u e => Heap.get?_push_of_some _ e) (Nat.le_refl _) ⟨hz, acc.toList, by rw [same]; exact L2.vals_refs _, ?_⟩, rfl, q _ _ (I2.hok.fresh (Nat.le_refl _)) (isKeys_of pr)⟩
  refine ⟨_, Heap.get?_push_size _ rfl, rfl, 0, ?_⟩
  simp
/-- list(e.values()) -/
def tListVals (te : TE) : TE := fun σ H Q => te σ H fun x H1 => ∃ (d : Addr) (kvs : List (Key × V)), x = .ref d ∧ Rd H1 d (.dK kvs) ∧ ∀ p, H1 p = none → Q (.ref p) (upd H1 p (.lst (kvs.map (·.2))))
theorem pe_listVals (hc : X.calm = true) (he : PE X e te) (hg : Gl X "list") (hm : X.mg "list" = none) (hv : bootBuiltins "list" = some (.type "list")) (hbase : attributeBase e "values" X.env (eval e X.env) = eval e X.env := by rfl) (hline : (apos.endLine == cpos.line) = true := by rfl)
    (hs : starEach [.Call (.Attribute e "values" apos) [] [] cpos] X.env = (false, eval (.Call (.Attribute e "values" apos) [] [] cpos) X.env) :: starEach [] X.env := by rfl) :
    PE X (.Call (.Name "list" p) [.Call (.Attribute e "values" apos) [] [] cpos] [] pos) (tListVals te) := by
  refine ⟨fun pins s σ H Q I hq => ?_⟩
  refine wpAny_Call_Name_kw (ld_blt I hg hm hv ?_)
  refine PyProof.Rows.callWith_type1 ?_ hs rfl
  rw [hs]
  show wpAny _ _ (spliced ((false, eval (.Call (.Attribute e "values" apos) [] [] cpos) X.env) :: backTo pos (starEach [] X.env))) _ _ s
  refine Calls.spliced_cons ?_
  refine wpAny_Call_method (T := "dict") (id := "dict.values") hbase rfl hline F.plainAttrs_dict F.slot_dict_values F.type_dict_values (thn (he.run pins s σ H _ I hq) fun u s1 ⟨x, H1, I1, rx, d, kvs, ex, hd, q⟩ => ?_)
  subst ex
  obtain rfl : u = Value.ref d := rx
  obtain ⟨hz, hs0, vs, kv, hdo⟩ := dk_rd I1.hok hd
  obtain ⟨ep, hat⟩ := hdo.dictAt
  have lk : kvs.length = vs.length := Paired.length kv
  have I2 : Inv X pins σ H1 { s1 with heap := s1.heap.push { cls := .type "dict_values", data := .fields #[.ref d] } } := I1.kept (t' := s1.toks) fun b ob q => Heap.get?_push_of_some _ q
  refine ⟨hdo.typeIs, hdo.mapOf.noDict, ?_⟩
  show wpAny _ _ (callWith cpos (.builtin "dict.values") [.ref d] [] []) _ X.xe s1
  refine method_meetsIn F.slot_dict_values F.entry_dict_values rfl (PySem.evalArgs_none ⟨rfl, hdo.typeIs, F.args_dict_values_1 _, _, meets_dict_values (mixKind X.prog X.w) d hs0, ⟨vs, hdo⟩, ?_⟩)
  refine Calls.spliced_nil ?_
  refine PySem.W.kdl_call (PySem.W.kdl_values (knd := mixKind X.prog X.w) (kvs := vs) (ep := ep)) (I1.ok.hd hc) ⟨⟨_, Heap.get?_push_size _ rfl, rfl, rfl⟩, hat.push _⟩ (by omega) fun h' tk acc c kp hl it => ?_
  have hz2 : (kvs.map (·.2)).length ≤ sizeLine := by rw [List.length_map]; exact hz
  have rel : Vals (kvs.map (·.2)) acc.toList := by
    have el : acc.toList.length = acc.size := by simp
    refine vals_of_at (by rw [List.length_map, el, it.1, lk]) fun j x w h1 h2 => ?_
    obtain ⟨k, hk⟩ := it.2 j w (by rw [← Array.getElem?_toList]; exact h2)
    rw [List.getElem?_map] at h1
    obtain ⟨kx, hx, rfl⟩ := Option.map_eq_some_iff.mp h1
    obtain ⟨y, hy, _, ry⟩ := LiI.paired_get kv hx
    rw [hk] at hy
    cases hy
    exact ry
  exact ⟨.ref _, _, I2.laid (t' := tk) (o := .lst (kvs.map (·.2))) kp (Nat.le_refl _) ⟨hz2, acc.toList, c, rel, by rw [Array.toArray_toList]; exact hl⟩, rfl, q _ (I2.hok.fresh (Nat.le_refl _))⟩
end
section
variable {pn : Option Addr} {Γ : Gam} {c : Nat} {te : TE} {xs : List Str} {f : Str → MP} {ps : List (Str × Str)}
theorem fK_vals {G : Hp} : ∀ {xs : List Str} {kvs : List (Key × V)}, ZipK G (fK xs f) kvs → Zip G (xs.map f) (kvs.map (·.2))
  | [], [], _ => trivial
  | _ :: xs, _ :: kvs, h => ⟨h.1.2, fK_vals (xs := xs) (kvs := kvs) h.2⟩
  | [], _ :: _, h => h.elim
  | _ :: _, [], h => h.elim
theorem ev_listVals (h : Ev pn te Γ c (mD xs f)) : Ev pn (tListVals te) Γ c (mL (xs.map f)) := .mk fun {G H σ n} E l Q q =>
  h.run E l _ fun x G1 H1 n1 k1 p1 l1 ⟨a, od, kvs, ex, ha, z⟩ => by
    refine ⟨a, kvs, ex, .inr ⟨od, k1.gh.x ha⟩, fun p hp => ?_⟩
    have kN := Stp.new (o := .lst (kvs.map (·.2))) k1.gh hp
    obtain ⟨k4, p4⟩ := kN.pure p1
    exact q (.ref p) _ _ n1 (k1.trans0 k4) p4 l1 ⟨p, _, rfl, upd_same, (fK_vals z).mono kN.gg⟩
theorem Stp.keys {H : Hp} : ∀ {ps : List (Str × Str)} {kvs : List (List Key × V)} {bs : List Addr} {G : Hp}, Sm G H → IsKeys H kvs bs → kvs.map (·.1) = ps.map pk → ∃ G', Stp none [] G H G' H ∧ Zip G' (ps.map mPair) (bs.map V.ref)
  | [], [], [], G, e, _, _ => ⟨G, .refl e, trivial⟩
  | p :: ps, kv :: kvs, b :: bs, G, e, .cons h t, z => by
    injection z with z1 z2
    have hb : H b = some (.tup ((pk p).map kV)) := by rw [← z1]; exact h
    obtain ⟨G1, k1, g1⟩ := Stp.tup e hb
    obtain ⟨G2, k2, z3⟩ := Stp.keys k1.gh t z2
    exact ⟨G2, k1.trans0 k2, ⟨b, _, rfl, k2.gg _ _ g1, rfl, rfl, trivial⟩, z3⟩
  | [], _ :: _, _, _, _, _, z => by cases z
  | _ :: _, [], _, _, _, _, z => by cases z
def rTupDT : List V → Hp → VK → Prop := fun xs H Q => ∃ d kvs, xs = [V.ref d] ∧ Rd H d (.dT kvs) ∧ ∀ p bs, H p = none → IsKeys H kvs bs → Q (.ref p) (upd H p (.tup (bs.map V.ref)))
theorem rc_tupDT : RC rTupDT [mDT ps] (mT (ps.map mPair)) := .mk fun {G H vs} e z Q q => by
  obtain ⟨v, rfl, a, od, kvs, rfl, ha, zk⟩ := zip1 z
  refine ⟨a, kvs, rfl, .inr ⟨od, e.x ha⟩, fun p bs hp ik => ?_⟩
  obtain ⟨G1, k1, z1⟩ := Stp.keys e ik zk
  have kN := Stp.new (o := .tup (bs.map V.ref)) k1.gh hp
  exact q (.ref p) _ _ (k1.trans0 kN) ⟨p, _, rfl, upd_same, z1.mono kN.gg⟩
end
end Ev

set_option Elab.async false
set_option linter.all false
set_option maxRecDepth 100000
set_option maxHeartbeats 4000000
/-! Texts and pairs of texts in order: one arrangement each. -/
namespace Ev
open PySem PySem.Spec L2 PyProof.Rows
variable [z : Tz]
section
variable {α : Type} (O : KeyOrd) (key : α → O.α)
abbrev Rise (l : List α) : Prop := l.Pairwise fun x y => O.blt (key y) (key x) = false
theorem rise_uniq (inj : ∀ x y, key x = key y → x = y) : ∀ {l m : List α}, l.Perm m → Rise O key l → Rise O key m → l = m
  | [], m, p, _, _ => (List.nil_perm.mp p).symm
  | x :: l, [], p, _, _ => by have := p.length_eq; cases this
  | x :: l, y :: m, p, hl, hm => by
    have hl2 := List.pairwise_cons.mp hl
    have hm2 := List.pairwise_cons.mp hm
    have e : x = y := by
      rcases List.mem_cons.mp (p.mem_iff.mp (List.mem_cons_self ..)) with e | mx
      · exact e
      · rcases List.mem_cons.mp (p.mem_iff.mpr (List.mem_cons_self ..)) with e | my
        · exact e.symm
        · exact inj _ _ (O.total _ _ (hm2.1 x mx) (hl2.1 y my))
    subst e
    rw [rise_uniq inj (List.Perm.cons_inv p) hl2.2 hm2.2]
def arr (l : List α) : List α := l.mergeSort fun a b => !O.blt (key b) (key a)
theorem arr_perm (l : List α) : (arr O key l).Perm l := List.mergeSort_perm ..
theorem arr_rise (l : List α) : Rise O key (arr O key l) := by
  have h := List.pairwise_mergeSort (le := fun a b => !O.blt (key b) (key a)) (fun a b c h1 h2 => ?_) (fun a b => ?_) l
  · exact h.imp fun h => by simpa using h
  · simp only [Bool.not_eq_true'] at h1 h2 ⊢
    cases e : O.blt (key c) (key a) with
    | false => rfl
    | true =>
      rcases O.negTrans _ (key b) _ e with h | h
      · rw [h] at h2; cases h2
      · rw [h] at h1; cases h1
  · cases e : O.blt (key b) (key a) with
    | false => rfl
    | true =>
      cases e2 : O.blt (key a) (key b) with
      | false => rfl
      | true =>
        have := O.trans _ _ _ e e2
        rw [O.irrefl] at this
        cases this
end
def sKey (s : Str) : List Nat := s.cps.toList
theorem sKey_inj : ∀ x y : Str, sKey x = sKey y → x = y := fun x y h => PySem.W.str_of_cps h
abbrev sOrd : KeyOrd := strKind.toKeyOrd
/-- texts, ascending -/
def sortS (ss : List Str) : List Str := arr sOrd sKey ss
theorem rising_rise : ∀ (ss : List Str) (p : Str), risingS p ss = true → Rise sOrd sKey (p :: ss)
  | [], p, _ => List.pairwise_singleton _ _
  | x :: r, p, h => by
    unfold risingS at h
    rw [Bool.and_eq_true] at h
    have ih := rising_rise r x h.2
    have le : sOrd.blt (sKey x) (sKey p) = false := by
      have e : ltCps x.cps.toList p.cps.toList = false := by simpa using h.1
      rw [ltCps_eq] at e
      exact e
    refine List.pairwise_cons.mpr ⟨fun y m => ?_, ih⟩
    rcases List.mem_cons.mp m with rfl | m
    · exact le
    · have l2 := (List.pairwise_cons.mp ih).1 y m
      cases e : sOrd.blt (sKey y) (sKey p) with
      | false => rfl
      | true =>
        rcases sOrd.negTrans _ (sKey x) _ e with h | h
        · rw [h] at l2; cases l2
        · rw [h] at le; cases le
theorem asc_eq {ss ys : List Str} (h : Asc ss ys) : ys = sortS ss := by
  refine rise_uniq sOrd sKey sKey_inj (h.1.trans (arr_perm sOrd sKey ss).symm) ?_ (arr_rise sOrd sKey ss)
  cases ys with
  | nil => exact List.Pairwise.nil
  | cons x r => exact rising_rise r x h.2
theorem sortS_perm (ss : List Str) : (sortS ss).Perm ss := arr_perm sOrd sKey ss
theorem mAsc_of {ss : List Str} {G : Hp} {v : V} (h : (mAsc ss).pr G v) : (mStrs (sortS ss)).pr G v := by
  obtain ⟨ys, a, h⟩ := h
  rw [← asc_eq a]
  exact h
/-! ### pairs -/
def pKey (p : Str × Str) : List (Int ⊕ List Nat) := (pk p).map tokK
abbrev pOrd : KeyOrd := listOrd itemOrd
theorem pKey_inj : ∀ x y, pKey x = pKey y → x = y := fun x y h => by
  unfold pKey pk at h
  simp only [List.map_cons, List.map_nil, tokK] at h
  injection h with h1 h2
  injection h2 with h2 _
  exact Prod.ext (PySem.W.str_of_cps (Sum.inr.inj h1)) (PySem.W.str_of_cps (Sum.inr.inj h2))
def once {α : Type} [DecidableEq α] : List α → List α
  | [] => []
  | x :: l => if x ∈ l then once l else x :: once l
theorem mem_once {α : Type} [DecidableEq α] {y : α} : ∀ {l : List α}, y ∈ once l ↔ y ∈ l
  | [] => Iff.rfl
  | x :: l => by
    unfold once
    have ih := mem_once (y := y) (l := l)
    by_cases m : x ∈ l
    · rw [if_pos m, ih, List.mem_cons]
      exact ⟨.inr, fun h => h.elim (fun e => by rw [e]; exact m) id⟩
    · rw [if_neg m, List.mem_cons, List.mem_cons, ih]
theorem nodup_once {α : Type} [DecidableEq α] : ∀ l : List α, (once l).Nodup
  | [] => List.nodup_nil
  | x :: l => by
    unfold once
    by_cases m : x ∈ l
    · rw [if_pos m]
      exact nodup_once l
    · rw [if_neg m]
      exact List.nodup_cons.mpr ⟨fun h => m (mem_once.mp h), nodup_once l⟩
/-- pairs, ascending, each once -/
def sortP (qs : List (Str × Str)) : List (Str × Str) := arr pOrd pKey (once qs)
theorem mem_sortP {qs : List (Str × Str)} {p : Str × Str} : p ∈ sortP qs ↔ p ∈ qs := (arr_perm pOrd pKey _).mem_iff.trans mem_once
theorem nodup_sortP (qs : List (Str × Str)) : (sortP qs).Nodup := (arr_perm pOrd pKey _).nodup_iff.mpr (nodup_once qs)
theorem perm_of_mem {α : Type} [DecidableEq α] {l m : List α} (h1 : l.Nodup) (h2 : m.Nodup) (h : ∀ x, x ∈ l ↔ x ∈ m) : l.Perm m := (List.perm_ext_iff_of_nodup h1 h2).mpr h
theorem sortP_of {qs ps : List (Str × Str)} (nd : ps.Nodup) (mem : ∀ p, p ∈ ps ↔ p ∈ qs) (r : Rise pOrd pKey ps) : ps = sortP qs :=
  rise_uniq pOrd pKey pKey_inj (perm_of_mem nd (nodup_sortP qs) fun p => (mem p).trans mem_sortP.symm) r (arr_rise pOrd pKey _)
theorem sortP_congr {qs qs' : List (Str × Str)} (h : ∀ p, p ∈ qs ↔ p ∈ qs') : sortP qs = sortP qs' := sortP_of (nodup_sortP qs) (fun p => mem_sortP.trans (h p)) (arr_rise pOrd pKey _)
theorem length_once {α : Type} [DecidableEq α] : ∀ l : List α, (once l).length ≤ l.length
  | [] => Nat.le_refl _
  | x :: l => by
    unfold once
    have ih := length_once l
    by_cases m : x ∈ l
    · rw [if_pos m]; exact Nat.le_succ_of_le ih
    · rw [if_neg m]; exact Nat.succ_le_succ ih
theorem length_sortP (qs : List (Str × Str)) : (sortP qs).length ≤ qs.length := by
  exact Nat.le_trans (Nat.le_of_eq (arr_perm pOrd pKey (once qs)).length_eq) (length_once qs)
section
variable {pn : Option Addr} {Γ : Gam} {c : Nat} {ta : TE} {K : PySem.W.Frag} {qs : List (Str × Str)}
theorem rows_of {G : Hp} : ∀ {qs : List (Str × Str)} {vs : List V}, Zip G (qs.map mPair) vs → ∃ ks : List (Addr × List Key), vs = ks.map (fun p => V.ref p.1) ∧ ks.map (·.2) = qs.map pk ∧ ∀ p ∈ ks, G p.1 = some (.tup (p.2.map kV))
  | [], [], _ => ⟨[], rfl, rfl, fun _ m => nomatch m⟩
  | q :: qs, v :: vs, h => by
    obtain ⟨a, ws, rfl, ga, z⟩ := h.1
    obtain ⟨v1, v2, rfl, e1, e2⟩ := zip2 z
    obtain ⟨ks, e3, e4, e5⟩ := rows_of h.2
    refine ⟨(a, pk q) :: ks, by rw [List.map_cons, ← e3], by rw [List.map_cons, List.map_cons, e4], fun p m => ?_⟩
    rcases List.mem_cons.mp m with rfl | m
    · rw [show v1 = _ from e1, show v2 = _ from e2] at ga
      exact ga
    · exact e5 p m
  | [], _ :: _, h => h.elim
  | _ :: _, [], h => h.elim
theorem pairs_of {G : Hp} : ∀ {ps : List (Str × Str)} {L : List (Addr × List Key)}, L.map (·.2) = ps.map pk → (∀ r ∈ L, G r.1 = some (.tup (r.2.map kV))) → Zip G (ps.map mPair) (L.map fun r => V.ref r.1)
  | [], [], _, _ => trivial
  | p :: ps, r :: L, e, h => by
    injection e with e1 e2
    have g := h r (List.mem_cons_self ..)
    have e1 : r.2 = pk p := e1
    rw [e1] at g
    exact ⟨⟨r.1, _, rfl, g, rfl, rfl, trivial⟩, pairs_of e2 fun r m => h r (List.mem_cons_of_mem _ m)⟩
  | [], _ :: _, e, _ => by cases e
  | _ :: _, [], e, _ => by cases e
theorem all_pk {L : List (List Key)} (h : ∀ k ∈ L, ∃ q, k = pk q) : ∃ ps : List (Str × Str), L = ps.map pk := by
  induction L with
  | nil => exact ⟨[], rfl⟩
  | cons k L ih =>
    obtain ⟨q, e⟩ := h k (List.mem_cons_self ..)
    obtain ⟨ps, e2⟩ := ih fun k m => h k (List.mem_cons_of_mem _ m)
    exact ⟨q :: ps, by rw [e, e2]; rfl⟩
theorem sortSet_run {G H : Hp} {l : Addr} {vs : List V} {Q : VK} (sm : Sm G H) (hl : H l = some (.lst vs) ∨ H l = some (.tup vs)) (few : qs.length < 64) (z : Zip G (qs.map mPair) vs) (q : ∀ v G' H', Stp none [] G H G' H' → (mL ((sortP qs).map mPair)).pr G' v → Q v H') :
    ∃ (l' : Addr) (ks : List (Addr × List Key)), V.ref l = V.ref l' ∧ (SqL K H l' (ks.map fun p => V.ref p.1) ∨ SqT K H l' (ks.map fun p => V.ref p.1)) ∧ (∀ p ∈ ks, H p.1 = some (.tup (p.2.map kV)) ∧ p.2 ≠ [] ∧ ∀ q ∈ p.2, ∃ x, q = .inr x) ∧ ks.length < 64 ∧
      ∀ (L : List (Addr × List Key)) (p : Addr), (∀ r ∈ L, r ∈ ks) → (∀ r ∈ ks, r.2 ∈ L.map (·.2)) → (L.map (·.2)).Nodup → L.Pairwise (fun x y => rowLt y.2 x.2 = false) → H p = none → Q (.ref p) (upd H p (.lst (L.map fun r => V.ref r.1))) := by
  obtain ⟨ks, rfl, e2, e3⟩ := rows_of z
  have each : ∀ p ∈ ks, ∃ q ∈ qs, p.2 = pk q := fun p m => by
    have : p.2 ∈ qs.map pk := by rw [← e2]; exact List.mem_map_of_mem m
    obtain ⟨q, mq, e⟩ := List.mem_map.mp this
    exact ⟨q, mq, e.symm⟩
  have len : ks.length = qs.length := by
    have := congrArg List.length e2
    rwa [List.length_map, List.length_map] at this
  refine ⟨l, ks, rfl, hl.imp SqL.of SqT.of, fun p m => ⟨sm.x (e3 p m), ?_⟩, by omega, fun L p sub all nd rise np => ?_⟩
  · obtain ⟨q, _, e⟩ := each p m
    rw [e]
    refine ⟨fun z => (nomatch z), fun k mk => ?_⟩
    rcases List.mem_cons.mp mk with rfl | mk
    · exact ⟨_, rfl⟩
    · rw [List.mem_singleton.mp mk]
      exact ⟨_, rfl⟩
  · obtain ⟨ps, eps⟩ := all_pk (L := L.map (·.2)) fun k m => by
      obtain ⟨r, mr, rfl⟩ := List.mem_map.mp m
      obtain ⟨q, _, e⟩ := each r (sub r mr)
      exact ⟨q, e⟩
    have e : ps = sortP qs := by
      refine sortP_of ?_ (fun x => ⟨fun m => ?_, fun m => ?_⟩) ?_
      · rw [eps] at nd
        exact List.Pairwise.of_map pk (fun _ _ hne e => hne (congrArg pk e)) nd
      · have : pk x ∈ L.map (·.2) := by rw [eps]; exact List.mem_map_of_mem m
        obtain ⟨r, mr, er⟩ := List.mem_map.mp this
        obtain ⟨y, my, ey⟩ := each r (sub r mr)
        rw [pk_inj (er.symm.trans ey)]
        exact my
      · have : pk x ∈ ks.map (·.2) := by rw [e2]; exact List.mem_map_of_mem m
        obtain ⟨r, mr, er⟩ := List.mem_map.mp this
        have h2 := all r mr
        rw [er, eps] at h2
        obtain ⟨y, my, ey⟩ := List.mem_map.mp h2
        rw [← pk_inj ey]
        exact my
      · have h1 : (L.map (·.2)).Pairwise fun x y => rowLt y x = false := List.pairwise_map.mpr rise
        rw [eps] at h1
        exact List.pairwise_map.mp h1
    have kN := Stp.new (o := .lst (L.map fun r => V.ref r.1)) sm np
    refine q (.ref p) _ _ kN ⟨p, _, rfl, upd_same, ?_⟩
    rw [← e]
    exact pairs_of eps fun r m => kN.gg _ _ (e3 r (sub r m))
theorem ev_sortSetL (h : Ev pn ta Γ c (mL (qs.map mPair))) (few : qs.length < 64) : Ev pn (tSortSet K ta) Γ c (mL ((sortP qs).map mPair)) := .mk fun {G H σ n} E l Q q =>
  h.run E l _ fun x G1 H1 n1 k1 p1 l1 ⟨a, vs, ex, ha, z⟩ => by
    subst ex
    refine sortSet_run k1.gh (.inl (k1.gh.x ha)) few z fun v G' H' k s => ?_
    obtain ⟨k4, p4⟩ := k.pure p1
    exact q v G' H' n1 (k1.trans0 k4) p4 l1 s
theorem ev_sortSetT (h : Ev pn ta Γ c (mT (qs.map mPair))) (few : qs.length < 64) : Ev pn (tSortSet K ta) Γ c (mL ((sortP qs).map mPair)) := .mk fun {G H σ n} E l Q q =>
  h.run E l _ fun x G1 H1 n1 k1 p1 l1 ⟨a, vs, ex, ha, z⟩ => by
    subst ex
    refine sortSet_run k1.gh (.inr (k1.gh.x ha)) few z fun v G' H' k s => ?_
    obtain ⟨k4, p4⟩ := k.pure p1
    exact q v G' H' n1 (k1.trans0 k4) p4 l1 s
end
end Ev

set_option Elab.async false
set_option linter.all false
set_option maxRecDepth 100000
set_option maxHeartbeats 4000000
/-! xs[:k:-1]: what stands behind k, the last first. -/
namespace Ev
open PySem PySem.Spec L2 PyProof.Rows
variable [z : Tz]
theorem filterMap_at {α : Type} (f : Nat → Option α) (g : Nat → α) : ∀ l : List Nat, (∀ i ∈ l, f i = some (g i)) → l.filterMap f = l.map g
  | [], _ => rfl
  | i :: l, h => by rw [List.filterMap_cons_some (h i (List.mem_cons_self ..)), List.map_cons, filterMap_at f g l fun j m => h j (List.mem_cons_of_mem _ m)]
theorem pick_behind (items : Array Value) (k : Nat) (hk : k < items.size) : slicePick items none (some (k : Int)) (some (-1)) = (items.toList.drop (k + 1)).reverse.toArray := by
  have b : sliceBounds none (some (k : Int)) (some (-1)) items.size = ((items.size : Int) - 1, (k : Int), -1) := by
    simp [sliceBounds]
    omega
  have r : sliceRange ((items.size : Int) - 1) (k : Int) (-1) = (List.range (items.size - 1 - k)).map fun j => items.size - 1 - j := by
    unfold sliceRange
    rw [if_neg (by decide)]
    by_cases h : (items.size : Int) - 1 > k
    · rw [if_pos h]
      dsimp only
      have e : (((items.size : Int) - 1 - k - -1 - 1) / (- -1)).toNat = items.size - 1 - k := by
        rw [show (- -1 : Int) = 1 by decide, Int.ediv_one]
        omega
      rw [e]
      refine List.map_congr_left fun j m => ?_
      have := List.mem_range.mp m
      omega
    · rw [if_neg h]
      have e : items.size - 1 - k = 0 := by omega
      rw [e]
      rfl
  unfold slicePick
  rw [b]
  show ((sliceRange ((items.size : Int) - 1) (k : Int) (-1)).filterMap (items[·]?)).toArray = _
  rw [r]
  congr 1
  rw [List.filterMap_map, filterMap_at _ (fun j => items.toList.getD (items.size - 1 - j) .none) _ fun j m => ?_]
  · refine List.ext_getElem (by simp; omega) fun i h1 h2 => ?_
    rw [List.length_map, List.length_range] at h1
    have hb : items.size - 1 - i < items.toList.length := by rw [Array.length_toList]; omega
    have e : k + 1 + ((items.toList.drop (k + 1)).length - 1 - i) = items.size - 1 - i := by
      rw [List.length_drop, Array.length_toList]
      omega
    rw [List.getElem_map, List.getElem_range, List.getElem_reverse, List.getElem_drop, List.getD_eq_getElem?_getD, List.getElem?_eq_getElem hb, Option.getD_some]
    simp only [e]
  · have := List.mem_range.mp m
    show items[items.size - 1 - j]? = _
    rw [List.getD_eq_getElem?_getD, List.getElem?_eq_getElem (by rw [Array.length_toList]; omega), ← Array.getElem?_toList, List.getElem?_eq_getElem (by rw [Array.length_toList]; omega)]
    rfl
section
variable {X : Cx}
def tRevTo (K : PySem.W.Frag) (te tk : TE) : TE := fun σ H Q => te σ H fun x H1 => tk σ H1 fun y H2 => ∃ i, y = .int i ∧ ∃ (a : Addr) (xs : List V) (k : Nat), x = .ref a ∧ some i = some (k : Int) ∧ SqL K H2 a xs ∧ k < xs.length ∧ ∀ p, H2 p = none → Q (.ref p) (upd H2 p (.lst (xs.drop (k + 1)).reverse))
theorem pe_revTo {e f : Expr} {te tk : TE} {k : Nat} {p1 p2 p3 pos : Pos} (he : PE X e te) (hf : PE X f tk) : PE X (.Subscript e (.Slice none (some f) (some (.UnaryOp .USub (.Constant (.int 1) k p1) p2)) p3) pos) (tRevTo X.K te tk) := by
  refine ⟨fun pins s σ H Q I h => ?_⟩
  refine Subscript_ (thn (he.run pins s σ H _ I h) fun v s1 ⟨x, H1, I1, r1, q1⟩ => ?_)
  have stp : PO X (some (.UnaryOp .USub (.Constant (.int 1) k p1) p2)) (tPart (tUn (rU fun i => .int (-i)) (tC (.int 1)))) := po_some (pe_un un_neg pe_int)
  refine wpAny_Slice (thn (po_none.run pins s1 σ H1 (fun o H2 => o = none ∧ H2 = H1) I1 ⟨rfl, rfl⟩) fun vl s2 ⟨l, H2, I2, pl, el, e2⟩ => ?_)
  subst el e2
  have qq : tPart tk σ H2 fun o H3 => ∃ (a : Addr) (xs : List V) (k : Nat), x = .ref a ∧ o = some (k : Int) ∧ SqL X.K H3 a xs ∧ k < xs.length ∧ ∀ p, H3 p = none → Q (.ref p) (upd H3 p (.lst (xs.drop (k + 1)).reverse)) := q1
  refine thn ((po_some hf).run pins s2 σ H2 _ I2 qq) fun vu s3 ⟨u, H3, I3, pu, a, xs, n, ex, eu, hx, hn, q⟩ => ?_
  subst ex eu
  cases r1
  refine thn (stp.run pins s3 σ H3 (fun o H4 => o = some (-1) ∧ H4 = H3) I3 ⟨1, rfl, -1, rfl, rfl, rfl⟩) fun vs s4 ⟨o, H4, I4, ps, eo, e4⟩ => ?_
  subst eo e4
  have I5 : Inv X pins σ H4 { s4 with heap := s4.heap.push { cls := .type "slice", data := .fields #[vl, vu, vs] } } := I4.kept (t' := s4.toks) fun b ob q => Heap.get?_push_of_some _ q
  obtain ⟨its, r, ht, hz⟩ := I5.list hx
  have hlen := r.length
  show wpAny (model X.prog X.w) X.A (subscriptTail e (.Slice none (some f) (some (.UnaryOp .USub (.Constant (.int 1) k p1) p2)) p3) (.ref a) (.ref s4.heap.objs.size)) (EP X pins σ Q) X.xe { s4 with heap := s4.heap.push { cls := .type "slice", data := .fields #[vl, vu, vs] } }
  refine tail_any (ops := [.ref a, .ref s4.heap.objs.size]) ht.isList.typeIs (PySem.slot_list_getitem.lookup) ?_ (by with_unfolding_all rfl)
  refine wpAny_getItem_list_slice ht.isList (Heap.IsSliceOf.new _ vl vu vs) pl pu ps (by decide) ?_ (by rw [List.size_toArray]; omega)
  rw [pick_behind _ _ (by rw [List.size_toArray]; omega)]
  refine ⟨.ref _, _, I5.laid (t' := s4.toks) (o := .lst (xs.drop (n + 1)).reverse) (fun b ob q => Heap.get?_push_of_some _ q) (Nat.le_refl _) ?_, rfl, q _ (I5.hok.fresh (Nat.le_refl _))⟩
  exact ⟨by rw [List.length_reverse, List.length_drop]; omega, _, 0, (r.drop (n + 1)).reverse, Heap.get?_push_size _ rfl⟩
end
section
variable {pn : Option Addr} {Γ : Gam} {c c1 c2 : Nat} {te tk : TE} {K : PySem.W.Frag} {Ps : List MP}
theorem Zip.back {G : Hp} : ∀ {Ps : List MP} {vs : List V}, Zip G Ps vs → Zip G Ps.reverse vs.reverse
  | [], [], _ => trivial
  | _ :: _, _ :: _, h => by
    rw [List.reverse_cons, List.reverse_cons]
    exact (Zip.back h.2).app ⟨h.1, trivial⟩
  | [], _ :: _, h => h.elim
  | _ :: _, [], h => h.elim
theorem ev_revTo {k : Nat} (h : Ev pn te Γ c1 (mL Ps)) (hk : Ev pn tk Γ c2 (mV (.int k))) (lt : k < Ps.length) : Ev pn (tRevTo K te tk) Γ (c1 + c2) (mL (Ps.drop (k + 1)).reverse) := .mk fun {G H σ n} E l Q q =>
  h.run E (by omega) _ fun x G1 H1 n1 k1 p1 l1 ⟨a, vs, ex, ha, z⟩ => hk.run (E.step k1 p1) (by omega) _ fun y G2 H2 n2 k2 p2 l2 ey => by
    refine ⟨k, ey, a, vs, k, ex, rfl, SqL.of (k2.gh.x (k2.gg _ _ ha)), by rw [z.len]; exact lt, fun p hp => ?_⟩
    have kN := Stp.new (o := .lst (vs.drop (k + 1)).reverse) k2.gh hp
    obtain ⟨k4, p4⟩ := kN.pure p2
    exact q (.ref p) _ _ n2 ((k1.trans0 k2).trans0 k4) p4 (by omega) ⟨p, _, rfl, upd_same, (((z.mono (k2.gg.trans kN.gg)).drop _).back)⟩
end
end Ev

set_option Elab.async false
set_option linter.all false
set_option maxRecDepth 100000
set_option maxHeartbeats 4000000
/-! {**a, **b}: a new dict of the entries of both. -/
namespace Ev
open PySem PySem.Spec L2 PyProof.Rows
variable [z : Tz]
section
variable {P : Program} {w : World} {κ : Type} [DecidableEq κ] {knd : KeyKind P w κ} {A : Around} {E : Value → Shared → Prop} {s : Shared}
/-- one entry put in by its hash -/
theorem put_pairs {d : Addr} {kvs : List (κ × Value)} {k : κ} {key v : Value} {Q : Unit → Shared → Prop} (hk : knd.is k key = true) (D : s.heap.DictOf knd d kvs) (few : kvs.length ≤ sizeLine)
    (q : ∀ h', h'.DictOf knd d (stored kvs k v) → Heap.SameBut d s.heap h' → Q () { s with heap := h' }) : wpAny (model P w) A (dictPut d (knd.hash k) key v) Q E s := by
  obtain ⟨o, es, ep, go, ex, gd, ks, pr, nd⟩ := D
  have size : es.size ≤ sizeLine := by
    have := pr.length
    rw [Array.length_toList] at this
    omega
  have place : (es.findIdx? fun e => knd.is k e.key) = kvs.findIdx? fun kv => decide (kv.1 = k) := by
    rw [← pr.findIdx k]
    obtain ⟨l⟩ := es
    simp
  unfold dictPut
  refine wpAny_bind (wpAny_dictFind_of hk go gd ks ?_)
  cases hi : es.findIdx? fun e => knd.is k e.key with
  | some i =>
    have an := any_of_findIdx_some (place ▸ hi)
    refine wpAny_updateDict go gd (q _ ⟨_, _, ep, Heap.get?_update_self _ go (Obj.isFreed_of_dict (Obj.data_mapDict gd _)), ex.mapDict _, Obj.data_mapDict gd _, ks.modify _ _, ?_, ?_⟩ (Heap.SameBut.update ..))
    · have at_ : (es.toList.findIdx? fun e => knd.is k e.key) = some i := by
        rw [← hi]
        obtain ⟨l⟩ := es
        simp
      have m := pr.modify nd at_ v
      rw [stored, if_pos an]
      obtain ⟨l⟩ := es
      simpa using m
    · rw [stored, if_pos an, keys_map_store]
      exact nd
  | none =>
    have out : k ∉ kvs.map (·.1) := not_mem_of_findIdx_none (place ▸ hi)
    have an : ¬ (kvs.any fun kv => decide (kv.1 = k)) = true := fun a => by
      obtain ⟨kv, m, e⟩ := List.any_eq_true.mp a
      exact out (List.mem_map.mpr ⟨kv, m, of_decide_eq_true e⟩)
    refine wpAny_updateDictKeys (hz := size) go gd (q _ ⟨_, _, ep + 1, Heap.get?_update_self _ go (Obj.isFreed_of_dict (Obj.data_mapDictKeys gd _)), ex.mapDictKeys _, Obj.data_mapDictKeys gd _, ks.push hk _, ?_, ?_⟩ (Heap.SameBut.update ..))
    · have m := pr.append hk (knd.hash k) v
      rw [stored, if_neg an]
      obtain ⟨l⟩ := es
      simpa using m
    · rw [stored, if_neg an, List.map_append, List.nodup_append]
      refine ⟨nd, by simp, fun x mx y my e => out ?_⟩
      rw [show y = k by simpa using my] at e
      rw [← e]
      exact mx
/-- the entries of a plain dict at a put into the one at d -/
theorem merge_plain {d a : Addr} {kvs more : List (κ × Value)} {Q : Unit → Shared → Prop} (noRef : ∀ k v, knd.is k v = true → ∀ b, v ≠ .ref b) (da : d ≠ a) (sysm : (a == sysModules) = false) (D : s.heap.DictOf knd d kvs) (M : s.heap.DictOf knd a more) (few : kvs.length + more.length ≤ sizeLine)
    (q : ∀ h', h'.DictOf knd d (merged kvs more) → Heap.SameBut d s.heap h' → Q () { s with heap := h' }) : wpAny (model P w) A (mergeMapping d (.ref a) false) Q E s := by
  have ty : s.TypeIs (.ref a) "dict" := M.typeIs
  obtain ⟨o, es, ep, go, ex, gd, ks, pr, nd⟩ := id M
  obtain ⟨o2, es2, ep2, go2, ex2, gd2, _⟩ := id D
  have len : more.length = es.size := by
    rw [← pr.length, Array.length_toList]
  unfold mergeMapping
  refine wpAny_bind (wpAny_isInstance ty PySem.F.sub_dict_dict ?_)
  simp only [if_true]
  refine wpAny_bind (wpAny_specialOf ty PySem.F.slot_dict_iter.lookup ?_)
  try refine wpAny_bind (wpAny_pure ?_)
  rw [show ((some (Value.builtin "dict.__iter__") : Option Value) == some (.builtin "dict.__iter__")) = true from by decide]
  dsimp only
  refine wp_if_neg (by rw [sysm]; exact Bool.false_ne_true) ?_
  try refine wpAny_bind (wpAny_pure ?_)
  refine wpAny_bind (wpAny_dictEntries go2 gd2 ?_)
  -- what follows the look at the keys
  have loop : wpAny (model P w) A (do
      let size := (← dictEntries a).size
      let epoch ← dictEpoch a
      for i in List.range size do
        let some e := (← dictEntries a)[i]? | unsupported "dict.changed-during-merge"
        holding [e.key, e.val] do
          if false then
            if (← dictFind d e.key e.hash).isSome then rule "dict.merge.duplicate-key"; raiseNew (← newExc (.type "KeyError") [e.key])
          dictPut d e.hash e.key e.val
        if (← dictEpoch a) != epoch then unsupported "dict.changed-during-merge") Q E s := by
    refine wpAny_bind (wpAny_dictEntries go gd ?_)
    refine wpAny_bind (wpAny_dictEpoch go gd ?_)
    refine wpAny_bind ?_
    refine wpAny_forIn_list _ (fun rest _ s' => ∃ h' i, s' = { s with heap := h' } ∧ rest = List.range' i (es.size - i) ∧ i ≤ es.size ∧ h'.DictOf knd d (merged kvs (more.take i)) ∧ h'.get? a = some o ∧ Heap.SameBut d s.heap h') _ ?_ ?_ (List.range es.size) _ ?start
    case start => exact ⟨s.heap, 0, rfl, by rw [List.range_eq_range', Nat.sub_zero], Nat.zero_le _, by simpa [merged] using D, go, Heap.SameBut.refl _ _⟩
    · rintro x rest u s' ⟨h', i, rfl, er, hi, D', go', sb⟩
      have lt : i < es.size := by
        rcases Nat.lt_or_ge i es.size with h | h
        · exact h
        · rw [Nat.sub_eq_zero_of_le h] at er; cases er
      have en : es.size - i = (es.size - (i + 1)) + 1 := by omega
      rw [en, List.range'_succ] at er
      injection er with e1 e2
      subst e1
      refine wpAny_bind (wpAny_dictEntries go' gd ?_)
      rw [Array.getElem?_eq_getElem lt]
      obtain ⟨⟨k, v⟩, hkv⟩ : ∃ kv, more[x]? = some kv := ⟨more[x]'(by rw [len]; exact lt), List.getElem?_eq_getElem _⟩
      obtain ⟨hk, hv⟩ := pr.get? (e := es[x]) (by simp [lt]) hkv
      obtain ⟨k', hk', hh⟩ := ks es[x] (Array.getElem_mem lt)
      obtain rfl : k' = k := knd.inj _ _ _ hk' hk
      dsimp only
      simp only [Bool.false_eq_true, if_false]
      rw [hh, hv]
      have few2 : (merged kvs (more.take x)).length ≤ sizeLine := by
        have a1 := merged_length_le kvs (more.take x)
        have a2 : (more.take x).length ≤ more.length := by rw [List.length_take]; omega
        omega
      refine wpAny_bind (wpAny_holding (put_pairs hk D' few2 fun h2 D2 sb2 => ?_))
      have go2' : h2.get? a = some o := (sb2.2 a (Ne.symm da)).trans go'
      refine wpAny_bind (wpAny_dictEpoch go2' gd ?_)
      refine wp_if_neg (by simp) ?_
      exact wpAny_pure ⟨h2, x + 1, rfl, e2, lt, by rw [merged_take_succ kvs more x (k', v) hkv]; exact D2, go2', sb.trans sb2⟩
    · rintro u s' ⟨h', i, rfl, er, hi, D', go', sb⟩
      have e : i = es.size := by
        rcases Nat.lt_or_ge i es.size with h | h
        · have en : es.size - i = (es.size - (i + 1)) + 1 := by omega
          rw [en, List.range'_succ] at er
          cases er
        · exact Nat.le_antisymm hi h
      rw [e, ← len, List.take_length] at D'
      exact wpAny_pure (q h' D' sb)
  by_cases emp : es2.isEmpty = true
  · refine wp_if_pos emp ?_
    refine wpAny_bind (wpAny_dictEntries go gd ?_)
    refine wpAny_bind ?_
    rw [← Array.forIn_toList]
    refine wpAny_forIn_list _ (fun rest _ s' => s' = s ∧ ∀ e ∈ rest, e ∈ es.toList) _ ?_ ?_ _ _ ⟨rfl, fun _ m => m⟩
    · rintro e rest u s' ⟨rfl, all⟩
      obtain ⟨k, hk, _⟩ := ks e (by simpa using all e (List.mem_cons_self ..))
      have nr := noRef k e.key hk
      split
      · rename_i b eb
        exact absurd eb (nr b)
      · exact wpAny_pure ⟨rfl, fun e' m => all e' (List.mem_cons_of_mem _ m)⟩
    · rintro u s' ⟨rfl, _⟩
      exact loop
  · exact wp_if_neg emp loop
end
end Ev

set_option Elab.async false
set_option linter.all false
set_option maxRecDepth 100000
set_option maxHeartbeats 4000000
namespace Ev
open PySem PySem.Spec L2 PyProof.Rows
variable [z : Tz]
theorem mix_noRef {P : Program} {w : World} : ∀ (k : Key) (v : Value), (mixKind P w).is k v = true → ∀ b, v ≠ .ref b := fun k v e b z => by
  rcases keyIs_shape (k := k) (v := v) e with ⟨i, t, _, rfl⟩ | ⟨x, t, _, rfl⟩ <;> cases z
section
variable {X : Cx}
/-- the entries of the dict at a go into one's own at D -/
theorem merge_run {pins : List (Addr × Obj)} {σ : L2.St} {H : Hp} {s : Shared} {D a : Addr} {kvs more : List (Key × V)} {E : Value → Shared → Prop} {Q : Unit → Shared → Prop} (I : Inv X pins σ H s) (hD : H D = some (.dK kvs)) (ha : Rd H a (.dK more)) (ne : D ≠ a) (few : kvs.length + more.length ≤ 200000)
    (q : ∀ s', Inv X pins σ (upd H D (.dK (mergeK kvs more))) s' → Q () s') : wpAny (model X.prog X.w) X.A (mergeMapping D (.ref a) false) Q E s := by
  obtain ⟨z1, y1, vs, r1, d1⟩ := dk_of I.hok hD
  obtain ⟨z2, y2, ws, r2, d2⟩ := dk_rd I.hok ha
  have l1 := r1.length
  have l2 := r2.length
  refine merge_plain mix_noRef ne y2 d1 d2 (by rw [sizeLine_eq]; omega) fun h' dd sb => q _ ?_
  have there : ∃ u, h'.get? D = some u := let ⟨u, _, _, hu, _⟩ := dd; ⟨u, hu⟩
  refine d_write I (by rw [hD]; exact True.intro) sb there (dk_new ?_ y1 (KV.merge r2 r1) dd)
  have := length_mergeK more kvs
  rw [sizeLine_eq]
  omega
/-- {**a, **b} -/
def tStar2 (ta tb : TE) : TE := fun σ H Q => ∀ D, H D = none → ta σ (upd H D (.dK [])) fun x H1 => ∃ a more, x = .ref a ∧ Rd H1 a (.dK more) ∧ H1 D = some (.dK []) ∧ D ≠ a ∧ more.length ≤ 100000 ∧
  tb σ (upd H1 D (.dK (mergeK [] more))) fun y H2 => ∃ b rest, y = .ref b ∧ Rd H2 b (.dK rest) ∧ H2 D = some (.dK (mergeK [] more)) ∧ D ≠ b ∧ rest.length ≤ 100000 ∧ Q (.ref D) (upd H2 D (.dK (mergeK (mergeK [] more) rest)))
theorem pe_star2 {a b : Expr} {ta tb : TE} {pos : Pos} (ha : PE X a ta) (hb : PE X b tb) : PE X (.Dict [none, none] [a, b] pos) (tStar2 ta tb) := by
  refine ⟨fun pins s σ H Q I h => ?_⟩
  rw [arm_eval_Dict]
  refine wpAny_bind (wpAny_standAt ?_)
  have e1 : (evalEachOpt [none, none] X.env).zip ((evalEach [a, b] X.env).map fun v => do let x ← v; standAt pos; pure x) = [(none, do let x ← eval a X.env; standAt pos; pure x), (none, do let x ← eval b X.env; standAt pos; pure x)] := rfl
  rw [e1]
  unfold dictDisplay
  simp only [List.forIn_cons, List.forIn_nil, List.isEmpty_nil, if_true, pure_bind, bind_assoc]
  refine wpAny_bind (wpAny_alloc ?_)
  generalize hDe : s.heap.objs.size = D
  have nD : H D = none := I.hok.fresh (Nat.le_of_eq hDe)
  have I1 : Inv X pins σ (upd H D (.dK [])) { s with heap := s.heap.push { cls := .type "dict", data := .dict #[] } } := by
    rw [← hDe]
    exact I.laid (t' := s.toks) (fun c o e => Heap.get?_push_of_some _ e) (Nat.le_refl _) (dk_empty s.heap I.big)
  refine wpAny_bind (wpAny_holding (wpAny_bind (thn (ha.run pins _ σ _ _ I1 (h D nD)) fun xv s1 ⟨x, H1, J1, rx, q1⟩ => wpAny_bind (wpAny_standAt (wpAny_pure ?_)))))
  obtain ⟨a', more, rfl, rd, hD1, ne, few, q2⟩ := q1
  cases rx
  refine wpAny_bind (wpAny_onRaise (wpAny_tryCatch (wpAny_onRaise (wpAny_holding (merge_run J1 hD1 rd ne (by show 0 + more.length ≤ 200000; omega) fun s2 J2 => ?_)))))
  refine wpAny_bind (wpAny_holding (wpAny_bind (thn (hb.run pins _ σ _ _ J2 q2) fun yv s3 ⟨y, H2, J3, ry, q3⟩ => wpAny_bind (wpAny_standAt (wpAny_pure ?_)))))
  obtain ⟨b', rest, rfl, rd2, hD2, ne2, few2, q4⟩ := q3
  cases ry
  refine wpAny_bind (wpAny_onRaise (wpAny_tryCatch (wpAny_onRaise (wpAny_holding (merge_run J3 hD2 rd2 ne2 ?_ fun s4 J4 => wpAny_pure ⟨.ref D, _, J4, rfl, q4⟩)))))
  have := length_mergeK more []
  have e : ([] : List (Key × V)).length = 0 := rfl
  omega
end
end Ev

set_option Elab.async false
set_option linter.all false
set_option maxRecDepth 100000
set_option maxHeartbeats 4000000
/-! Rules by cases; isinstance; what the program's own text asks of built-ins. -/
namespace Ev
open PySem PySem.Spec L2
variable [z : Tz]
section
variable {X : Cx}
def iOr (w1 w2 : TI) : TI := fun σ H R => w1 σ H R ∨ w2 σ H R
theorem pi_or {tg e : Expr} {w1 w2 : TI} (h1 : PI X tg e w1) (h2 : PI X tg e w2) : PI X tg e (iOr w1 w2) := ⟨fun pins s σ H R I h => h.elim (h1.run pins s σ H R I) (h2.run pins s σ H R I)⟩
end
/-- built-ins that are still built-ins -/
structure Bo (mg : Str → Option Value) : Prop where
  isinstance : mg "isinstance" = none
  str : mg "str" = none
  set : mg "set" = none
  sorted : mg "sorted" = none
  tuple : mg "tuple" = none
  list : mg "list" = none
  max : mg "max" = none
  min : mg "min" = none
  len : mg "len" = none
section
variable {pn : Option Addr} {Γ : Gam} {c c1 : Nat} {K : PySem.W.Frag} {w1 w2 : TI} {L : List MP → Prop} {s : Str} {ty te : TE}
theorem ei_or1 (h : EvI pn w1 Γ c L) : EvI pn (iOr w1 w2) Γ c L := .mk fun E l R r => .inl (h.run E l R r)
theorem ei_or2 (h : EvI pn w2 Γ c L) : EvI pn (iOr w1 w2) Γ c L := .mk fun E l R r => .inr (h.run E l R r)
theorem rc_isiS : RC (rIsi K) [mS s, mV (.ty "str")] (mV (.bl true)) := .mk fun {G H vs} e z Q q => by
  obtain ⟨v, u, rfl, h1, h2⟩ := zip2 z
  refine ⟨.str s, .ty "str", .type "str", .type "str", true, by rw [show v = _ from h1, show u = _ from h2], .ty "str", ?_, kit_ty (by decide +kernel), q _ _ _ (.refl e) rfl⟩
  exact .base (.str s)
theorem ev_inDk {ws : List (Str × Int)} {td : TE} (hy : Ev pn ty Γ c1 (mS s)) (hd : Ev pn td Γ c (mDk ws)) : Ev pn (tDIn ty td) Γ (c1 + c) (mV (.bl (look ws s).isSome)) := .mk fun E l Q q =>
  hy.run E (by omega) _ fun y G1 H1 n1 k1 p1 l1 sy => hd.run (E.step k1 p1) (by omega) _ fun x G2 H2 n2 k2 p2 l2 sx => by
    obtain ⟨a, rfl, ha⟩ := sx
    obtain rfl : y = .str s := sy
    refine ⟨a, _, rfl, .inl ⟨dkv ws, .inr s, k2.gh.rd ha, rfl, rfl⟩, q _ _ _ n2 (k1.trans0 k2) p2 (by omega) ?_⟩
    show _ = _
    rw [val_dkv, Option.isSome_map]
end
section
variable {pn : Option Addr} {Γ : Gam} {c c1 c2 : Nat} {K : PySem.W.Frag} {ta tb td ty : TE} {s : Str}
theorem ev_andB {a b : Bool} (ha : Ev pn ta Γ c1 (mV (.bl a))) (hb : a = true → Ev pn tb Γ c2 (mV (.bl b))) : Ev pn (tAndV ta tb) Γ (c1 + c2) (mV (.bl (a && b))) := .mk fun E l Q q =>
  ha.run E (by omega) _ fun x G1 H1 n1 k1 p1 l1 ex => by
    refine ⟨a, ex, ?_⟩
    cases a with
    | true =>
      rw [if_pos rfl]
      refine (hb rfl).run (E.step k1 p1) (by omega) Q fun v G2 H2 n2 k2 p2 l2 ev => q v G2 H2 n2 (k1.trans0 k2) p2 (by omega) ?_
      show v = _
      rw [show v = _ from ev]
      rfl
    | false =>
      rw [if_neg (by decide)]
      exact q _ G1 H1 n1 k1 p1 (by omega) rfl
/-- what says of a text whether it is a key, the keys known -/
def DIn (S : MP) (ks : List Str) : Prop := ∀ {pn : Option Addr} {Γ : Gam} {c1 c2 : Nat} {ty td : TE} {s : Str}, Ev pn ty Γ c1 (mS s) → Ev pn td Γ c2 S → Ev pn (tDIn ty td) Γ (c1 + c2) (mV (.bl (decide (s ∈ ks))))
theorem din_F {xs : List Str} {f : Str → MP} : DIn (mD xs f) xs := fun hy hd => ev_inF hy hd
theorem look_isSome (s : Str) : ∀ ws : List (Str × Int), (look ws s).isSome = decide (s ∈ ws.map (·.1))
  | [] => rfl
  | p :: ws => by
    have ih := look_isSome s ws
    unfold look at ih ⊢
    by_cases e : p.1 = s
    · simp [List.find?_cons, e]
    · have e' : ¬ s = p.1 := fun z => e z.symm
      simp only [List.find?_cons, e, decide_false, List.map_cons, List.mem_cons, e', false_or]
      exact ih
theorem din_Dk {ws : List (Str × Int)} : DIn (mDk ws) (ws.map (·.1)) := fun {pn Γ c1 c2 ty td s} hy hd => by
  rw [← look_isSome]
  exact ev_inDk hy hd
end
end Ev

set_option Elab.async false
set_option linter.all false
set_option maxRecDepth 100000
set_option maxHeartbeats 4000000
/-! found = {}; for item in items: found[item] = []; for one, other in pairs: found[one].append(other); return found -/
namespace Ev
open PySem PySem.Spec L2
variable [z : Tz]
/-- a walk told by what the heap keeps -/
theorem forRaw {J : It} {g : TG} {tb : TS} {D : Ends} {σ : L2.St} {H1 : Hp} {n : Nat} (Old : Hp → Prop) (Y : Nat → V → Hp → Prop) (I : Nat → L2.St → Hp → Prop) (hgo : ∀ i H, Old H → i < n → J.go i H) (hy : ∀ i H x H', Old H → i < n → J.yld i H x H' → H' = H ∧ Y i x H) (hstop : ∀ H, Old H → J.stop n H)
    (hold : ∀ i σ H, I i σ H → Old H) (h0 : I 0 σ H1) (hs : ∀ i x σ H, i < n → I i σ H → Y i x H → g x σ H fun σ2 H2 => tb { D with nx := I (i + 1), ct := I (i + 1), bk := D.nx } σ2 H2) (hd : ∀ σ H, I n σ H → D.nx σ H) :
    ∃ W : Nat → Nat → L2.St → Hp → Prop, (∃ m, W 0 m σ H1) ∧ ∀ i m σ H, W i m σ H → (J.stop i H ∧ D.nx σ H) ∨ (J.go i H ∧ ∃ N : L2.St → Hp → Prop, (∀ σ' H', N σ' H' → ∃ m', m' < m ∧ W (i + 1) m' σ' H') ∧ ∀ x H', J.yld i H x H' → g x σ H' fun σ2 H2 => tb { D with nx := N, ct := N, bk := D.nx } σ2 H2) := by
  refine ⟨fun i m σ H => m = n - i ∧ i ≤ n ∧ I i σ H, ⟨n, by simp, Nat.zero_le _, h0⟩, ?_⟩
  rintro i m σ H ⟨rfl, hi, k⟩
  have o := hold _ _ _ k
  by_cases lt : i < n
  · refine .inr ⟨hgo i H o lt, I (i + 1), fun σ' H' k' => ⟨n - (i + 1), by omega, rfl, lt, k'⟩, fun x H' y => ?_⟩
    obtain ⟨rfl, y'⟩ := hy i H x H' o lt y
    exact hs i x σ H' lt k y'
  · obtain rfl : i = n := by omega
    exact .inl ⟨hstop H o, hd σ H k⟩
/-- what a text leads to -/
def lks (ps : List (Str × Str)) (s : Str) : List Str := (ps.filter fun p => decide (p.1 = s)).map (·.2)
theorem lks_snoc (ps : List (Str × Str)) (p : Str × Str) (s : Str) : lks (ps ++ [p]) s = lks ps s ++ if s = p.1 then [p.2] else [] := by
  unfold lks
  rw [List.filter_append, List.map_append]
  by_cases e : p.1 = s
  · simp [e]
  · have e' : ¬ s = p.1 := fun z => e z.symm
    simp [e, e']
theorem mem_lks {ps : List (Str × Str)} {s t : Str} : t ∈ lks ps s ↔ (s, t) ∈ ps := by
  unfold lks
  rw [List.mem_map]
  constructor
  · rintro ⟨⟨a, b⟩, h, rfl⟩
    obtain ⟨h1, h2⟩ := List.mem_filter.mp h
    have : a = s := of_decide_eq_true h2
    rw [← this]
    exact h1
  · exact fun h => ⟨(s, t), List.mem_filter.mpr ⟨h, decide_eq_true rfl⟩, rfl⟩
structure Lk (H0 H : Hp) (d : Addr) (xs : List Str) (b : Str → Addr) (L : Str → List Str) : Prop where
  dict : H d = some (.dK (xs.map fun s => (.inr s, .ref (b s))))
  lists : ∀ s ∈ xs, H (b s) = some (.lst ((L s).map V.str))
  inj : ∀ s ∈ xs, ∀ t ∈ xs, b s = b t → s = t
  newd : H0 d = none
  newb : ∀ s ∈ xs, H0 (b s) = none
  old : ∀ a o, H0 a = some o → H a = some o
theorem Lk.ne {H0 H : Hp} {d : Addr} {xs : List Str} {b : Str → Addr} {L : Str → List Str} (k : Lk H0 H d xs b L) {s : Str} (m : s ∈ xs) : b s ≠ d := ne_of (k.lists s m) k.dict fun z => nomatch z
theorem val_keys {b : Str → Addr} {s : Str} : ∀ {xs : List Str}, s ∈ xs → valV (xs.map fun s => ((.inr s : Key), (.ref (b s) : V))) (.inr s) = some (.ref (b s))
  | x :: xs, m => by
    by_cases e : x = s
    · subst e
      exact valV_pos rfl
    · rw [List.map_cons, valV_neg (fun z => e (Sum.inr.inj z))]
      exact val_keys ((List.mem_cons.mp m).resolve_left fun z => e z.symm)
theorem Lk.more {H0 H : Hp} {d p : Addr} {xs : List Str} {b : Str → Addr} {s : Str} (k : Lk H0 H d xs b fun _ => []) (hs : s ∉ xs) (hp : H p = none) : Lk H0 (upd (upd H p (.lst [])) d (.dK (putK (xs.map fun s => (.inr s, .ref (b s))) (.inr s) (.ref p)))) d (xs ++ [s]) (fun t => if t = s then p else b t) fun _ => [] := by
  have p0 : H0 p = none := by
    cases e : H0 p with
    | none => rfl
    | some o => rw [k.old p o e] at hp; cases hp
  have np : p ≠ d := fun z => by rw [z, k.dict] at hp; cases hp
  have nb : ∀ t ∈ xs, b t ≠ p := fun t m z => by
    have := k.lists t m
    rw [z, hp] at this
    cases this
  have put : putK (xs.map fun s => ((.inr s : Key), (.ref (b s) : V))) (.inr s) (.ref p) = (xs ++ [s]).map fun t => (.inr t, .ref (if t = s then p else b t)) := by
    unfold putK
    rw [if_neg fun a => ?_]
    · rw [List.map_append]
      refine congr (congrArg _ (List.map_congr_left fun t m => ?_)) ?_
      · rw [if_neg (fun z : t = s => hs (by rw [← z]; exact m))]
      · simp
    · obtain ⟨q, mq, eq⟩ := List.any_eq_true.mp a
      obtain ⟨t, mt, rfl⟩ := List.mem_map.mp mq
      have := Sum.inr.inj (of_decide_eq_true eq)
      exact hs (by rw [← this]; exact mt)
  rw [put]
  have old : ∀ t ∈ xs, t ≠ s := fun t m z => hs (by rw [← z]; exact m)
  refine ⟨upd_same, fun t m => ?_, fun t m u mu e => ?_, k.newd, fun t m => ?_, fun a o e => ?_⟩
  · rcases List.mem_append.mp m with m | m
    · simp only [if_neg (old t m)]
      rw [upd_ne (k.ne m), upd_ne (nb t m)]
      exact k.lists t m
    · obtain rfl := List.mem_singleton.mp m
      simp only [if_true]
      rw [upd_ne np, upd_same]
      rfl
  · rcases List.mem_append.mp m with m1 | m1 <;> rcases List.mem_append.mp mu with m2 | m2
    · simp only [if_neg (old t m1), if_neg (old u m2)] at e
      exact k.inj t m1 u m2 e
    · have e2 := List.mem_singleton.mp m2
      simp only [if_neg (old t m1), if_pos e2] at e
      exact absurd e (nb t m1)
    · have e2 := List.mem_singleton.mp m1
      simp only [if_neg (old u m2), if_pos e2] at e
      exact absurd e.symm (nb u m2)
    · rw [List.mem_singleton.mp m1, List.mem_singleton.mp m2]
  · rcases List.mem_append.mp m with m | m
    · simp only [if_neg (old t m)]
      exact k.newb t m
    · obtain rfl := List.mem_singleton.mp m
      simp only [if_true]
      exact p0
  · rw [upd_ne (fun z => by rw [z, k.newd] at e; cases e), upd_ne (fun z => by rw [z, p0] at e; cases e)]
    exact k.old a o e
theorem Lk.add {H0 H : Hp} {d : Addr} {xs : List Str} {b : Str → Addr} {L : Str → List Str} {s t : Str} (k : Lk H0 H d xs b L) (hs : s ∈ xs) : Lk H0 (upd H (b s) (.lst ((L s ++ [t]).map V.str))) d xs b fun u => L u ++ if u = s then [t] else [] := by
  refine ⟨?_, fun u m => ?_, k.inj, k.newd, k.newb, fun a o e => ?_⟩
  · rw [upd_ne (k.ne hs).symm]
    exact k.dict
  · by_cases e : u = s
    · subst e
      rw [upd_same, if_pos rfl]
    · rw [upd_ne (fun z => e (k.inj u m s hs z)), if_neg e, List.append_nil]
      exact k.lists u m
  · rw [upd_ne (fun z => by rw [z, k.newb s hs] at e; cases e)]
    exact k.old a o e
section
variable {K : PySem.W.Frag} {xs : List Str} {f : Str → MP} {ps : List (Str × Str)}
/-- the pairs as they are handed in: a locked dict's keys, or a list -/
inductive PairsIn (ps : List (Str × Str)) : MP → Prop
  | dict : PairsIn ps (mDT ps)
  | list : PairsIn ps (mL (ps.map mPair))
theorem sx_links {S : MP} (hS : PairsIn ps S) (nd : xs.Nodup) (hx : xs.length < 100000) (hp : ps.length < 100000) (mem : ∀ p ∈ ps, p.1 ∈ xs) :
    Sx none (tSeq (tAsg tDNewK (gName 2)) (tSeq (tFor (iKeys (tVar 0)) (gName 3) (sDPut (tVar 2) (tVar 3) (tLst tNil))) (tSeq (tFor (iOr (iKeys (tVar 1)) (iList K (tVar 1))) (gTup K 2 (gCons (gName 4) (gCons (gName 5) gNil))) (tDrop (tBM K "list" rAppend (tDGet (tVar 2) (tVar 4)) (tCons (tVar 5) tNil)))) (tRet (tFrz (tVar 2))))))
      [.im (mD xs f), .im S, .no, .no, .no, .no] 0 (endO (mD xs fun s => mL ((lks ps s).map mS))) := .mk fun {G H σ n} D E l q1 q2 q3 q4 => by
  obtain ⟨σ0, σ1, σ2, σ3, σ4, σ5, rfl⟩ : ∃ a b c d e f, σ = [a, b, c, d, e, f] := by
    have := E.sl.len
    match σ, this with
    | [a, b, c, d, e, f], _ => exact ⟨a, b, c, d, e, f, rfl⟩
  obtain ⟨⟨v0, rfl, s0⟩, ⟨v1, rfl, s1⟩, _⟩ := E.sl
  obtain ⟨a0, od, kvs, rfl, ha0, z0⟩ := s0
  have hH0 := E.gh.x ha0
  intro d hd
  have lk0 : Lk H (upd H d (.dK [])) d [] (fun _ => d) fun _ => [] := ⟨upd_same, fun _ m => (nomatch m), fun _ m => (nomatch m), hd, fun _ m => (nomatch m), fun a o e => by rw [upd_ne (ne_of_none e hd)]; exact e⟩
  have lenK : kvs.length = xs.length := by rw [z0.len]; unfold fK; rw [List.length_map]
  refine ⟨.ref a0, rfl, a0, od, rfl, .inl ⟨kvs, lk0.old _ _ hH0, ?_⟩⟩
  refine forRaw (n := xs.length) (Old := fun H' => ∀ a o, H a = some o → H' a = some o) (Y := fun i x _ => ∃ s, xs[i]? = some s ∧ x = .str s) (I := fun i σ H' => (∃ t3, σ = [some (.ref a0), some v1, some (.ref d), t3, σ4, σ5]) ∧ ∃ b, Lk H H' d (xs.take i) b fun _ => [])
    (fun i H' o lt => ⟨o _ _ hH0, by omega⟩) (fun i H' x H'' o lt y => ?_) (fun H' o => ⟨o _ _ hH0, by omega⟩) (fun i σ H' k => k.2.choose_spec.old) ⟨⟨σ3, rfl⟩, _, lk0⟩ (fun i x σ H' lt k y => ?_) (fun σ H' k => ?_)
  · obtain ⟨rfl, k, v, e, rfl⟩ := y
    have e2 : xs[i]? = some xs[i] := List.getElem?_eq_getElem lt
    have e3 : (fK xs f)[i]? = some (xs[i], f xs[i]) := by unfold fK; rw [List.getElem?_map, e2]; rfl
    obtain ⟨w, e4, _⟩ := z0.get e3
    rw [e] at e4
    cases e4
    exact ⟨rfl, xs[i], e2, rfl⟩
  · obtain ⟨⟨t3, rfl⟩, b, lk⟩ := k
    obtain ⟨s, hs, rfl⟩ := y
    have notin : s ∉ xs.take i := fun m => by
      have sp := split_at hs
      rw [sp] at nd
      exact (List.nodup_append.mp nd).2.2 s m s (List.mem_cons_self ..) rfl
    refine ⟨by show 0 ≤ sizeLine; decide, fun p np => ?_⟩
    refine ⟨.ref d, rfl, .str s, rfl, d, _, rfl, DPut.k (k := .inr s) (by rw [upd_ne (fun z => by rw [← z, lk.dict] at np; cases np)]; exact lk.dict) ?_, ⟨_, rfl⟩, fun t => if t = s then p else b t, ?_⟩
    · rw [List.length_map, List.length_take]
      exact Nat.lt_of_le_of_lt (Nat.min_le_right _ _) (Nat.lt_of_lt_of_le hx (by decide))
    · rw [take_succ hs]
      exact lk.more notin np
  · obtain ⟨⟨t3, rfl⟩, b, lk⟩ := k
    rw [List.take_length] at lk
    -- the pairs
    have rest : ∀ J : It, (∀ i H', (∀ a o, H a = some o → H' a = some o) → i < ps.length → J.go i H') → (∀ i H' x H'', (∀ a o, H a = some o → H' a = some o) → i < ps.length → J.yld i H' x H'' → H'' = H' ∧ ∃ a p, ps[i]? = some p ∧ x = .ref a ∧ H' a = some (.tup [.str p.1, .str p.2])) → (∀ H', (∀ a o, H a = some o → H' a = some o) → J.stop ps.length H') →
        ∃ W : Nat → Nat → L2.St → Hp → Prop, (∃ m, W 0 m [some (.ref a0), some v1, some (.ref d), t3, σ4, σ5] H') ∧ ∀ i m σ H, W i m σ H → (J.stop i H ∧ (tRet (tFrz (tVar 2)) D) σ H) ∨ (J.go i H ∧ ∃ N : L2.St → Hp → Prop, (∀ σ' H', N σ' H' → ∃ m', m' < m ∧ W (i + 1) m' σ' H') ∧ ∀ x H', J.yld i H x H' → gTup K 2 (gCons (gName 4) (gCons (gName 5) gNil)) x σ H' fun σ2 H2 => tDrop (tBM K "list" rAppend (tDGet (tVar 2) (tVar 4)) (tCons (tVar 5) tNil)) { D with nx := N, ct := N, bk := (tRet (tFrz (tVar 2)) D) } σ2 H2) := by
      intro J j1 j2 j3
      refine forRaw (D := { D with nx := tRet (tFrz (tVar 2)) D }) (n := ps.length) (Old := fun H' => ∀ a o, H a = some o → H' a = some o) (Y := fun i x H' => ∃ a p, ps[i]? = some p ∧ x = .ref a ∧ H' a = some (.tup [.str p.1, .str p.2])) (I := fun i σ H' => (∃ t3 t4 t5, σ = [some (.ref a0), some v1, some (.ref d), t3, t4, t5]) ∧ Lk H H' d xs b fun s => lks (ps.take i) s)
        j1 j2 j3 (fun i σ H' k => k.2.old) ⟨⟨_, _, _, rfl⟩, lk⟩ (fun i x σ H' lt k y => ?_) (fun σ H' k => ?_)
      · obtain ⟨⟨u3, u4, u5, rfl⟩, lk'⟩ := k
        obtain ⟨a, p, hp', rfl, ha⟩ := y
        have m1 := mem p (List.mem_of_getElem? hp')
        refine ⟨a, _, rfl, SqT.of ha, rfl, .str p.1, _, rfl, .str p.2, _, rfl, rfl, ?_⟩
        refine ⟨.ref d, rfl, .str p.1, rfl, d, .ref (b p.1), rfl, ?_, ?_, .str p.2, rfl, b p.1, _, .str p.2, rfl, rfl, lk'.lists _ m1, ?_, ⟨_, _, _, rfl⟩, ?_⟩
        · have := DGet.k (k := .inr p.1) lk'.dict
          rw [val_keys m1] at this
          exact this
        · exact .inl ⟨rfl, _, SqL.of (lk'.lists _ m1)⟩
        · rw [List.length_map]
          refine Nat.lt_of_le_of_lt (m := 100000) ?_ (by decide)
          unfold lks
          rw [List.length_map]
          have h1 := List.length_filter_le (fun q : Str × Str => decide (q.1 = p.1)) (ps.take i)
          rw [List.length_take] at h1
          omega
        · have := lk'.add (t := p.2) m1
          rw [take_succ hp']
          simp only [lks_snoc]
          rw [List.map_append] at this
          exact this
      · obtain ⟨⟨u3, u4, u5, rfl⟩, lk'⟩ := k
        rw [List.take_length] at lk'
        refine ⟨.ref d, rfl, d, _, rfl, lk'.dict, trivial, fun od' => ?_⟩
        -- what never changes from here on
        have gd : G d = none := E.gh.free hd
        have gb : ∀ s ∈ xs, G (b s) = none := fun s m => E.gh.free (lk'.newb s m)
        let HE := upd H' d (.frz od' (.dK (xs.map fun s => (.inr s, .ref (b s)))))
        let G' : Hp := fun a => match G a with
          | some o => some o
          | none => if a = d ∨ ∃ s ∈ xs, a = b s then HE a else none
        have same : Same G G' := fun a o e => by show (match G a with | some o => some o | none => _) = _; rw [e]
        have gG : ∀ a, G a = none → (a = d ∨ ∃ s ∈ xs, a = b s) → G' a = HE a := fun a e h => by show (match G a with | some o => some o | none => _) = _; rw [e]; exact if_pos h
        have gN : ∀ a, G a = none → ¬ (a = d ∨ ∃ s ∈ xs, a = b s) → G' a = none := fun a e h => by show (match G a with | some o => some o | none => _) = _; rw [e]; exact if_neg h
        have oldE : ∀ a o, H a = some o → HE a = some o := fun a o e => by
          show upd _ _ _ _ = _
          rw [upd_ne (ne_of_none e hd)]
          exact lk'.old a o e
        have fresh : ∀ a, (a = d ∨ ∃ s ∈ xs, a = b s) → H a = none := fun a h => by
          rcases h with rfl | ⟨s, m, rfl⟩
          · exact hd
          · exact lk'.newb s m
        have kS : Stp none [] G H G' HE := .of5 ⟨same, fun a o e => by
          by_cases h : a = d ∨ ∃ s ∈ xs, a = b s
          · have g0 : G a = none := E.gh.free (fresh a h)
            rw [gG a g0 h] at e
            exact .inl e
          · cases g0 : G a with
            | none => rw [gN a g0 h] at e; cases e
            | some u =>
              have := same a u g0
              rw [this] at e
              cases e
              rcases E.gh a o g0 with e1 | ⟨od2, kv2, e1, e2⟩
              · exact .inl (oldE a o e1)
              · exact .inr ⟨od2, kv2, e1, oldE a _ e2⟩, fun a o e _ _ => oldE a o e, fun a g0 h0 _ _ => .inl (gN a g0 fun h => h0 (fresh a h)), fun a e => by
          cases h : H a with
          | none => exact absurd h e
          | some o => rw [oldE a o h]; exact fun z => nomatch z⟩
        refine q2 (.ref d) G' HE n kS.more ⟨fun pa z => (nomatch z), E.pen.tab.step kS (fun _ z => nomatch z) (fun _ z => nomatch z)⟩ (by omega) ⟨d, od', xs.map fun s => (.inr s, .ref (b s)), rfl, ?_, ?_⟩
        · rw [gG d gd (.inl rfl)]
          exact upd_same
        · have zip : ∀ ys : List Str, (∀ s ∈ ys, s ∈ xs) → ZipK G' (fK ys fun s => mL ((lks ps s).map mS)) (ys.map fun s => (.inr s, .ref (b s))) := by
            intro ys
            induction ys with
            | nil => exact fun _ => trivial
            | cons y ys ih =>
              intro h
              have my := h y (List.mem_cons_self ..)
              refine ⟨⟨rfl, b y, (lks ps y).map V.str, rfl, ?_, ?_⟩, ih fun s m => h s (List.mem_cons_of_mem _ m)⟩
              · rw [gG (b y) (gb y my) (.inr ⟨y, my, rfl⟩)]
                show upd _ _ _ _ = _
                rw [upd_ne (lk'.ne my)]
                exact lk'.lists y my
              · have := Zip.vals (G := G') ((lks ps y).map V.str)
                rw [List.map_map] at this
                exact this
          exact zip xs fun _ m => m
    cases hS with
    | dict =>
      obtain ⟨a1, od1, kv1, rfl, ha1, z1⟩ := s1
      have h1 := E.gh.x ha1
      have len1 : kv1.length = ps.length := by
        have := congrArg List.length z1
        rwa [List.length_map, List.length_map] at this
      refine .inl ⟨.ref a1, rfl, a1, od1, rfl, .inr ⟨kv1, lk.old _ _ h1, rest _ (fun i H' o lt => ⟨o _ _ h1, by omega⟩) (fun i H' x H'' o lt y => ?_) (fun H' o => ⟨o _ _ h1, by omega⟩)⟩⟩
      obtain ⟨rfl, k, v, qa, e, rfl, hq⟩ := y
      have e2 : ps[i]? = some ps[i] := List.getElem?_eq_getElem lt
      have e3 : (kv1.map (·.1))[i]? = some (pk ps[i]) := by rw [z1, List.getElem?_map, e2]; rfl
      rw [List.getElem?_map, e] at e3
      obtain rfl : k = pk ps[i] := Option.some.inj e3
      exact ⟨rfl, qa, ps[i], e2, rfl, hq⟩
    | list =>
      obtain ⟨a1, vs, rfl, ha1, z1⟩ := s1
      have h1 := E.gh.x ha1
      have len1 : vs.length = ps.length := by rw [z1.len, List.length_map]
      refine .inr ⟨.ref a1, rfl, a1, rfl, ⟨vs, SqL.of (lk.old _ _ h1)⟩, rest _ (fun i H' o lt => ⟨vs, _, SqL.of (o _ _ h1), List.getElem?_eq_getElem (by omega)⟩) (fun i H' x H'' o lt y => ?_) (fun H' o => ⟨vs, SqL.of (o _ _ h1), by omega⟩)⟩
      obtain ⟨rfl, fy⟩ := y
      have e2 : ps[i]? = some ps[i] := List.getElem?_eq_getElem lt
      have e3 : (ps.map mPair)[i]? = some (mPair ps[i]) := by rw [List.getElem?_map, e2]; rfl
      obtain ⟨v, e4, qa, ws, rfl, gq, zq⟩ := z1.get e3
      obtain ⟨w1, w2, rfl, e5, e6⟩ := zip2 zq
      have e7 := fy vs (SqL.of (o _ _ h1))
      rw [e4] at e7
      cases e7
      obtain rfl : w1 = _ := e5
      obtain rfl : w2 = _ := e6
      exact ⟨rfl, qa, ps[i], e2, rfl, o _ _ (E.gh.x gq)⟩
end
end Ev

set_option Elab.async false
set_option linter.all false
set_option maxRecDepth 100000
set_option maxHeartbeats 4000000
/-! A dict comprehension whose dict is its maker's own. -/
namespace Ev
open PySem PySem.Spec L2
variable [z : Tz]
section
variable {pn : Option Addr} {Γ Γ1 : Gam} {c c1 c2 ck cv : Nat} {S S1 S2 : MP} {te ta tb td tv tk ty : TE} {tt : TT} {t u ts : TS} {O O1 : Outs} {K : PySem.W.Frag} {Ps : List MP} {xs : List Str} {f : Str → MP} {s : Str} {ps : List (Str × Str)}
theorem en_dcG {Mr : MO} {wi : TI} {g : TG} {vs : List Nat} {L : List MP → Prop} (hi : EvI pn wi Γ c1 L) (ct ck cv m : Nat) (A : Nat → MO → Prop)
    (h : ∀ Ps, L Ps → Ps.length ≤ m ∧ (∃ M, A 0 M ∧ ∀ G a, M.pr G a (.dK [])) ∧
      (∀ i P M, Ps[i]? = some P → A i M → ∃ Γ1 ts Pb, Gx pn g (wipeG Γ vs) P Γ1 ts ∧ (∀ t ∈ ts, t ∈ vs) ∧ EvT pn tt Γ1 ct Pb ∧ (Pb false → A (i + 1) M) ∧
        (Pb true → ∃ Sk Sv M', Ev pn tk Γ1 ck Sk ∧ Ev pn tv Γ1 cv Sv ∧ A (i + 1) M' ∧ ∀ {G H : Hp} {D : Addr} {u : HO} {y z : V}, Sm G H → H D = some u → M.pr G D u → Sk.pr G y → Sv.pr G z → ∃ kvs k, y = kV k ∧ u = .dK kvs ∧ kvs.length < sizeLine ∧ M'.pr G D (.dK (putK kvs k z)))) ∧
      (∀ M, A Ps.length M → ∀ {G : Hp} {D : Addr} {u : HO}, M.pr G D u → Mr.pr G D u)) :
    EvN pn (tDc wi g tt tk tv vs) Γ (c1 + m * (ct + ck + cv)) Mr := .mk fun {G H σ n} E l Q q =>
  hi.run E (by omega) _ fun J G1 H1 n1 Ps k p ln hL it => fun Da hD => by
    obtain ⟨hlen, ⟨M0, h0, h00⟩, hs, hd⟩ := h Ps hL
    have E1 := E.step k p
    obtain ⟨Ew, sw⟩ := E1.wipe vs
    have kN := Stp.newH (o := (.dK [])) k.gh hD
    obtain ⟨kN', pN⟩ := kN.pure p
    have hDo : ∀ a ∈ owns (wipeG Γ vs) (L2.wipe σ vs), a ∉ [Da] := fun a ha z => by
      obtain rfl : a = Da := by simpa using z
      exact (owns_tracked Ew.sl a ha).1 hD
    have npD : pn ≠ some Da := fun z => (p Da z).2.ne hD
    have gD : G1 Da = none := k.gh.free hD
    refine ⟨fun i m' H' => m' = Ps.length - i ∧ i ≤ Ps.length ∧ ∃ G' n' M u, A i M ∧ Stp pn [Da] G1 (upd H1 Da (.dK [])) G' H' ∧ PenOk pn G' H' n' ∧ n' ≤ n1 + i * (ct + ck + cv) ∧ H' Da = some u ∧ G' Da = none ∧ M.pr G' Da u,
      ⟨Ps.length, by simp, Nat.zero_le _, G1, n1, M0, (.dK []), h0, .refl kN.gh, pN, by omega, upd_same, gD, h00 _ _⟩, ?_⟩
    rintro i m' H' ⟨rfl, hi', G', n', M, u, hA, kk, pp, ll, hw, gw, zz⟩
    have k0 : Stp pn [Da] G1 H1 G' H' := kk.pre hD
    have Ei : Env pn G' H' (wipeG Γ vs) (L2.wipe σ vs) n' := ⟨kk.gh, pp, Ew.sl.stepO k0 hDo, Ew.nd⟩
    have le1 := Nat.mul_le_mul_right (ct + ck + cv) hlen
    by_cases lt : i < Ps.length
    · refine .inr ⟨it.go kk.gg kk.gh lt, fun H2 => ∃ G2 n2 M2 u2, A (i + 1) M2 ∧ Stp pn [Da] G1 (upd H1 Da (.dK [])) G2 H2 ∧ PenOk pn G2 H2 n2 ∧ n2 ≤ n1 + (i + 1) * (ct + ck + cv) ∧ H2 Da = some u2 ∧ G2 Da = none ∧ M2.pr G2 Da u2,
        fun H2 a => ⟨Ps.length - (i + 1), by omega, rfl, lt, a⟩, fun x H2 hy => ?_⟩
      have eP : Ps[i]? = some Ps[i] := List.getElem?_eq_getElem lt
      obtain ⟨G2, k2, px⟩ := it.yld kk.gg kk.gh eP hy
      obtain ⟨k3, p3⟩ := k2.pure pp
      have E2 := Ei.step k3 p3
      obtain ⟨Γ3, ts, Pb, hg, hts, ht, hF, hT⟩ := hs i Ps[i] M eP hA
      refine hg.run E2 px _ fun σ3 E3 o3 w3 => ⟨(w3 vs hts).trans (wipe_wipe vs σ), ?_⟩
      have e1 : (i + 1) * (ct + ck + cv) = i * (ct + ck + cv) + (ct + ck + cv) := by rw [Nat.add_mul]; omega
      have le2 : (i + 1) * (ct + ck + cv) ≤ Ps.length * (ct + ck + cv) := Nat.mul_le_mul_right _ lt
      have nt := M.nt zz
      have hw2 : H2 Da = some u := k3.hh Da _ hw npD (fun z => nomatch z)
      have gw2 : G2 Da = none := k3.own_none gw hw nt npD (fun z => nomatch z)
      refine ht.run E3 (by omega) _ fun c G4 H4 n4 k4 p4 l4 hb => ?_
      have hw4 : H4 Da = some u := k4.hh Da _ hw2 npD (fun z => nomatch z)
      have gw4 : G4 Da = none := k4.own_none gw2 hw2 nt npD (fun z => nomatch z)
      have k5 : Stp pn [Da] G1 (upd H1 Da (.dK [])) G4 H4 := (kk.trans k3 fun _ h => nomatch h).trans k4 fun _ h => nomatch h
      cases c with
      | false => exact ⟨G4, n4, M, u, hF hb, k5, p4, by omega, hw4, gw4, M.mono (k3.gg.trans k4.gg) zz⟩
      | true =>
        obtain ⟨Sk, Sv, M', hk, hv, hA2, put⟩ := hT hb
        refine hk.run (E3.step k4 p4) (by omega) _ fun y G6 H6 n6 k6 p6 l6 hy6 => ?_
        have hw6 : H6 Da = some u := k6.hh Da _ hw4 npD (fun z => nomatch z)
        have gw6 : G6 Da = none := k6.own_none gw4 hw4 nt npD (fun z => nomatch z)
        refine hv.run ((E3.step k4 p4).step k6 p6) (by omega) _ fun z G7 H7 n7 k7 p7 l7 hz7 => ?_
        have hw7 : H7 Da = some u := k7.hh Da _ hw6 npD (fun z => nomatch z)
        have gw7 : G7 Da = none := k7.own_none gw6 hw6 nt npD (fun z => nomatch z)
        obtain ⟨kvs, ky, ey, eu, few, pr'⟩ := put k7.gh hw7 (M.mono (((k3.gg.trans k4.gg).trans k6.gg).trans k7.gg) zz) (Sk.mono k7.gg hy6) hz7
        subst eu
        refine ⟨kvs, ky, ey, hw7, few, ?_⟩
        have ka : Stp pn [Da] G1 (upd H1 Da (.dK [])) G7 H7 := (k5.trans k6 fun _ h => nomatch h).trans k7 fun _ h => nomatch h
        have kb : Stp pn [Da] G7 H7 G7 (upd H7 Da (.dK (putK kvs ky z))) := .chg k7.gh gw7 (by rw [hw7]; exact fun z => nomatch z)
        refine ⟨G7, n7, M', _, hA2, ka.trans kb fun x h => .inl h, p7.updH npD (no_tbl hw7), by omega, upd_same, gw7, pr'⟩
    · have e : i = Ps.length := by omega
      subst e
      have hH : H Da = none := none_back k hD
      refine .inl ⟨it.stop kk.gg kk.gh (Nat.le_refl _), q Da u G' H' n' (k.trans0 (k0.drop k.gh hD)) pp (by omega) hH gw hw (hd M hA zz)⟩
/-- {k x: v x for x in xs}, the keys all unlike -/
theorem en_dcF {α : Type} {ys : List α} {R : α → MP} {kf : α → Str} {f : Str → MP} {wi : TI} {g : TG} {vs : List Nat} (hi : EvI pn wi Γ c1 (· = ys.map R)) (hm : ys.length ≤ 90000) (nd : (ys.map kf).Nodup)
    (h : ∀ x ∈ ys, ∃ Γ1 ts, Gx pn g (wipeG Γ vs) (R x) Γ1 ts ∧ (∀ t ∈ ts, t ∈ vs) ∧ Ev pn tk Γ1 ck (mS (kf x)) ∧ Ev pn tv Γ1 cv (f (kf x))) : EvN pn (tDc wi g tYes tk tv vs) Γ (c1 + ys.length * (0 + ck + cv)) (oD (ys.map kf) f) := by
  refine en_dcG hi 0 ck cv ys.length (fun i M => M = oD ((ys.take i).map kf) f) ?_
  rintro Ps rfl
  refine ⟨by rw [List.length_map]; exact Nat.le_refl _, ⟨_, rfl, fun G a => ⟨[], rfl, trivial⟩⟩, fun i P M hP hA => ?_, fun M hA {G D u} pr => ?_⟩
  · subst hA
    rw [List.getElem?_map] at hP
    obtain ⟨x, hx, rfl⟩ := Option.map_eq_some_iff.mp hP
    obtain ⟨Γ1, ts, e1, e2, e3, e4⟩ := h x (List.mem_of_getElem? hx)
    refine ⟨Γ1, ts, _, e1, e2, et_yes, fun z => (nomatch z), fun _ => ⟨_, _, _, e3, e4, rfl, fun {G H D u y z} sm hD pr hy hz => ?_⟩⟩
    obtain ⟨kvs, rfl, zk⟩ := pr
    obtain rfl : y = .str (kf x) := hy
    have hl : kvs.length < sizeLine := Nat.lt_of_le_of_lt (m := 90000) (by
      rw [zk.len]
      unfold fK
      rw [List.length_map, List.length_map, List.length_take]
      omega) (by decide)
    have notin : kf x ∉ (ys.take i).map kf := by
      have s := split_at hx
      rw [s, List.map_append, List.map_cons] at nd
      exact fun m => (List.nodup_append.mp nd).2.2 _ m _ (List.mem_cons_self ..) rfl
    have none_ : valV kvs (.inr (kf x)) = none := (fK_val zk).2 notin
    have e : putK kvs (.inr (kf x)) z = kvs ++ [(.inr (kf x), z)] := by
      unfold putK
      rw [if_neg (by rw [valV_any, none_]; simp)]
    refine ⟨kvs, .inr (kf x), rfl, rfl, hl, _, rfl, ?_⟩
    rw [e, take_succ hx, List.map_append]
    have e5 : fK ((ys.take i).map kf ++ [x].map kf) f = fK ((ys.take i).map kf) f ++ [(kf x, f (kf x))] := by unfold fK; rw [List.map_append]; rfl
    rw [e5]
    exact zk.snoc hz
  · subst hA
    rw [List.length_map, List.take_length] at pr
    exact pr
end
end Ev

set_option Elab.async false
set_option linter.all false
set_option maxRecDepth 100000
set_option maxHeartbeats 4000000
/-! while, by a bound on its turns. -/
namespace Ev
open PySem PySem.Spec L2
variable [z : Tz]
section
variable {pn : Option Addr} {Γ : Gam} {c : Nat} {tc : TT} {tb u : TS} {O : Outs}
theorem sx_while (cc cb m0 : Nat) (I : Nat → Gam → Prop) (h0 : I m0 Γ)
    (hs : ∀ m Γ', I m Γ' → ∃ Pb, EvT pn tc Γ' cc Pb ∧ (Pb true → ∃ m', m = m' + 1 ∧ Sx pn tb Γ' cb ⟨fun Γ2 => ∃ k, k ≤ m' ∧ I k Γ2, O.rt, O.nx, fun Γ2 => ∃ k, k ≤ m' ∧ I k Γ2⟩) ∧ (Pb false → O.nx Γ')) :
    Sx pn (tWhile tc tb) Γ (m0 * (cc + cb) + cc) O := .mk fun {G H σ n} D E l q1 q2 q3 q4 => by
  refine ⟨fun m σ' H' => ∃ Γ' G' n', m ≤ m0 ∧ I m Γ' ∧ Go pn Γ σ G H n ((m0 - m) * (cc + cb)) Γ' σ' G' H' n', ⟨m0, Γ, G, n, Nat.le_refl _, h0, (Go.refl E).more (Nat.zero_le _)⟩, ?_⟩
  rintro m σ1 H1 ⟨Γ1, G1, n1, hm, hI, g⟩
  obtain ⟨Pb, ht, hT, hF⟩ := hs m Γ1 hI
  have le1 := g.le
  have mul1 : (m0 - m) * (cc + cb) ≤ m0 * (cc + cb) := Nat.mul_le_mul_right _ (Nat.sub_le _ _)
  refine ht.run g.env (by omega) _ fun b G2 H2 n2 k2 p2 l2 hb => ?_
  have g2 : Go pn Γ σ G H n ((m0 - m) * (cc + cb) + cc) Γ1 σ1 G2 H2 n2 := g.trans (.of g.env k2 l2 (g.env.step k2 p2) fun _ h => .inl h)
  cases b with
  | false =>
    show D.nx σ1 H2
    exact q1 _ _ _ _ _ (hF hb) (g2.more (by omega))
  | true =>
    obtain ⟨m', rfl, hB⟩ := hT hb
    have e1 : (m0 - m') * (cc + cb) = (m0 - (m' + 1)) * (cc + cb) + (cc + cb) := by
      have : m0 - m' = (m0 - (m' + 1)) + 1 := by omega
      rw [this, Nat.add_mul]
      omega
    have mul2 : (m0 - m') * (cc + cb) ≤ m0 * (cc + cb) := Nat.mul_le_mul_right _ (Nat.sub_le _ _)
    have le2 := g2.le
    refine ⟨fun σ' H' => ∃ k, k ≤ m' ∧ ∃ Γ' G' n', k ≤ m0 ∧ I k Γ' ∧ Go pn Γ σ G H n ((m0 - k) * (cc + cb)) Γ' σ' G' H' n', fun σ' H' ⟨k, hk, w⟩ => ⟨k, by omega, w⟩, ?_⟩
    have on : ∀ Γ3 σ3 G3 H3 n3, (∃ k, k ≤ m' ∧ I k Γ3) → Go pn Γ1 σ1 G2 H2 n2 cb Γ3 σ3 G3 H3 n3 → ∃ k, k ≤ m' ∧ ∃ Γ' G' n', k ≤ m0 ∧ I k Γ' ∧ Go pn Γ σ G H n ((m0 - k) * (cc + cb)) Γ' σ3 G' H3 n' := fun Γ3 σ3 G3 H3 n3 ⟨k, hk, hI3⟩ g3 => by
      have mul3 : (m0 - m') * (cc + cb) ≤ (m0 - k) * (cc + cb) := Nat.mul_le_mul_right _ (by omega)
      exact ⟨k, hk, Γ3, G3, n3, by omega, hI3, (g2.trans g3).more (by omega)⟩
    refine hB.run _ g2.env (by omega) on (fun v G3 H3 n3 k3 p3 l3 s3 => q2 v G3 H3 n3 (g2.stp.trans k3 g2.ow) p3 (by omega) s3) (fun Γ3 σ3 G3 H3 n3 a g3 => q1 _ _ _ _ _ a ((g2.trans g3).more (by omega))) on
end
end Ev

set_option Elab.async false
set_option linter.all false
set_option maxRecDepth 100000
set_option maxHeartbeats 4000000
/-! Ranks: items one by one, each behind all that are below it. -/
namespace Ev
open PySem PySem.Spec L2
variable [z : Tz]
/-- how many lower ones are not among these -/
def left (lw : Str → List Str) (A : List Str) (s : Str) : Nat := ((lw s).filter fun l => !decide (l ∈ A)).length
theorem len_but {α : Type} [DecidableEq α] {x : α} : ∀ {L : List α}, L.Nodup → ((L.filter fun l => !decide (l = x)).length : Int) = L.length - (if x ∈ L then 1 else 0)
  | [], _ => by simp
  | y :: L, nd => by
    have n := List.nodup_cons.mp nd
    have ih := len_but (x := x) n.2
    by_cases e : y = x
    · subst e
      have : (L.filter fun l => !decide (l = y)) = L := List.filter_eq_self.mpr fun l m => by
        have : l ≠ y := fun z => n.1 (by rw [← z]; exact m)
        simp [this]
      simp only [List.filter_cons, decide_true, Bool.not_true, Bool.false_eq_true, if_false, this, List.mem_cons, true_or, if_true, List.length_cons]
      omega
    · have e' : ¬ x = y := fun z => e z.symm
      simp only [List.filter_cons, e, decide_false, Bool.not_false, if_true, List.length_cons, List.mem_cons, e', false_or]
      omega
theorem left_snoc {lw : Str → List Str} {A : List Str} {x s : Str} (nd : (lw s).Nodup) (nx : x ∉ A) : (left lw (A ++ [x]) s : Int) = left lw A s - (if x ∈ lw s then 1 else 0) := by
  unfold left
  have e : ((lw s).filter fun l => !decide (l ∈ A ++ [x])) = ((lw s).filter fun l => !decide (l ∈ A)).filter fun l => !decide (l = x) := by
    rw [List.filter_filter]
    refine List.filter_congr fun l _ => ?_
    by_cases h1 : l ∈ A <;> by_cases h2 : l = x <;> simp [h1, h2]
  rw [e, len_but (nd.filter _)]
  have e2 : (x ∈ (lw s).filter fun l => !decide (l ∈ A)) ↔ x ∈ lw s := by
    rw [List.mem_filter]
    exact ⟨fun h => h.1, fun h => ⟨h, by simp [nx]⟩⟩
  by_cases h : x ∈ lw s
  · rw [if_pos h, if_pos (e2.mpr h)]
  · rw [if_neg h, if_neg (fun z => h (e2.mp z))]
structure Web (xs : List Str) (lw up : Str → List Str) : Prop where
  nx : xs.Nodup
  few : xs.length < 90000
  lwm : ∀ s ∈ xs, ∀ l ∈ lw s, l ∈ xs
  lwn : ∀ s ∈ xs, (lw s).Nodup
  upm : ∀ s ∈ xs, ∀ u ∈ up s, u ∈ xs
  upn : ∀ s ∈ xs, (up s).Nodup
  dual : ∀ s ∈ xs, ∀ t ∈ xs, (t ∈ up s ↔ s ∈ lw t)
structure Ranked (xs : List Str) (lw : Str → List Str) (F : List Str) : Prop where
  nd : F.Nodup
  sub : ∀ s ∈ F, s ∈ xs
  ahead : ∀ (i : Nat) s, F[i]? = some s → ∀ l ∈ lw s, ∃ j : Nat, j < i ∧ F[j]? = some l
  out : ∀ s ∈ xs, s ∉ F → ∃ l ∈ lw s, l ∉ F
structure Mid (xs : List Str) (lw : Str → List Str) (F : List Str) (a : Nat) (w : Str → Int) : Prop where
  nd : F.Nodup
  sub : ∀ s ∈ F, s ∈ xs
  cnt : ∀ s ∈ xs, w s = left lw (F.take a) s
  zero : ∀ s ∈ xs, (s ∈ F ↔ w s = 0)
  ahead : ∀ (i : Nat) s, F[i]? = some s → ∀ l ∈ lw s, ∃ j : Nat, j < i ∧ F[j]? = some l
  le : a ≤ F.length
section
variable {xs : List Str} {lw up : Str → List Str}
theorem left_zero {A : List Str} {s : Str} (h : left lw A s = 0) : ∀ l ∈ lw s, l ∈ A := fun l m => by
  have e := List.length_eq_zero_iff.mp h
  by_cases k : l ∈ A
  · exact k
  · have : l ∈ (lw s).filter fun l => !decide (l ∈ A) := List.mem_filter.mpr ⟨m, by simp [k]⟩
    rw [e] at this
    cases this
theorem Mid.start (W : Web xs lw up) : Mid xs lw (xs.filter fun s => decide (((lw s).length : Int) = 0)) 0 fun s => (lw s).length := by
  refine ⟨W.nx.filter _, fun s m => (List.mem_filter.mp m).1, fun s m => ?_, fun s m => ?_, fun i s e l ml => ?_, Nat.zero_le _⟩
  · unfold left
    rw [List.filter_eq_self.mpr fun l _ => by simp]
  · rw [List.mem_filter]
    simp [m]
  · have h := (List.mem_filter.mp (List.mem_of_getElem? e)).2
    have : (lw s).length = 0 := by simpa using h
    rw [List.length_eq_zero_iff.mp this] at ml
    cases ml
theorem Mid.step (W : Web xs lw up) {F : List Str} {a : Nat} {w : Str → Int} {it : Str} (M : Mid xs lw F a w) (hit : F[a]? = some it) : Mid xs lw (F ++ (up it).filter fun u => decide (w u = 1)) (a + 1) fun s => if s ∈ up it then w s - 1 else w s := by
  have mF := List.mem_of_getElem? hit
  have mx := M.sub it mF
  have lt : a < F.length := (List.getElem?_eq_some_iff.mp hit).1
  have notin : it ∉ F.take a := fun m => by
    obtain ⟨j, hj⟩ := List.getElem?_of_mem m
    rw [List.getElem?_take] at hj
    split at hj
    · rename_i h
      have := (List.getElem?_inj (by omega) M.nd).mp (hj.trans hit.symm)
      omega
    · cases hj
  have cut : (F ++ (up it).filter fun u => decide (w u = 1)).take (a + 1) = F.take a ++ [it] := by
    rw [List.take_append_of_le_length (by omega), take_succ hit]
  have newm : ∀ u, u ∈ (up it).filter (fun u => decide (w u = 1)) ↔ u ∈ up it ∧ w u = 1 := fun u => by rw [List.mem_filter]; simp
  have cnt' : ∀ s ∈ xs, (if s ∈ up it then w s - 1 else w s) = left lw (F.take a ++ [it]) s := fun s ms => by
    rw [left_snoc (W.lwn s ms) notin, ← M.cnt s ms]
    by_cases h : s ∈ up it
    · rw [if_pos h, if_pos ((W.dual it mx s ms).mp h)]
    · rw [if_neg h, if_neg (fun z => h ((W.dual it mx s ms).mpr z))]
      omega
  -- an item that is there already has no lower one left
  have old : ∀ s ∈ F, s ∉ up it := fun s m h => by
    have ms := M.sub s m
    have h0 := (M.zero s ms).mp m
    rw [M.cnt s ms] at h0
    exact notin (left_zero (by omega) it ((W.dual it mx s ms).mp h))
  refine ⟨List.nodup_append.mpr ⟨M.nd, (W.upn it mx).filter _, fun x hx y hy e => ?_⟩, fun s m => ?_, fun s ms => by rw [cut]; exact cnt' s ms, fun s ms => ?_, fun i s e l ml => ?_, by rw [List.length_append]; omega⟩
  · subst e
    exact old x hx ((newm x).mp hy).1
  · rcases List.mem_append.mp m with m | m
    · exact M.sub s m
    · exact W.upm it mx s ((newm s).mp m).1
  · rw [List.mem_append, newm]
    by_cases h : s ∈ up it
    · rw [if_pos h]
      have nF : s ∉ F := fun m => old s m h
      constructor
      · rintro (m | ⟨_, e⟩)
        · exact absurd m nF
        · omega
      · exact fun e => .inr ⟨h, by omega⟩
    · rw [if_neg h, ← M.zero s ms]
      exact ⟨fun k => k.elim id fun k => absurd k.1 h, .inl⟩
  · by_cases li : i < F.length
    · rw [List.getElem?_append_left li] at e
      obtain ⟨j, hj, e2⟩ := M.ahead i s e l ml
      exact ⟨j, hj, by rw [List.getElem?_append_left (by omega)]; exact e2⟩
    · have m : s ∈ (up it).filter fun u => decide (w u = 1) := by
        rw [List.getElem?_append_right (by omega)] at e
        exact List.mem_of_getElem? e
      obtain ⟨h1, h2⟩ := (newm s).mp m
      have ms := W.upm it mx s h1
      have z : left lw (F.take a ++ [it]) s = 0 := by
        have := cnt' s ms
        rw [if_pos h1] at this
        omega
      have mem := left_zero z l ml
      rw [← take_succ hit] at mem
      obtain ⟨j, hj⟩ := List.getElem?_of_mem mem
      rw [List.getElem?_take] at hj
      split at hj
      · exact ⟨j, by omega, by rw [List.getElem?_append_left (by omega)]; exact hj⟩
      · cases hj
theorem Mid.done (W : Web xs lw up) {F : List Str} {w : Str → Int} (M : Mid xs lw F F.length w) : Ranked xs lw F := by
  refine ⟨M.nd, M.sub, M.ahead, fun s ms ns => ?_⟩
  have h : w s ≠ 0 := fun z => ns ((M.zero s ms).mpr z)
  rw [M.cnt s ms, List.take_length] at h
  have pos : 0 < left lw F s := by omega
  unfold left at pos
  obtain ⟨l, ml⟩ := List.exists_mem_of_length_pos pos
  obtain ⟨h1, h2⟩ := List.mem_filter.mp ml
  exact ⟨l, h1, by simpa using h2⟩
theorem nodup_len {α : Type} : ∀ {l m : List α}, l.Nodup → (∀ x ∈ l, x ∈ m) → l.length ≤ m.length
  | [], _, _, _ => Nat.zero_le _
  | x :: l, m, nd, h => by
    have n := List.nodup_cons.mp nd
    obtain ⟨s, t, rfl⟩ := List.append_of_mem (h x (List.mem_cons_self ..))
    have ih := nodup_len (m := s ++ t) n.2 fun y my => by
      have := h y (List.mem_cons_of_mem _ my)
      rcases List.mem_append.mp this with k | k
      · exact List.mem_append_left _ k
      · rcases List.mem_cons.mp k with rfl | k
        · exact absurd my n.1
        · exact List.mem_append_right _ k
    rw [List.length_append] at ih ⊢
    simp only [List.length_cons]
    omega
theorem Mid.len (W : Web xs lw up) {F : List Str} {a : Nat} {w : Str → Int} (M : Mid xs lw F a w) : F.length ≤ xs.length := nodup_len M.nd M.sub
end
section
variable {pn : Option Addr} {Γ : Gam} {c c1 c2 : Nat} {te tb ti : TE} {O : Outs} {K : PySem.W.Frag} {Ps : List MP} {u : TS}
/-- an item of one's own list -/
theorem ev_ixO {i k : Nat} {P : MP} (hi : Γ[i]? = some (.own (oL Ps))) (hk : Ev pn tb Γ c (mI (k : Int))) (hp : Ps[k]? = some P) : Ev pn (tOp (rIxL K) (tVar i) tb) Γ c P := .mk fun {G H σ n} E l Q q => by
  obtain ⟨a, o, A⟩ := E.sl.own E.nd hi
  refine ⟨.ref a, A.val, hk.run E l _ fun y G1 H1 n1 k1 p1 l1 sy => ?_⟩
  obtain rfl : y = .int k := sy
  have A1 := A.step E hi k1 p1
  obtain ⟨vs, rfl, z⟩ := A1.pr
  obtain ⟨v, hv, pv⟩ := z.get hp
  refine ⟨a, vs, k, v, rfl, rfl, SqL.of A1.obj, ?_, q v _ _ n1 k1 p1 l1 pv⟩
  exact atI_nat hv
/-- name += a number -/
theorem sx_augI {i : Nat} {a b : Int} (hi : Γ[i]? = some (.im (mI a))) (hb : Ev pn te Γ c (mI b)) (hn : O.nx (Γ.set i (.im (mI (a + b))))) : Sx pn (tAug i te (ipI fun i j => i + j)) Γ c O := .mk fun {G H σ n} D E l q1 q2 q3 q4 => by
  obtain ⟨o, ho, v, rfl, hv⟩ := E.sl.get hi
  obtain rfl : v = .int a := hv
  refine ⟨.int a, ho, hb.run E l _ fun y G1 H1 n1 k1 p1 l1 sy => ?_⟩
  obtain rfl : y = .int b := sy
  refine ⟨a, b, rfl, rfl, q1 _ _ G1 H1 n1 hn ?_⟩
  have E' := E.step k1 p1
  exact .of E k1 l1 (E'.set i ⟨_, rfl, rfl⟩ rfl) fun b hb => .inl ((owns_set_free i E'.sl rfl).subset hb)
end
section
variable {K : PySem.W.Frag} {xs : List Str} {lw up : Str → List Str}
theorem mI_if {p : Str → Prop} [DecidablePred p] {a b : Str → Int} : (fun t => if p t then mI (a t) else mI (b t)) = fun t => mI (if p t then a t else b t) := by
  funext t
  by_cases h : p t
  · rw [if_pos h, if_pos h]
  · rw [if_neg h, if_neg h]
theorem sx_ranked (W : Web xs lw up) :
    Sx none (tSeq (tAsg (tDc (iKeys (tVar 0)) (gName 5) tYes (tVar 5) (tCB (rLenX K) (tCons (tDGet (tVar 0) (tVar 5)) tNil)) [5]) (gName 2))
      (tSeq (tAsg (tLc (iKeys (tVar 0)) (gName 5) (tTest (tOp rEq (tDGet (tVar 2) (tVar 5)) (tC (V.int 0)))) (tVar 5) [5]) (gName 3))
      (tSeq (tAsg (tC (V.int 0)) (gName 4))
      (tSeq (tWhile (tTest (tOp (rI0 fun i j => V.bl (decide (i < j))) (tVar 4) (tCB (rLenX K) (tCons (tVar 3) tNil))))
          (tSeq (tAsg (tOp (rIxL K) (tVar 3) (tVar 4)) (gName 5))
          (tSeq (tFor (iList K (tDGet (tVar 1) (tVar 5))) (gName 6)
              (tSeq (sDPut (tVar 2) (tVar 6) (tOp (rI0 fun i j => V.int (i - j)) (tDGet (tVar 2) (tVar 6)) (tC (V.int 1))))
                (tIfS (tTest (tOp rEq (tDGet (tVar 2) (tVar 6)) (tC (V.int 0)))) (tDrop (tBM K "list" rAppend (tVar 3) (tCons (tVar 6) tNil))) tNext)))
            (tAug 4 (tC (V.int 1)) (ipI fun i j => i + j)))))
        (tRet (tVar 3))))))
      [.im (mD xs fun s => mL ((lw s).map mS)), .im (mD xs fun s => mL ((up s).map mS)), .no, .no, .no, .no, .no] 0 (endO (mEx (Ranked xs lw) mStrs)) := by
  have few := W.few
  refine x_own (i := 2) (c1 := 0) (M := oD xs fun s => mI ((lw s).length : Nat)) ((en_dcF (kf := id) (f := fun s => mI ((lw s).length : Nat)) (ei_keysF (ev_var rfl)) (by omega) (by rw [List.map_id]; exact W.nx) fun s ms => ⟨_, _, gx_name, (by decide), ev_var rfl, ev_cb (ea_cons (ev_dgetF (ev_var rfl) (ev_var rfl) ms) ea_nil) rc_lenM⟩).mono (fun G a o h => by rw [List.map_id] at h; exact h) (by simp)) ?_
  refine x_own (i := 3) (c1 := 0) (M := oL ((xs.filter fun s => decide (((lw s).length : Int) = 0)).map mS)) ((en_lcL (R := mS) (R' := mS) (f := id) (b := fun s => decide (((lw s).length : Int) = 0)) (ei_keysF (ev_var rfl)) (by omega) fun s ms => ⟨_, _, gx_name, (by decide), et_testV (ev_op (ev_dgetOF (i := 2) rfl (ev_var rfl) ms) ev_c rv_eqI), fun _ => ev_var rfl⟩).mono (fun G a o h => by rw [List.map_id] at h; exact h) (by simp)) ?_
  refine x_let (i := 4) ev_c ?_
  show Sx none _ [.im (mD xs fun s => mL ((lw s).map mS)), .im (mD xs fun s => mL ((up s).map mS)), .own (oD xs fun s => mI ((lw s).length : Nat)), .own (oL ((xs.filter fun s => decide (((lw s).length : Int) = 0)).map mS)), .im (mI 0), .no, .no] 0 _
  refine x_seq (c1 := 0) (fun Γ' => ∃ F w s5 s6, Γ' = [.im (mD xs fun s => mL ((lw s).map mS)), .im (mD xs fun s => mL ((up s).map mS)), .own (oD xs fun s => mI (w s)), .own (oL (F.map mS)), .im (mI (F.length : Nat)), s5, s6] ∧ Mid xs lw F F.length w)
    ((sx_while 0 0 xs.length (fun m Γ' => ∃ F a w s5 s6, Γ' = [.im (mD xs fun s => mL ((lw s).map mS)), .im (mD xs fun s => mL ((up s).map mS)), .own (oD xs fun s => mI (w s)), .own (oL (F.map mS)), .im (mI ((a : Nat) : Int)), s5, s6] ∧ Mid xs lw F a w ∧ m = xs.length - a)
      ⟨_, 0, _, _, _, rfl, Mid.start W, by omega⟩ fun m Γ' hI => ?_).more (by omega)) (fun Γ' hI => ?_)
  · obtain ⟨F, a, w, s5, s6, rfl, M, rfl⟩ := hI
    have lF := M.len W
    have lea := M.le
    refine ⟨_, et_testV (ev_op (ev_var rfl) (ev_lenO (i := 3) rfl) rv_I0), fun hT => ?_, fun hF => ?_⟩
    · have lt : a < F.length := by
        have := of_decide_eq_true hT.symm
        rw [List.length_map] at this
        omega
      obtain ⟨it, hit⟩ : ∃ it, F[a]? = some it := ⟨_, List.getElem?_eq_getElem lt⟩
      have mx := M.sub it (List.mem_of_getElem? hit)
      refine ⟨xs.length - (a + 1), by omega, ?_⟩
      refine x_let (i := 5) (ev_ixO (i := 3) (k := a) (P := mS it) rfl (ev_var rfl) (by rw [List.getElem?_map, hit]; rfl)) ?_
      show Sx none _ [.im (mD xs fun s => mL ((lw s).map mS)), .im (mD xs fun s => mL ((up s).map mS)), .own (oD xs fun s => mI (w s)), .own (oL (F.map mS)), .im (mI (a : Nat)), .im (mS it), s6] 0 _
      refine x_seq (c1 := 0) (fun Γ' => ∃ s6, Γ' = [.im (mD xs fun s => mL ((lw s).map mS)), .im (mD xs fun s => mL ((up s).map mS)), .own (oD xs fun s => mI (if s ∈ up it then w s - 1 else w s)), .own (oL ((F ++ (up it).filter fun u => decide (w u = 1)).map mS)), .im (mI (a : Nat)), .im (mS it), s6])
        (Sx.more (sx_forL (xs := up it) (R := mS) (ei_list (ev_dgetF (f := fun s => mL ((up s).map mS)) (ev_var rfl) (ev_var rfl) mx)) 0
          (fun U Γ' => ∃ s6, Γ' = [.im (mD xs fun s => mL ((lw s).map mS)), .im (mD xs fun s => mL ((up s).map mS)), .own (oD xs fun s => mI (if s ∈ U then w s - 1 else w s)), .own (oL ((F ++ U.filter fun u => decide (w u = 1)).map mS)), .im (mI (a : Nat)), .im (mS it), s6])
          ⟨s6, by simp⟩ (fun U u post Γ' hs hI => ?_) fun Γ' h => h) (by omega)) (fun Γ' hI => ?_)
      · obtain ⟨s6, rfl⟩ := hI
        have mu : u ∈ up it := by rw [hs]; exact List.mem_append_right _ (List.mem_cons_self ..)
        have mux := W.upm it mx u mu
        have nU : u ∉ U := fun m => by
          have nd := W.upn it mx
          rw [hs] at nd
          exact (List.nodup_append.mp nd).2.2 u m u (List.mem_cons_self ..) rfl
        have lenU : (F ++ U.filter fun u => decide (w u = 1)).length < 100000 := by
          have h1 := List.length_filter_le (fun u => decide (w u = 1)) U
          have h2 : U.length ≤ (up it).length := by rw [hs, List.length_append]; omega
          have h3 : (up it).length ≤ xs.length := nodup_len (W.upn it mx) (W.upm it mx)
          have h4 : (F ++ U.filter fun u => decide (w u = 1)).Nodup ∧ ∀ s ∈ F ++ U.filter fun u => decide (w u = 1), s ∈ xs := by
            have M2 := M.step W hit
            have sub : (F ++ U.filter fun u => decide (w u = 1)).Sublist (F ++ (up it).filter fun u => decide (w u = 1)) := by
              refine List.Sublist.append_left ?_ _
              rw [hs, List.filter_append]
              exact List.sublist_append_left _ _
            exact ⟨M2.nd.sublist sub, fun s m => M2.sub s (sub.subset m)⟩
          have := nodup_len h4.1 h4.2
          omega
        refine ⟨_, _, gx_name, ?_⟩
        show Sx none _ [.im (mD xs fun s => mL ((lw s).map mS)), .im (mD xs fun s => mL ((up s).map mS)), .own (oD xs fun s => mI (if s ∈ U then w s - 1 else w s)), .own (oL ((F ++ U.filter fun u => decide (w u = 1)).map mS)), .im (mI (a : Nat)), .im (mS it), .im (mS u)] 0 _
        have get : Ev none (tDGet (tVar 2) (tVar 6)) [.im (mD xs fun s => mL ((lw s).map mS)), .im (mD xs fun s => mL ((up s).map mS)), .own (oD xs fun s => mI (if s ∈ U then w s - 1 else w s)), .own (oL ((F ++ U.filter fun u => decide (w u = 1)).map mS)), .im (mI (a : Nat)), .im (mS it), .im (mS u)] 0 (mI (w u)) := by
          have h := ev_dgetOF (pn := none) (i := 2) (Γ := [.im (mD xs fun s => mL ((lw s).map mS)), .im (mD xs fun s => mL ((up s).map mS)), .own (oD xs fun s => mI (if s ∈ U then w s - 1 else w s)), .own (oL ((F ++ U.filter fun u => decide (w u = 1)).map mS)), .im (mI (a : Nat)), .im (mS it), .im (mS u)]) rfl (ev_var (i := 6) (S := mS u) rfl) mux
          rw [if_neg nU] at h
          exact h
        have put : (fun t => if t = u then mI (w u - 1) else mI (if t ∈ U then w t - 1 else w t)) = fun t => mI (if t ∈ U ++ [u] then w t - 1 else w t) := by
          funext t
          by_cases e : t = u
          · subst e
            simp
          · simp [e]
        refine x_seq1 [.im (mD xs fun s => mL ((lw s).map mS)), .im (mD xs fun s => mL ((up s).map mS)), .own (oD xs fun s => mI (if s ∈ U ++ [u] then w s - 1 else w s)), .own (oL ((F ++ U.filter fun u => decide (w u = 1)).map mS)), .im (mI (a : Nat)), .im (mS it), .im (mS u)]
          (c1 := 0) ((sx_dputF (i := 2) rfl (ev_op get ev_c rv_I0) (ev_var (i := 6) rfl) (by omega) (by
            show _ = _
            rw [put]
            unfold kput
            rw [if_pos mux]
            rfl)).more (by omega)) ?_
        have get2 : Ev none (tDGet (tVar 2) (tVar 6)) [.im (mD xs fun s => mL ((lw s).map mS)), .im (mD xs fun s => mL ((up s).map mS)), .own (oD xs fun s => mI (if s ∈ U ++ [u] then w s - 1 else w s)), .own (oL ((F ++ U.filter fun u => decide (w u = 1)).map mS)), .im (mI (a : Nat)), .im (mS it), .im (mS u)] 0 (mI (w u - 1)) := by
          have h := ev_dgetOF (pn := none) (i := 2) (Γ := [.im (mD xs fun s => mL ((lw s).map mS)), .im (mD xs fun s => mL ((up s).map mS)), .own (oD xs fun s => mI (if s ∈ U ++ [u] then w s - 1 else w s)), .own (oL ((F ++ U.filter fun u => decide (w u = 1)).map mS)), .im (mI (a : Nat)), .im (mS it), .im (mS u)]) rfl (ev_var (i := 6) (S := mS u) rfl) mux
          rw [if_pos (by simp)] at h
          exact h
        refine x_if (et_testV (ev_op get2 ev_c rv_eqI)) (fun hT => ?_) (fun hF => ?_)
        · have e1 : w u = 1 := by
            have := of_decide_eq_true hT.symm
            omega
          refine Sx.more (sx_append (i := 3) rfl (ev_var (i := 6) rfl) (by rw [List.length_map]; exact lenU) ⟨.im (mS u), ?_⟩) (by omega)
          rw [List.filter_append, ← List.append_assoc, List.map_append (l₂ := [u].filter _)]
          simp [e1]
        · have e1 : ¬ w u = 1 := by
            have := of_decide_eq_false hF.symm
            omega
          refine x_next ⟨.im (mS u), ?_⟩
          rw [List.filter_append]
          simp [e1]
      · obtain ⟨s6, rfl⟩ := hI
        refine Sx.more (sx_augI (i := 4) rfl ev_c ⟨_, Nat.le_refl _, F ++ (up it).filter (fun u => decide (w u = 1)), a + 1, fun s => if s ∈ up it then w s - 1 else w s, _, _, rfl, M.step W hit, rfl⟩) (by omega)
    · have ge : a = F.length := by
        have := of_decide_eq_false hF.symm
        rw [List.length_map] at this
        omega
      subst ge
      exact ⟨F, w, s5, s6, rfl, M⟩
  · obtain ⟨F, w, s5, s6, rfl, M⟩ := hI
    refine sx_freeze (i := 3) rfl ?_
    exact x_ret (ev_var (i := 3) rfl) fun G v h => ⟨F, M.done W, h⟩
end
end Ev

set_option Elab.async false
set_option linter.all false
set_option maxRecDepth 100000
set_option maxHeartbeats 4000000
/-! A ring beside the ranks, or None. -/
namespace Ev
open PySem PySem.Spec L2
variable [z : Tz]
structure IsRing (xs : List Str) (lw : Str → List Str) (r : List Str) : Prop where
  ne : r ≠ []
  nd : r.Nodup
  sub : ∀ s ∈ r, s ∈ xs
  nxt : ∀ (i : Nat) a b, r[i]? = some a → r[i + 1]? = some b → a ∈ lw b
  last : ∀ a b, r.getLast? = some a → r.head? = some b → a ∈ lw b
/-- what stands beside the ranks -/
def rest (xs F : List Str) : List Str := xs.filter fun s => !decide (s ∈ F)
def mRing (xs : List Str) (lw : Str → List Str) (F : List Str) : MP := if rest xs F = [] then mV .non else mEx (IsRing xs lw) fun r => mT (r.map mS)
theorem idx_app {a : Str} : ∀ {q r : List Str}, a ∈ q → idx a (q ++ r) = idx a q
  | x :: q, r, h => by
    unfold idx
    by_cases e : x = a
    · simp [e]
    · have := idx_app (r := r) ((List.mem_cons.mp h).resolve_left fun z => e z.symm)
      simp only [List.cons_append, e, if_false]
      rw [this]
theorem idx_snoc {a : Str} : ∀ {q : List Str}, a ∉ q → idx a (q ++ [a]) = q.length
  | [], _ => by simp [idx]
  | x :: q, h => by
    have e : ¬ x = a := fun z => h (by rw [z]; exact List.mem_cons_self ..)
    have ih := idx_snoc (q := q) fun z => h (List.mem_cons_of_mem _ z)
    unfold idx
    simp only [List.cons_append, e, if_false, List.length_cons]
    rw [ih]
theorem ring_of {xs : List Str} {lw : Str → List Str} {q : List Str} {x : Str} (hx : x ∈ q) (nd : q.Nodup) (sub : ∀ s ∈ q ++ [x], s ∈ xs) (ch : ∀ (i : Nat) a b, (q ++ [x])[i]? = some a → (q ++ [x])[i + 1]? = some b → b ∈ lw a) : IsRing xs lw ((q ++ [x]).drop (idx x q + 1)).reverse := by
  have lt := idx_lt hx
  have at_ := idx_get hx
  generalize idx x q = k at lt at_ ⊢
  have len : (q ++ [x]).length = q.length + 1 := by simp
  have dl : ((q ++ [x]).drop (k + 1)).length = q.length - k := by rw [List.length_drop, len]; omega
  have get : ∀ i, i < q.length - k → ((q ++ [x]).drop (k + 1)).reverse[i]? = (q ++ [x])[q.length - i]? := fun i hi => by
    rw [List.getElem?_reverse (by rw [dl]; exact hi), dl, List.getElem?_drop]
    congr 1
    omega
  have top : (q ++ [x])[q.length]? = some x := by rw [List.getElem?_append_right (Nat.le_refl _)]; simp
  have low : (q ++ [x])[k]? = some x := by rw [List.getElem?_append_left lt]; exact at_
  have rl : ((q ++ [x]).drop (k + 1)).reverse.length = q.length - k := by rw [List.length_reverse, dl]
  refine ⟨fun e => ?_, ?_, fun s m => ?_, fun i a b h1 h2 => ?_, fun a b h1 h2 => ?_⟩
  · rw [e] at rl
    simp at rl
    omega
  · rw [(List.reverse_perm _).nodup_iff, List.drop_append_of_le_length (by omega)]
    refine List.nodup_append.mpr ⟨nd.sublist (List.drop_sublist _ _), by simp, fun a ha b hb e => ?_⟩
    rw [List.mem_singleton.mp hb] at e
    rw [e] at ha
    have sp := split_at at_
    rw [sp] at nd
    exact (List.nodup_cons.mp (List.nodup_append.mp nd).2.1).1 ha
  · exact sub s (List.mem_of_mem_drop (List.mem_reverse.mp m))
  · have l2 : i + 1 < q.length - k := by rw [← rl]; exact (List.getElem?_eq_some_iff.mp h2).1
    rw [get i (by omega)] at h1
    rw [get (i + 1) l2] at h2
    refine ch (q.length - (i + 1)) b a h2 ?_
    rw [show q.length - (i + 1) + 1 = q.length - i by omega]
    exact h1
  · rw [List.getLast?_reverse, List.head?_drop] at h1
    rw [List.head?_reverse, List.getLast?_drop] at h2
    have hb : b = x := by
      split at h2
      · cases h2
      · rw [List.getLast?_append] at h2
        simpa using h2.symm
    rw [hb]
    exact ch k x a low h1
section
variable {pn : Option Addr} {Γ : Gam} {c c1 c2 : Nat} {te tb ti : TE} {O : Outs} {K : PySem.W.Frag} {Ps : List MP} {u : TS}
theorem ev_ixOI {i : Nat} {k : Int} {P : MP} (hi : Γ[i]? = some (.own (oL Ps))) (hk : Ev pn tb Γ c (mI k)) (hp : atI Ps k = some P) : Ev pn (tOp (rIxL K) (tVar i) tb) Γ c P := .mk fun {G H σ n} E l Q q => by
  obtain ⟨a, o, A⟩ := E.sl.own E.nd hi
  refine ⟨.ref a, A.val, hk.run E l _ fun y G1 H1 n1 k1 p1 l1 sy => ?_⟩
  obtain rfl : y = .int k := sy
  have A1 := A.step E hi k1 p1
  obtain ⟨vs, rfl, z⟩ := A1.pr
  obtain ⟨v, hv, pv⟩ := atI_zip z hp
  exact ⟨a, vs, k, v, rfl, rfl, SqL.of A1.obj, hv, q v _ _ n1 k1 p1 l1 pv⟩
theorem atI_zero {α : Type} {x : α} {xs : List α} : atI (x :: xs) 0 = some x := atI_nat (j := 0) rfl
theorem atI_top {α : Type} {q : List α} {x : α} : atI (q ++ [x]) (-1) = some x := atI_last q x
theorem et_truthL {ta : TE} (h : Ev pn ta Γ c (mL Ps)) : EvT pn (fun σ H Q => ta σ H fun x H' => ∃ k, TruV K x H' k ∧ Q k H') Γ c (· = !Ps.isEmpty) := .mk fun E l Q q => h.run E l _ fun x G1 H1 n1 k1 p1 l1 ⟨a, vs, ex, ha, z⟩ => by
  subst ex
  refine ⟨!vs.isEmpty, .inl ⟨vs, SqL.of (k1.gh.x ha), rfl⟩, q _ _ _ n1 k1 p1 l1 ?_⟩
  have := z.len
  cases vs <;> cases Ps <;> simp_all
theorem ev_neg {i : Int} (h : Ev pn te Γ c (mI i)) : Ev pn (tUn (rU fun i => .int (-i)) te) Γ c (mI (-i)) := ev_un h (.mk fun {G H x} e s Q q => ⟨i, s, q _ _ _ (.refl e) rfl⟩)
end
section
variable {K : PySem.W.Frag} {xs : List Str} {lw up : Str → List Str} {F : List Str}
theorem sx_ring (W : Web xs lw up) (R : Ranked xs lw F) :
    Sx none (tSeq (tAsg (tDcP false (iList K (tVar 1)) (gName 6) tYes (tVar 6) (tC (V.bl true)) [6]) (gName 2))
      (tSeq (tAsg (tLc (iKeys (tVar 0)) (gName 6) (tB (tDNotIn (tVar 6) (tVar 2))) (tVar 6) [6]) (gName 3))
      (tSeq (tIfS (tNot fun σ H_1 Q => tVar 3 σ H_1 fun x H' => ∃ k, TruV K x H' k ∧ Q k H') (tRet (tC V.non)) tNext)
      (tSeq (tAsg (tLst (tCons (tOp (rIxL K) (tVar 3) (tC (V.int 0))) tNil)) (gName 4))
      (tSeq (tAsg tDNewK (gName 5))
      (tSeq (tWhile (tB (tDNotIn (tOp (rIxL K) (tVar 4) (tUn (rU fun i => V.int (-i)) (tC (V.int 1)))) (tVar 5)))
          (tSeq (sDPut (tVar 5) (tOp (rIxL K) (tVar 4) (tUn (rU fun i => V.int (-i)) (tC (V.int 1)))) (tOp (rI0 fun i j => V.int (i - j)) (tCB (rLenX K) (tCons (tVar 4) tNil)) (tC (V.int 1))))
            (tDrop (tBM K "list" rAppend (tVar 4) (tCons (tOp (rIxL K) (tLc (iList K (tDGet (tVar 0) (tOp (rIxL K) (tVar 4) (tUn (rU fun i => V.int (-i)) (tC (V.int 1)))))) (gName 6) (tB (tDNotIn (tVar 6) (tVar 2))) (tVar 6) [6]) (tC (V.int 0))) tNil)))))
        (tRet (tCB (rTupOf K) (tCons (tRevTo K (tVar 4) (tDGet (tVar 5) (tOp (rIxL K) (tVar 4) (tUn (rU fun i => V.int (-i)) (tC (V.int 1)))))) tNil)))))))))
      [.im (mD xs fun s => mL ((lw s).map mS)), .im (mStrs F), .no, .no, .no, .no, .no] 0 (endO (mRing xs lw F)) := by
  have few := W.few
  have lF : F.length ≤ xs.length := nodup_len R.nd R.sub
  refine x_let (i := 2) (c1 := 0) (S := mD F fun _ => mV (.bl true)) (Ev.mono (ev_dcF (kf := id) (f := fun _ => mV (.bl true)) (ei_list (ev_var rfl)) (by omega) (by rw [List.map_id]; exact R.nd) fun s ms => ⟨_, _, gx_name, (by decide), ev_var rfl, ev_c⟩) (fun G v h => by rw [List.map_id] at h; exact h) (by simp)) ?_
  refine x_let (i := 3) (c1 := 0) (S := mStrs (rest xs F)) (Ev.mono (ev_of_en1 (en_lcL (R := mS) (R' := mS) (f := id) (b := fun s => !decide (s ∈ F)) (ei_keysF (ev_var rfl)) (by omega) fun s ms => ⟨_, _, gx_name, (by decide), et_BV (ev_notInF (ev_var (i := 6) rfl) (ev_var (i := 2) rfl)), fun _ => ev_var rfl⟩)) (fun G v h => by rw [List.map_id] at h; exact h) (by simp)) ?_
  show Sx none _ [.im (mD xs fun s => mL ((lw s).map mS)), .im (mStrs F), .im (mD F fun _ => mV (.bl true)), .im (mStrs (rest xs F)), .no, .no, .no] 0 _
  refine x_seq (fun Γ' => Γ' = [.im (mD xs fun s => mL ((lw s).map mS)), .im (mStrs F), .im (mD F fun _ => mV (.bl true)), .im (mStrs (rest xs F)), .no, .no, .no] ∧ rest xs F ≠ []) (c1 := 0) (sx_if (c2 := 0) (et_not (et_truthL (ev_var (i := 3) rfl))) (fun hT => ?_) fun hF => sx_next ⟨rfl, fun e => by rw [e] at hF; simp at hF⟩) (fun Γ' h => ?_)
  · have e : rest xs F = [] := by
      have : (rest xs F).map mS = [] := by simpa using hT
      simpa using this
    refine x_ret ev_c fun G v h => ?_
    unfold mRing
    rw [if_pos e]
    exact h
  obtain ⟨rfl, ne⟩ := h
  have inR : ∀ s, s ∈ rest xs F ↔ s ∈ xs ∧ s ∉ F := fun s => by
    unfold rest
    rw [List.mem_filter]
    simp
  obtain ⟨x0, r0, e0⟩ : ∃ x r, rest xs F = x :: r := by
    cases h : rest xs F with
    | nil => exact absurd h ne
    | cons x r => exact ⟨x, r, rfl⟩
  refine x_own (i := 4) (c1 := 0) (M := oL (([] ++ [x0]).map mS)) (en_lst (ea_cons (ev_op (ev_var (i := 3) rfl) ev_c (rv_ixL (P := mS x0) (by rw [e0]; exact atI_zero))) ea_nil)) ?_
  refine x_own (i := 5) (c1 := 0) (M := oD [] fun t => mI ((idx t [] : Nat) : Int)) en_dnewF ?_
  let Γp := fun (q : List Str) (x : Str) (s6 : Sl) => ([.im (mD xs fun s => mL ((lw s).map mS)), .im (mStrs F), .im (mD F fun _ => mV (.bl true)), .im (mStrs (rest xs F)), .own (oL ((q ++ [x]).map mS)), .own (oD q fun t => mI ((idx t q : Nat) : Int)), s6] : Gam)
  have top : ∀ q x s6, Ev none (tOp (rIxL K) (tVar 4) (tUn (rU fun i => V.int (-i)) (tC (V.int 1)))) (Γp q x s6) 0 (mS x) := fun q x s6 =>
    ev_ixOI (i := 4) (Ps := (q ++ [x]).map mS) rfl (ev_neg ev_c) (by rw [List.map_append]; exact atI_top)
  let Ok := fun (q : List Str) (x : Str) => q.Nodup ∧ (∀ s ∈ q ++ [x], s ∈ xs ∧ s ∉ F) ∧ ∀ (i : Nat) a b, (q ++ [x])[i]? = some a → (q ++ [x])[i + 1]? = some b → b ∈ lw a
  refine x_seq (c1 := 0) (fun Γ' => ∃ q x s6, Γ' = Γp q x s6 ∧ Ok q x ∧ x ∈ q)
    ((sx_while 0 0 xs.length (fun m Γ' => ∃ q x s6, Γ' = Γp q x s6 ∧ Ok q x ∧ m = xs.length - q.length) ⟨[], x0, _, rfl, ⟨List.nodup_nil, fun s m => (inR s).mp (by rw [e0]; rw [List.mem_singleton.mp m]; exact List.mem_cons_self ..), fun i a b _ h2 => by simp at h2⟩, rfl⟩ fun m Γ' hI => ?_).more (by omega)) (fun Γ' hI => ?_)
  · obtain ⟨q, x, s6, rfl, ⟨nd, sub, ch⟩, rfl⟩ := hI
    refine ⟨_, et_BV (ev_notInOF (i := 5) (xs := q) (f := fun t => mI ((idx t q : Nat) : Int)) rfl (top q x s6)), fun hT => ?_, fun hF => ⟨q, x, s6, rfl, ⟨nd, sub, ch⟩, ?_⟩⟩
    · have nx : x ∉ q := by simpa using hT.symm
      have nd2 : (q ++ [x]).Nodup := List.nodup_append.mpr ⟨nd, by simp, fun a ha b hb e => nx (by rw [← List.mem_singleton.mp hb, ← e]; exact ha)⟩
      have lq : (q ++ [x]).length ≤ xs.length := nodup_len nd2 fun s m => (sub s m).1
      rw [List.length_append] at lq
      have l1 : ([x] : List Str).length = 1 := rfl
      refine ⟨xs.length - (q.length + 1), by omega, ?_⟩
      have hx := sub x (by simp)
      refine x_seq1 ([.im (mD xs fun s => mL ((lw s).map mS)), .im (mStrs F), .im (mD F fun _ => mV (.bl true)), .im (mStrs (rest xs F)), .own (oL ((q ++ [x]).map mS)), .own (oD (q ++ [x]) fun t => mI ((idx t (q ++ [x]) : Nat) : Int)), s6] : Gam) (c1 := 0)
        ((sx_dputF (i := 5) (xs := q) (f := fun t => mI ((idx t q : Nat) : Int)) rfl (ev_op (ev_lenO (i := 4) (Ps := (q ++ [x]).map mS) rfl) ev_c rv_I0) (top q x s6) (by omega) ?_).more (by omega)) ?_
      · show _ = _
        have e1 : kput q x = q ++ [x] := if_neg nx
        have e2 : (oD (q ++ [x]) fun t => if t = x then mI ((((q ++ [x]).map mS).length : Nat) - 1) else mI ((idx t q : Nat) : Int)) = oD (q ++ [x]) fun t => mI ((idx t (q ++ [x]) : Nat) : Int) := oD_congr fun t mt => by
          by_cases e : t = x
          · rw [if_pos e, e, idx_snoc nx]
            congr 2
            rw [List.length_map, List.length_append]
            simp
          · rw [if_neg e, idx_app ((List.mem_append.mp mt).resolve_right fun z => e (List.mem_singleton.mp z))]
        rw [e1]
        show ([.im (mD xs fun s => mL ((lw s).map mS)), .im (mStrs F), .im (mD F fun _ => mV (.bl true)), .im (mStrs (rest xs F)), .own (oL ((q ++ [x]).map mS)), .own (oD (q ++ [x]) fun t => if t = x then mI ((((q ++ [x]).map mS).length : Nat) - 1) else mI ((idx t q : Nat) : Int)), s6] : Gam) = _
        rw [e2]
      · have top2 : Ev none (tOp (rIxL K) (tVar 4) (tUn (rU fun i => V.int (-i)) (tC (V.int 1)))) ([.im (mD xs fun s => mL ((lw s).map mS)), .im (mStrs F), .im (mD F fun _ => mV (.bl true)), .im (mStrs (rest xs F)), .own (oL ((q ++ [x]).map mS)), .own (oD (q ++ [x]) fun t => mI ((idx t (q ++ [x]) : Nat) : Int)), s6] : Gam) 0 (mS x) :=
          ev_ixOI (i := 4) (Ps := (q ++ [x]).map mS) rfl (ev_neg ev_c) (by rw [List.map_append]; exact atI_top)
        obtain ⟨l, ml, nl⟩ := R.out x hx.1 hx.2
        have lne : rest (lw x) F ≠ [] := fun e => by
          have : l ∈ rest (lw x) F := List.mem_filter.mpr ⟨ml, by simp [nl]⟩
          rw [e] at this
          cases this
        obtain ⟨y, r1, e1⟩ : ∃ y r, rest (lw x) F = y :: r := by
          cases h : rest (lw x) F with
          | nil => exact absurd h lne
          | cons y r => exact ⟨y, r, rfl⟩
        have my : y ∈ lw x ∧ y ∉ F := by
          have : y ∈ rest (lw x) F := by rw [e1]; exact List.mem_cons_self ..
          obtain ⟨h1, h2⟩ := List.mem_filter.mp this
          exact ⟨h1, by simpa using h2⟩
        have lx : (lw x).length ≤ xs.length := nodup_len (W.lwn x hx.1) (W.lwm x hx.1)
        refine Sx.more (c := 0) (sx_append (i := 4) (Ps := (q ++ [x]).map mS) (S := mS y) rfl (Ev.mono (ev_op (S1 := mStrs (rest (lw x) F)) (Ev.mono (ev_of_en1 (en_lcL (R := mS) (R' := mS) (f := id) (b := fun s => !decide (s ∈ F)) (ei_list (ev_dgetF (f := fun s => mL ((lw s).map mS)) (ev_var (i := 0) rfl) top2 hx.1)) (by omega) fun s ms => ⟨_, _, gx_name, (by decide), et_BV (ev_notInF (ev_var (i := 6) rfl) (ev_var (i := 2) rfl)), fun _ => ev_var rfl⟩)) (fun G v h => by rw [List.map_id] at h; exact h) (Nat.le_refl _)) ev_c (rv_ixL (P := mS y) (by rw [e1]; exact atI_zero))) (fun G v h => h) (by simp))
          (by rw [List.length_map, List.length_append]; omega) ⟨_, Nat.le_refl _, q ++ [x], y, s6, ?_, ⟨nd2, fun s m => ?_, fun i a b h1 h2 => ?_⟩, ?_⟩) (by omega)
        · show _ = _
          rw [show (q ++ [x]).map mS ++ [mS y] = (q ++ [x] ++ [y]).map mS by rw [List.map_append (l₁ := q ++ [x])]; rfl]
          rfl
        · rcases List.mem_append.mp m with m | m
          · exact sub s m
          · rw [List.mem_singleton.mp m]
            exact ⟨W.lwm x hx.1 y my.1, my.2⟩
        · have ln : (q ++ [x] ++ [y]).length = q.length + 2 := by simp
          have l3 := (List.getElem?_eq_some_iff.mp h2).1
          by_cases li : i + 1 < (q ++ [x]).length
          · rw [List.getElem?_append_left (by omega)] at h1
            rw [List.getElem?_append_left li] at h2
            exact ch i a b h1 h2
          · rw [List.length_append] at li
            have ei : i = q.length := by omega
            subst ei
            rw [List.getElem?_append_left (by simp), List.getElem?_append_right (Nat.le_refl _)] at h1
            rw [List.getElem?_append_right (by simp)] at h2
            simp at h1 h2
            rw [← h1, ← h2]
            exact my.1
        · rw [List.length_append]
          rfl
    · simpa using hF.symm
  · obtain ⟨q, x, s6, rfl, ⟨nd, sub, ch⟩, mx⟩ := hI
    refine sx_freeze (i := 4) (Ps := (q ++ [x]).map mS) rfl ?_
    have top3 : Ev none (tOp (rIxL K) (tVar 4) (tUn (rU fun i => V.int (-i)) (tC (V.int 1)))) ([.im (mD xs fun s => mL ((lw s).map mS)), .im (mStrs F), .im (mD F fun _ => mV (.bl true)), .im (mStrs (rest xs F)), .im (mL ((q ++ [x]).map mS)), .own (oD q fun t => mI ((idx t q : Nat) : Int)), s6] : Gam) 0 (mS x) :=
      ev_op (ev_var (i := 4) (S := mL ((q ++ [x]).map mS)) rfl) (ev_neg ev_c) (rv_ixL (by rw [List.map_append]; exact atI_top))
    have lt := idx_lt mx
    refine x_ret (ev_cb (ea_cons (ev_revTo (ev_var (i := 4) (S := mL ((q ++ [x]).map mS)) rfl) (ev_dgetOF (i := 5) (xs := q) (f := fun t => mI ((idx t q : Nat) : Int)) rfl top3 mx) (by rw [List.length_map, List.length_append]; omega)) ea_nil) rc_tupL) fun G v h => ?_
    unfold mRing
    rw [if_neg ne]
    refine ⟨_, ring_of mx nd (fun s m => (sub s m).1) ch, ?_⟩
    rw [← List.map_drop, ← List.map_reverse] at h
    exact h
end
end Ev

set_option Elab.async false
set_option linter.all false
set_option maxRecDepth 100000
set_option maxHeartbeats 4000000
/-! The weights of the heaviest chains that lead on from the items of a row. -/
namespace Ev
open PySem PySem.Spec L2
variable [z : Tz]
/-- each stands behind all that it leads to -/
def Behind (ln : Str → List Str) (F : List Str) : Prop := ∀ pre x post, F = pre ++ x :: post → x ∉ pre ∧ ∀ l ∈ ln x, l ∈ pre
def Weighed (wd : Str → Int) (ln : Str → List Str) (F : List Str) (f : Str → Int) : Prop := ∀ s ∈ F, f s = wd s + maxD ((ln s).map f) 0
theorem Behind.of {xs : List Str} {lw : Str → List Str} {F : List Str} (R : Ranked xs lw F) : Behind lw F := fun pre x post e => by
  have hx : F[pre.length]? = some x := by rw [e, List.getElem?_append_right (Nat.le_refl _)]; simp
  refine ⟨fun m => ?_, fun l ml => ?_⟩
  · have nd := R.nd
    rw [e] at nd
    exact (List.nodup_append.mp nd).2.2 x m x (List.mem_cons_self ..) rfl
  · obtain ⟨j, hj, hl⟩ := R.ahead _ _ hx l ml
    rw [e, List.getElem?_append_left hj] at hl
    exact List.mem_of_getElem? hl
theorem Behind.rev {xs : List Str} {lw up : Str → List Str} {F : List Str} (W : Web xs lw up) (R : Ranked xs lw F) (all : ∀ s ∈ xs, s ∈ F) : Behind up F.reverse := fun pre x post e => by
  have e2 : F = post.reverse ++ x :: pre.reverse := by
    have := congrArg List.reverse e
    simpa using this
  have hx : F[post.length]? = some x := by
    rw [e2, List.getElem?_append_right (by simp)]
    simp
  have mx := R.sub x (List.mem_of_getElem? hx)
  refine ⟨fun m => ?_, fun u mu => ?_⟩
  · have nd := (List.reverse_perm F).nodup_iff.mpr R.nd
    rw [e] at nd
    exact (List.nodup_append.mp nd).2.2 x m x (List.mem_cons_self ..) rfl
  · have mux := W.upm x mx u mu
    obtain ⟨i, hi⟩ := List.getElem?_of_mem (all u mux)
    obtain ⟨j, hj, hl⟩ := R.ahead i u hi x ((W.dual x mx u mux).mp mu)
    have ej : j = post.length := (List.getElem?_inj (by exact (List.getElem?_eq_some_iff.mp hl).1) R.nd).mp (hl.trans hx.symm)
    subst ej
    rw [e2, List.getElem?_append_right (by simp; omega)] at hi
    simp at hi
    have : i - post.length = (i - post.length - 1) + 1 := by omega
    rw [this] at hi
    simp at hi
    have := List.mem_of_getElem? hi
    exact List.mem_reverse.mp this
abbrev mWts (xs : List Str) (f : Str → Int) : MP := mD xs fun s => mI (f s)
section
variable {K : PySem.W.Frag} {xs : List Str} {ln : Str → List Str} {wd : Str → Int} {F : List Str}
theorem sx_weights (few : xs.length < 90000) (nd : F.Nodup) (sub : ∀ s ∈ F, s ∈ xs) (lnn : ∀ s ∈ xs, (ln s).length < 90000) (B : Behind ln F) :
    Sx none (tSeq (tAsg tDNewK (gName 3))
      (tSeq (tFor (iList K (tVar 2)) (gName 4)
          (sDPut (tVar 3) (tVar 4)
            (tOp (rI0 fun i j => V.int (i + j)) (tDGet (tVar 0) (tVar 4))
              (tCKw (rMaxDef K)
                (tCons (tLc (iList K (tDGet (tVar 1) (tVar 4))) (gName 5) tYes (tDGet (tVar 3) (tVar 5)) [5]) tNil)
                (tCons (tC (V.int 0)) tNil)))))
        (tRet (tFrz (tVar 3)))))
      [.im (mWts xs wd), .im (mD xs fun s => mL ((ln s).map mS)), .im (mStrs F), .no, .no, .no] 0 (endO (mEx (Weighed wd ln F) fun f => mWts F f)) := by
  have lF : F.length ≤ xs.length := nodup_len nd sub
  refine x_own (i := 3) (c1 := 0) (M := oD [] fun t => mI 0) en_dnewF ?_
  refine x_seq (c1 := 0) (fun Γ' => ∃ f s4 s5, Γ' = [.im (mWts xs wd), .im (mD xs fun s => mL ((ln s).map mS)), .im (mStrs F), .own (oD F fun s => mI (f s)), s4, s5] ∧ Weighed wd ln F f)
    (Sx.more (sx_forL (xs := F) (R := mS) (ei_list (ev_var rfl)) 0
      (fun pre Γ' => ∃ f s4 s5, Γ' = [.im (mWts xs wd), .im (mD xs fun s => mL ((ln s).map mS)), .im (mStrs F), .own (oD pre fun s => mI (f s)), s4, s5] ∧ Weighed wd ln pre f)
      ⟨fun _ => 0, _, _, rfl, fun s m => (nomatch m)⟩ (fun pre x post Γ' hs hI => ?_) fun Γ' h => h) (by omega)) (fun Γ' hI => ?_)
  · obtain ⟨f, s4, s5, rfl, hf⟩ := hI
    obtain ⟨nx, lm⟩ := B pre x post hs
    have mx : x ∈ xs := sub x (by rw [hs]; simp)
    have lp : pre.length ≤ F.length := by rw [hs, List.length_append]; omega
    -- what stands ahead is as it was
    have same : ∀ s ∈ pre, (ln s).map (fun t => if t = x then wd x + maxD ((ln x).map f) 0 else f t) = (ln s).map f := fun s ms => by
      obtain ⟨q, r, e⟩ := List.append_of_mem ms
      have lq := (B q s (r ++ x :: post) (by rw [hs, e]; simp)).2
      refine List.map_congr_left fun l ml => ?_
      have : l ∈ pre := by rw [e]; exact List.mem_append_left _ (lq l ml)
      exact if_neg fun z => nx (by rw [← z]; exact this)
    have samex : (ln x).map (fun t => if t = x then wd x + maxD ((ln x).map f) 0 else f t) = (ln x).map f := List.map_congr_left fun l ml => if_neg fun z => nx (by rw [← z]; exact lm l ml)
    refine ⟨_, _, gx_name, ?_⟩
    show Sx none _ [.im (mWts xs wd), .im (mD xs fun s => mL ((ln s).map mS)), .im (mStrs F), .own (oD pre fun s => mI (f s)), .im (mS x), s5] 0 _
    refine Sx.more (sx_dputF (i := 3) (xs := pre) (f := fun s => mI (f s)) (P := mI (wd x + maxD ((ln x).map f) 0)) (c1 := 0) rfl
      (Ev.mono (ev_op (ev_dgetF (f := fun s => mI (wd s)) (ev_var (i := 0) rfl) (ev_var (i := 4) (S := mS x) rfl) mx)
        (ev_maxDef (ns := (ln x).map f) (d := 0) (ea_cons (Ev.mono (ev_of_en1 (en_lcL (R := mS) (R' := mI) (f := f) (b := fun _ => true) (ei_list (ev_dgetF (f := fun s => mL ((ln s).map mS)) (ev_var (i := 1) rfl) (ev_var (i := 4) rfl) mx)) (by have := lnn x mx; omega) fun s ms => ⟨_, _, gx_name, (by decide), et_yes, fun _ => ev_dgetOF (i := 3) (xs := pre) (f := fun s => mI (f s)) rfl (ev_var (i := 5) rfl) (lm s ms)⟩)) (fun G v h => by rw [List.filter_eq_self.mpr fun _ _ => rfl] at h; exact h) (Nat.le_refl _)) ea_nil) (ea_cons ev_c ea_nil)) rv_I0) (fun G v h => h) (by simp))
      (ev_var (i := 4) (S := mS x) rfl) (by omega) ⟨fun t => if t = x then wd x + maxD ((ln x).map f) 0 else f t, .im (mS x), s5, ?_, fun s m => ?_⟩) (by omega)
    · show _ = _
      rw [mI_if]
      unfold kput
      rw [if_neg nx]
      rfl
    · rcases List.mem_append.mp m with m | m
      · rw [same s m]
        show (if s = x then _ else _) = _
        rw [if_neg fun z => nx (by rw [← z]; exact m)]
        exact hf s m
      · rw [List.mem_singleton.mp m, samex]
        exact if_pos rfl
  · obtain ⟨f, s4, s5, rfl, hf⟩ := hI
    exact x_retF (i := 3) (f := fun s => mI (f s)) rfl fun G v h => ⟨f, hf, h⟩
end
end Ev

set_option Elab.async false
set_option linter.all false
set_option maxRecDepth 100000
set_option maxHeartbeats 4000000
/-! xs[::-1] of a list. -/
namespace Ev
open PySem PySem.Spec L2
variable [z : Tz]
theorem Zip.rev {G : Hp} : ∀ {Ps : List MP} {vs : List V}, Zip G Ps vs → Zip G Ps.reverse vs.reverse
  | [], [], _ => trivial
  | P :: Ps, v :: vs, h => by
    rw [List.reverse_cons, List.reverse_cons]
    exact (Zip.rev h.2).app ⟨h.1, trivial⟩
  | [], _ :: _, h => h.elim
  | _ :: _, [], h => h.elim
section
variable {pn : Option Addr} {Γ : Gam} {c : Nat} {te : TE} {K : PySem.W.Frag} {Ps : List MP}
theorem ev_revL (h : Ev pn te Γ c (mL Ps)) : Ev pn (tRevL K te) Γ c (mL Ps.reverse) := .mk fun {G H σ n} E l Q q =>
  h.run E l _ fun x G1 H1 n1 k1 p1 l1 ⟨a, vs, ex, ha, z⟩ => by
    refine ⟨a, vs, ex, SqL.of (k1.gh.x ha), fun p hp => ?_⟩
    have k := Stp.new (o := .lst vs.reverse) k1.gh hp
    obtain ⟨k4, p4⟩ := k.pure p1
    exact q (.ref p) _ _ n1 (k1.trans0 k4) p4 l1 ⟨p, _, rfl, upd_same, (z.mono k.gg).rev⟩
theorem ev_revLM {α : Type} {xs : List α} {R : α → MP} (h : Ev pn te Γ c (mL (xs.map R))) : Ev pn (tRevL K te) Γ c (mL (xs.reverse.map R)) := by
  have k := ev_revL (K := K) h
  rw [← List.map_reverse] at k
  exact k
end
end Ev

set_option Elab.async false
set_option linter.all false
set_option maxRecDepth 100000
set_option maxHeartbeats 4000000
/-! A def with defaults: the rule for its body. -/
namespace Ev
open PySem PySem.Spec PyProof.Rows L2
variable [z : Tz]
/-- a target of several names within a comprehension -/
theorem pg_tupK {X : Cx} {K : PySem.W.Frag} {es : List Expr} {k : Nat} {t : TGs} {n : Nat} {pos : Pos} (hK : X.K = K) (hc : X.calm = true) (hn : (assignEach es X.env).length = n) (h : PGs X es t)
    (hst : (assignEach es X.env).findIdx? (·.1) = none := by rfl) : PG X (.Tuple es k pos) (gTup K n t) := by
  subst hK
  exact pg_tup hc h hn hst
section
variable {P : Program} {w : World} {K : PySem.W.Frag} {mg : Str → Option Value} {base : Heap}
theorem okGD {x qn : Str} {st : Stmt} {f : Addr} {fd : FuncData} {N ps : List Str} {k : Nat} {sp : Sp} {dvs : List V} {kws : List (Str × V)} (F : L2.FunD K x qn (defArgs st) (defBody st) (defScope st) dvs kws f fd) (S : FnScope N ps (defScope st)) (hl : ∀ vs H Q E, sp vs H Q E → vs.length = ps.length)
    (body : ∀ (cdv : Value) (A : Around) (outer : List PySem.Env) (s : Shared) (H : Hp) (vs : List V) (Q : VK) (E : XK), Calm (A.deeper (envOfC qn (defScope st) s.heap.objs.size f cdv)) → Room k (A.deeper (envOfC qn (defScope st) s.heap.objs.size f cdv)) → sp vs H Q E →
      ∃ t, PSs (cxOf CX0 P w K mg base N qn (defScope st) f cdv A outer s H E).nox (defBody st) t ∧ t { nx := fun _ H' => Q .non H', rt := Q } (start N vs) H) : GnOk P w K mg base CX0 (k + 1) f fd ps sp := by
  obtain ⟨oc, od, dV, kV, doc, pm, an, cdv, ct, osl, rfl, lk, hcd, _, _⟩ := F.ex
  refine gn_of lk hcd S hl fun A st' s H vs Q E c r h => ?_
  obtain ⟨t, h1, h2⟩ := body cdv A st' s H vs Q E c r h
  exact ⟨t, h1.nox, h2⟩
end
end Ev

set_option Elab.async false
set_option linter.all false
set_option maxRecDepth 100000
set_option maxHeartbeats 4000000
/-! Orders: what one is made of, and what its maker leaves. -/
namespace Ev
open PySem PySem.Spec PyProof.Rows L2
variable [z : Tz]
structure Ord where
  xs : List Str
  wd : Str → Int
  ps : List (Str × Str)
abbrev nmW (ws : List (Str × Int)) : List Str := ws.map (·.1)
abbrev vlW (ws : List (Str × Int)) (s : Str) : Int := (look ws s).getD 0
abbrev turn (p : Str × Str) : Str × Str := (p.2, p.1)
namespace Ord
abbrev up (o : Ord) : Str → List Str := lks o.ps
abbrev lw (o : Ord) : Str → List Str := lks (o.ps.map turn)
structure Ok (o : Ord) : Prop where
  nx : o.xs.Nodup
  few : o.xs.length < 64
  np : o.ps.Nodup
  fewp : o.ps.length < 64
  mem : ∀ p ∈ o.ps, p.1 ∈ o.xs ∧ p.2 ∈ o.xs
def Acy (o : Ord) : Prop := ∃ F, Ranked o.xs o.lw F ∧ ∀ s ∈ o.xs, s ∈ F
end Ord
abbrev mLinks' (xs : List Str) (g : Str → List Str) : MP := mD xs fun s => mL ((g s).map mS)
open Classical in
/-- the weights, if there are any -/
noncomputable def wts (wd : Str → Int) (ln : Str → List Str) (xs : List Str) : Str → Int := if h : ∃ f, Weighed wd ln xs f then h.choose else fun _ => 0
namespace Ord
noncomputable abbrev wup (o : Ord) : Str → Int := wts o.wd o.up o.xs
noncomputable abbrev wdn (o : Ord) : Str → Int := wts o.wd o.lw o.xs
/-- the same items, once each -/
def Same (o : Ord) (F : List Str) : Prop := F.Nodup ∧ ∀ s, s ∈ F ↔ s ∈ o.xs
open Classical in
noncomputable def mRg (o : Ord) : MP := if o.Acy then mV .non else mEx (IsRing o.xs o.lw) fun r => mT (r.map mS)
open Classical in
noncomputable def mUp (o : Ord) : MP := if o.Acy then mEx o.Same fun F => mWts F o.wup else mWts [] fun _ => 0
open Classical in
noncomputable def mDn (o : Ord) : MP := if o.Acy then mEx o.Same fun F => mWts F o.wdn else mWts [] fun _ => 0
noncomputable def fs (o : Ord) : List (Str × MP) := [("_widths", mWts o.xs o.wd), ("_pairs", mDT o.ps), ("_uppers", mLinks' o.xs o.up), ("_lowers", mLinks' o.xs o.lw), ("_ring", o.mRg), ("_up", o.mUp), ("_down", o.mDn)]
def make (ws : List (Str × Int)) (qs : List (Str × Str)) : Ord := ⟨sortS (nmW ws), vlW ws, sortP qs⟩
end Ord
structure ArgO where
  ws : List (Str × Int)
  qs : List (Str × Str)
  SW : MP
  S : MP
structure OkArg (x : ArgO) : Prop where
  wsrc : x.SW = mDk x.ws ∨ x.SW = mWts (nmW x.ws) (vlW x.ws)
  src : x.S = mL (x.qs.map mPair) ∨ x.S = mT (x.qs.map mPair)
  nd : (nmW x.ws).Nodup
  few : x.ws.length < 60
  fewp : x.qs.length < 60
  mem : ∀ p ∈ x.qs, p.1 ∈ nmW x.ws ∧ p.2 ∈ nmW x.ws
abbrev spOI (C : Addr) : Sp := SpI (α := ArgO) C (fun x => [x.SW, x.S]) OkArg (fun x => (Ord.make x.ws x.qs).fs)
end Ev

set_option Elab.async false
set_option linter.all false
set_option maxRecDepth 100000
set_option maxHeartbeats 4000000
/-! Orders: their links, weights told once, rings and ranks. -/
namespace Ev
open PySem PySem.Spec PyProof.Rows L2
variable [z : Tz]
theorem weighed_uniq {wd : Str → Int} {ln : Str → List Str} {F : List Str} {f g : Str → Int} (B : Behind ln F) (hf : Weighed wd ln F f) (hg : Weighed wd ln F g) : ∀ s ∈ F, f s = g s := by
  have key : ∀ n (pre post : List Str), pre.length = n → F = pre ++ post → ∀ s ∈ pre, f s = g s := by
    intro n
    induction n with
    | zero => intro pre post h _ s m; rw [List.length_eq_zero_iff.mp h] at m; cases m
    | succ n ih =>
      intro pre post h e s m
      obtain ⟨q, x, rfl⟩ : ∃ q x, pre = q ++ [x] := by
        rcases List.eq_nil_or_concat pre with z | ⟨q, x, z⟩
        · rw [z] at h; cases h
        · exact ⟨q, x, by rw [z, List.concat_eq_append]⟩
      have lq : q.length = n := by rw [List.length_append] at h; simpa using h
      have e2 : F = q ++ ([x] ++ post) := by rw [e, List.append_assoc]
      have ihq := ih q _ lq e2
      rcases List.mem_append.mp m with m | m
      · exact ihq s m
      · rw [List.mem_singleton.mp m]
        have mF : x ∈ F := by rw [e]; simp
        obtain ⟨_, b⟩ := B q x post e2
        rw [hf x mF, hg x mF]
        congr 2
        exact List.map_congr_left fun l ml => ihq l (b l ml)
  exact key F.length F [] rfl (by simp)
theorem Weighed.set {wd : Str → Int} {ln : Str → List Str} {F xs : List Str} {f : Str → Int} (h : Weighed wd ln F f) (e : ∀ s, s ∈ F ↔ s ∈ xs) : Weighed wd ln xs f := fun s m => h s ((e s).mpr m)
theorem wts_ok {wd : Str → Int} {ln : Str → List Str} {xs : List Str} {f : Str → Int} (h : Weighed wd ln xs f) : Weighed wd ln xs (wts wd ln xs) := by
  unfold wts
  rw [dif_pos ⟨f, h⟩]
  exact (Exists.choose_spec (⟨f, h⟩ : ∃ f, Weighed wd ln xs f))
theorem wts_eq {wd : Str → Int} {ln : Str → List Str} {F xs : List Str} {f : Str → Int} (B : Behind ln F) (e : ∀ s, s ∈ F ↔ s ∈ xs) (h : Weighed wd ln F f) : ∀ s ∈ F, f s = wts wd ln xs s :=
  weighed_uniq B h ((wts_ok (h.set e)).set fun s => (e s).symm)
theorem lks_nodup {ps : List (Str × Str)} (nd : ps.Nodup) (s : Str) : (lks ps s).Nodup := by
  unfold lks
  refine List.pairwise_map.mpr ?_
  refine List.Pairwise.imp_of_mem (S := fun a b => a.2 ≠ b.2) (R := fun a b => a ≠ b) (fun {a b} ma mb ne e => ne ?_) (nd.filter _)
  have ha : a.1 = s := by simpa using (List.mem_filter.mp ma).2
  have hb : b.1 = s := by simpa using (List.mem_filter.mp mb).2
  exact Prod.ext (ha.trans hb.symm) e
theorem mem_turn {ps : List (Str × Str)} {s t : Str} : (s, t) ∈ ps.map turn ↔ (t, s) ∈ ps := by
  rw [List.mem_map]
  constructor
  · rintro ⟨p, m, e⟩
    have h1 : p.2 = s := congrArg Prod.fst e
    have h2 : p.1 = t := congrArg Prod.snd e
    have : p = (t, s) := Prod.ext h2 h1
    rw [← this]
    exact m
  · exact fun m => ⟨_, m, rfl⟩
theorem nodup_turn {ps : List (Str × Str)} (nd : ps.Nodup) : (ps.map turn).Nodup := by
  refine List.pairwise_map.mpr (nd.imp fun {a b} ne e => ne ?_)
  have h1 : a.2 = b.2 := congrArg Prod.fst e
  have h2 : a.1 = b.1 := congrArg Prod.snd e
  exact Prod.ext h2 h1
namespace Ord
theorem Ok.web {o : Ord} (h : o.Ok) : Web o.xs o.lw o.up := by
  refine ⟨h.nx, by have := h.few; omega, fun s _ l m => ?_, fun s _ => lks_nodup (nodup_turn h.np) s, fun s _ u m => ?_, fun s _ => lks_nodup h.np s, fun s _ t _ => ?_⟩
  · exact (h.mem _ (mem_turn.mp (mem_lks.mp m))).1
  · exact (h.mem _ (mem_lks.mp m)).2
  · rw [mem_lks, mem_lks, mem_turn]
theorem acy_all {o : Ord} {F : List Str} (R : Ranked o.xs o.lw F) (A : o.Acy) : ∀ s ∈ o.xs, s ∈ F := by
  obtain ⟨F', R', all⟩ := A
  have key : ∀ (n i : Nat) (s : Str), i < n → F'[i]? = some s → s ∈ F := by
    intro n
    induction n with
    | zero => intro i s h; omega
    | succ n ih =>
      intro i s h e
      by_cases c : s ∈ F
      · exact c
      · obtain ⟨l, ml, nl⟩ := R.out s (R'.sub s (List.mem_of_getElem? e)) c
        obtain ⟨j, hj, e2⟩ := R'.ahead i s e l ml
        exact absurd (ih j l (by omega) e2) nl
  intro s m
  obtain ⟨i, hi⟩ := List.getElem?_of_mem (all s m)
  exact key (i + 1) i s (Nat.lt_succ_self _) hi
theorem rest_nil {xs F : List Str} : rest xs F = [] ↔ ∀ s ∈ xs, s ∈ F := by
  unfold rest
  rw [List.filter_eq_nil_iff]
  constructor
  · intro h s m
    have := h s m
    simpa using this
  · intro h s m
    simp [h s m]
theorem acy_iff {o : Ord} {F : List Str} (R : Ranked o.xs o.lw F) : o.Acy ↔ rest o.xs F = [] :=
  ⟨fun A => rest_nil.mpr (acy_all R A), fun h => ⟨F, R, rest_nil.mp h⟩⟩
theorem mRing_eq {o : Ord} {F : List Str} (R : Ranked o.xs o.lw F) : mRing o.xs o.lw F = o.mRg := by
  unfold mRing mRg
  by_cases A : o.Acy
  · rw [if_pos A, if_pos ((acy_iff R).mp A)]
  · rw [if_neg A, if_neg fun z => A ((acy_iff R).mpr z)]
theorem make_ok {x : ArgO} (h : OkArg x) : (make x.ws x.qs).Ok := by
  have lx : (make x.ws x.qs).xs.length = x.ws.length := by
    show (sortS (nmW x.ws)).length = _
    rw [(sortS_perm _).length_eq, List.length_map]
  refine ⟨(sortS_perm _).nodup_iff.mpr h.nd, by rw [lx]; have := h.few; omega, nodup_sortP _, ?_, fun p m => ?_⟩
  · have h1 := length_sortP x.qs
    have h2 := h.fewp
    show (sortP x.qs).length < 64
    omega
  · obtain ⟨h1, h2⟩ := h.mem p (mem_sortP.mp m)
    exact ⟨(sortS_perm _).mem_iff.mpr h1, (sortS_perm _).mem_iff.mpr h2⟩
end Ord
end Ev

set_option Elab.async false
set_option linter.all false
set_option maxRecDepth 100000
set_option maxHeartbeats 4000000
/-! The maker of an order. -/
namespace Ev
open PySem PySem.Spec PyProof.Rows L2
variable [z : Tz]
theorem look_val {ws : List (Str × Int)} {s : Str} (h : s ∈ nmW ws) : look ws s = some (vlW ws s) := by
  have e := look_isSome s ws
  rw [decide_eq_true h] at e
  obtain ⟨v, hv⟩ := Option.isSome_iff_exists.mp e
  unfold vlW
  rw [hv]
  rfl
section
variable {pn : Option Addr} {Γ : Gam} {c : Nat} {ta : TE} {K : PySem.W.Frag} {S : MP}
theorem rv_isN0 : RV rIsN (mV .non) (mV .non) (mV (.bl true)) := .mk fun {G H x y} e h1 h2 Q q => by
  obtain rfl : x = .non := h1
  obtain rfl : y = .non := h2
  exact ⟨rfl, q _ G H (.refl e) rfl⟩
theorem rv_isN1 (h : ∀ G v, S.pr G v → v ≠ .non) : RV rIsN S (mV .non) (mV (.bl false)) := .mk fun {G H x y} e h1 h2 Q q => by
  obtain rfl : y = .non := h2
  refine ⟨rfl, ?_⟩
  rw [decide_eq_false (h _ _ h1)]
  exact q _ G H (.refl e) rfl
theorem rv_notN0 : RV rNotN (mV .non) (mV .non) (mV (.bl false)) := .mk fun {G H x y} e h1 h2 Q q => by
  obtain rfl : x = .non := h1
  obtain rfl : y = .non := h2
  exact ⟨rfl, q _ G H (.refl e) rfl⟩
theorem rv_notN1 (h : ∀ G v, S.pr G v → v ≠ .non) : RV rNotN S (mV .non) (mV (.bl true)) := .mk fun {G H x y} e h1 h2 Q q => by
  obtain rfl : y = .non := h2
  refine ⟨rfl, ?_⟩
  rw [decide_eq_false (h _ _ h1)]
  exact q _ G H (.refl e) rfl
end
theorem rc_sortedF {xs : List Str} {f : Str → MP} (h : xs.length < 64) : RC rSortedDk [mD xs f] (mAsc xs) := .mk fun {G H vs} e z Q q => by
  obtain ⟨v, rfl, a, od, kvs, rfl, ha, zk⟩ := zip1 z
  have keys : ∀ {xs : List Str} {kvs : List (Key × V)}, ZipK G (fK xs f) kvs → kvs.map (·.1) = xs.map Sum.inr := by
    intro xs
    induction xs with
    | nil => intro kvs h; cases kvs with
      | nil => rfl
      | cons _ _ => exact h.elim
    | cons x xs ih => intro kvs h; cases kvs with
      | nil => exact h.elim
      | cons q kvs => exact congr (congrArg List.cons h.1.1) (ih h.2)
  refine ⟨a, kvs, xs, rfl, .inr ⟨od, e.x ha⟩, keys zk, h, fun ys p pr sr hp => ?_⟩
  have k := Stp.new (o := .lst (ys.map V.str)) e hp
  refine q _ _ _ k ⟨ys, ⟨pr, sr⟩, p, _, rfl, upd_same, ?_⟩
  have zs : ∀ ys : List Str, Zip (upd G p (.lst (ys.map V.str))) (ys.map mS) (ys.map V.str) := fun ys => by
    have : ∀ (G : Hp) (ys : List Str), Zip G (ys.map mS) (ys.map V.str) := fun G ys => by
      induction ys with
      | nil => trivial
      | cons y ys ih => exact ⟨rfl, ih⟩
    exact this _ _
  exact zs ys
abbrev spAm : Sp := SpF (α := Str × MP × List Str) (fun x => [mS x.1, x.2.1]) (fun x => DIn x.2.1 x.2.2) (fun x => mV (.bl (decide (x.1 ∈ x.2.2))))
structure ArgLn where
  xs : List Str
  f : Str → MP
  ps : List (Str × Str)
  S : MP
abbrev spLn : Sp := SpF (α := ArgLn) (fun x => [mD x.xs x.f, x.S]) (fun x => PairsIn x.ps x.S ∧ x.xs.Nodup ∧ x.xs.length < 100000 ∧ x.ps.length < 100000 ∧ ∀ p ∈ x.ps, p.1 ∈ x.xs) (fun x => mD x.xs fun s => mL ((lks x.ps s).map mS))
structure ArgRk where
  xs : List Str
  lw : Str → List Str
  up : Str → List Str
abbrev mLinks (xs : List Str) (g : Str → List Str) : MP := mD xs fun s => mL ((g s).map mS)
abbrev spRk : Sp := SpF (α := ArgRk) (fun x => [mLinks x.xs x.lw, mLinks x.xs x.up]) (fun x => Web x.xs x.lw x.up) (fun x => mEx (Ranked x.xs x.lw) mStrs)
structure ArgRb where
  xs : List Str
  lw : Str → List Str
  up : Str → List Str
  F : List Str
abbrev spRb : Sp := SpF (α := ArgRb) (fun x => [mLinks x.xs x.lw, mStrs x.F]) (fun x => Web x.xs x.lw x.up ∧ Ranked x.xs x.lw x.F) (fun x => mRing x.xs x.lw x.F)
structure ArgWa where
  xs : List Str
  wd : Str → Int
  ln : Str → List Str
  F : List Str
abbrev spWa : Sp := SpF (α := ArgWa) (fun x => [mWts x.xs x.wd, mLinks x.xs x.ln, mStrs x.F]) (fun x => x.xs.length < 90000 ∧ x.F.Nodup ∧ (∀ s ∈ x.F, s ∈ x.xs) ∧ (∀ s ∈ x.xs, (x.ln s).length < 90000) ∧ Behind x.ln x.F) (fun x => mEx (Weighed x.wd x.ln x.F) fun f => mWts x.F f)
abbrev ordF : List Str := ["_widths", "_pairs", "_uppers", "_lowers", "_ring", "_up", "_down"]
section
variable {K : PySem.W.Frag} {C a : Addr} {x : ArgO}
theorem Ord.Ok.lens {o : Ord} (h : o.Ok) : o.xs.length < 64 ∧ o.ps.length < 64 ∧ ∀ ps : List (Str × Str), ps.length = o.ps.length → ∀ s, (lks ps s).length < 64 := by
  refine ⟨h.few, h.fewp, fun ps e s => ?_⟩
  unfold lks
  rw [List.length_map]
  have h1 := List.length_filter_le (fun p => decide (p.1 = s)) ps
  have h2 := h.fewp
  omega
theorem sx_oinit2 {o : Ord} (ok : o.Ok) (cl : Cls K C) (na : ∀ f ∈ ordF, NoAttr K C f) {s1 s2 s3 s4 : Sl} :
    Sx none (tSeq (sFld K (tVar 0) (tCall spLn [] E0 (tCons (tFld K (tVar 0) "_widths") (tCons (tFld K (tVar 0) "_pairs") tNil))) "_uppers")
      (tSeq (sFld K (tVar 0) (tCall spLn [] E0 (tCons (tFld K (tVar 0) "_widths") (tCons (tLc (iKeys (tFld K (tVar 0) "_pairs")) (gTup K 2 (gCons (gName 7) (gCons (gName 8) gNil))) tYes (tTup (tCons (tVar 8) (tCons (tVar 7) tNil))) [7, 8]) tNil))) "_lowers")
      (tSeq (tAsg (tCall spRk [] E0 (tCons (tFld K (tVar 0) "_lowers") (tCons (tFld K (tVar 0) "_uppers") tNil))) (gName 5))
      (tSeq (sFld K (tVar 0) (tCall spRb [] E0 (tCons (tFld K (tVar 0) "_lowers") (tCons (tVar 5) tNil))) "_ring")
      (tSeq (tAsg (tIf (tTest (tOp rIsN (tFld K (tVar 0) "_ring") (tC V.non))) (tVar 5) (tLst tNil)) (gName 6))
      (tSeq (sFld K (tVar 0) (tCall spWa [] E0 (tCons (tFld K (tVar 0) "_widths") (tCons (tFld K (tVar 0) "_uppers") (tCons (tRevL K (tVar 6)) tNil)))) "_up")
        (sFld K (tVar 0) (tCall spWa [] E0 (tCons (tFld K (tVar 0) "_widths") (tCons (tFld K (tVar 0) "_lowers") (tCons (tVar 6) tNil)))) "_down")))))))
      [.own (oOb C a [("_widths", mWts o.xs o.wd), ("_pairs", mDT o.ps)]), s1, s2, s3, s4, .no, .no, .no, .no] 0 (initO C a o.fs) := by
  obtain ⟨few, fewp, lens⟩ := ok.lens
  have W := ok.web
  have nW : NoAttr K C "_widths" := na _ (by decide)
  have nP : NoAttr K C "_pairs" := na _ (by decide)
  have nU : NoAttr K C "_uppers" := na _ (by decide)
  have nL : NoAttr K C "_lowers" := na _ (by decide)
  have nR : NoAttr K C "_ring" := na _ (by decide)
  have nUp : NoAttr K C "_up" := na _ (by decide)
  have nDn : NoAttr K C "_down" := na _ (by decide)
  have lt : (o.ps.map turn).length = o.ps.length := List.length_map _
  refine x_fld (i := 0) (c1 := 0) (S := mLinks o.xs o.up) (fs := [("_widths", mWts o.xs o.wd), ("_pairs", mDT o.ps)]) rfl
    (ev_callF (⟨o.xs, fun s => mI (o.wd s), o.ps, mDT o.ps⟩ : ArgLn) (ea_cons (ev_fldO (i := 0) rfl cl nW rfl) (ea_cons (ev_fldO (i := 0) rfl cl nP rfl) ea_nil)) ⟨.dict, ok.nx, by show o.xs.length < _; omega, by show o.ps.length < _; omega, fun p m => (ok.mem p m).1⟩) cl nU (by simp) rfl ?_
  refine x_fld (i := 0) (c1 := 0) (S := mLinks o.xs o.lw) (fs := [("_widths", mWts o.xs o.wd), ("_pairs", mDT o.ps), ("_uppers", mLinks o.xs o.up)]) rfl
    (Ev.mono (ev_callF (⟨o.xs, fun s => mI (o.wd s), o.ps.map turn, mL ((o.ps.map turn).map mPair)⟩ : ArgLn) (ea_cons (ev_fldO (i := 0) rfl cl nW rfl) (ea_cons (Ev.mono (ev_of_en1 (en_lcL (R := mPair) (R' := mPair) (f := turn) (b := fun _ => true) (ei_keysT (ev_fldO (i := 0) rfl cl nP rfl)) (by omega) fun p mp => ⟨_, _, gx_tup (gxs_cons gx_name (gxs_cons gx_name gxs_nil)) rfl, (by decide), et_yes, fun _ => ev_tup (ea_cons (ev_var (i := 8) rfl) (ea_cons (ev_var (i := 7) rfl) ea_nil))⟩)) (fun G v h => by rw [List.filter_eq_self.mpr fun _ _ => rfl] at h; exact h) (Nat.le_refl _)) ea_nil)) ⟨.list, ok.nx, by show o.xs.length < _; omega, by show (o.ps.map turn).length < _; omega, fun p m => by
      obtain ⟨q, mq, rfl⟩ := List.mem_map.mp m
      exact (ok.mem q mq).2⟩) (fun G v h => h) (by simp)) cl nL (by simp) rfl ?_
  refine x_one (c1 := 0) (ev_callF (⟨o.xs, o.lw, o.up⟩ : ArgRk) (ea_cons (ev_fldO (i := 0) rfl cl nL rfl) (ea_cons (ev_fldO (i := 0) rfl cl nU rfl) ea_nil)) W) fun F R => ?_
  replace R : Ranked o.xs o.lw F := R
  have lF : F.length ≤ o.xs.length := nodup_len R.nd R.sub
  refine x_fld (i := 0) (c1 := 0) (S := o.mRg) (fs := [("_widths", mWts o.xs o.wd), ("_pairs", mDT o.ps), ("_uppers", mLinks o.xs o.up), ("_lowers", mLinks o.xs o.lw)]) rfl
    (Ev.mono (ev_callF (⟨o.xs, o.lw, o.up, F⟩ : ArgRb) (ea_cons (ev_fldO (i := 0) rfl cl nL rfl) (ea_cons (ev_var (i := 5) rfl) ea_nil)) ⟨W, R⟩) (fun G v h => by rw [← Ord.mRing_eq R]; exact h) (by simp)) cl nR (by simp) rfl ?_
  have fin : ∀ (row : List Str), (∀ s ∈ row, s ∈ o.xs) → row.Nodup → Behind o.lw row → Behind o.up row.reverse →
      (∀ f, Weighed o.wd o.up row.reverse f → ∀ G v, (mWts row.reverse f).pr G v → o.mUp.pr G v) → (∀ f, Weighed o.wd o.lw row f → ∀ G v, (mWts row f).pr G v → o.mDn.pr G v) →
      Sx none (tSeq (sFld K (tVar 0) (tCall spWa [] E0 (tCons (tFld K (tVar 0) "_widths") (tCons (tFld K (tVar 0) "_uppers") (tCons (tRevL K (tVar 6)) tNil)))) "_up")
        (sFld K (tVar 0) (tCall spWa [] E0 (tCons (tFld K (tVar 0) "_widths") (tCons (tFld K (tVar 0) "_lowers") (tCons (tVar 6) tNil)))) "_down"))
      [.own (oOb C a [("_widths", mWts o.xs o.wd), ("_pairs", mDT o.ps), ("_uppers", mLinks o.xs o.up), ("_lowers", mLinks o.xs o.lw), ("_ring", o.mRg)]), s1, s2, s3, s4, .im (mStrs F), .im (mStrs row), .no, .no] 0 (initO C a o.fs) := fun row sub nd b1 b2 u1 u2 => by
    refine x_fld (i := 0) (c1 := 0) (S := o.mUp) (fs := [("_widths", mWts o.xs o.wd), ("_pairs", mDT o.ps), ("_uppers", mLinks o.xs o.up), ("_lowers", mLinks o.xs o.lw), ("_ring", o.mRg)]) rfl
      (Ev.mono (ev_callF (⟨o.xs, o.wd, o.up, row.reverse⟩ : ArgWa) (ea_cons (ev_fldO (i := 0) rfl cl nW rfl) (ea_cons (ev_fldO (i := 0) rfl cl nU rfl) (ea_cons (ev_revLM (ev_var (i := 6) rfl)) ea_nil)))
        ⟨by show o.xs.length < _; omega, (List.reverse_perm row).nodup_iff.mpr nd, fun s m => sub s (List.mem_reverse.mp m), fun s _ => by have := lens o.ps rfl s; show (lks o.ps s).length < _; omega, b2⟩) (fun G v ⟨f, hf, h⟩ => u1 f hf G v h) (by simp)) cl nUp (by simp) rfl ?_
    refine sx_fld (i := 0) (S := o.mDn) (fs := [("_widths", mWts o.xs o.wd), ("_pairs", mDT o.ps), ("_uppers", mLinks o.xs o.up), ("_lowers", mLinks o.xs o.lw), ("_ring", o.mRg), ("_up", o.mUp)]) rfl
      (Ev.mono (ev_callF (⟨o.xs, o.wd, o.lw, row⟩ : ArgWa) (ea_cons (ev_fldO (i := 0) rfl cl nW rfl) (ea_cons (ev_fldO (i := 0) rfl cl nL rfl) (ea_cons (ev_var (i := 6) rfl) ea_nil)))
        ⟨by show o.xs.length < _; omega, nd, sub, fun s _ => by have := lens (o.ps.map turn) lt s; show (lks (o.ps.map turn) s).length < _; omega, b1⟩) (fun G v ⟨f, hf, h⟩ => u2 f hf G v h) (by simp)) cl nDn (by simp) rfl ?_
    rfl
  by_cases A : o.Acy
  · have eR : o.mRg = mV .non := by unfold Ord.mRg; rw [if_pos A]
    have all := Ord.acy_all R A
    have same : ∀ s, s ∈ F ↔ s ∈ o.xs := fun s => ⟨R.sub s, all s⟩
    have B1 := Behind.of R
    have B2 := Behind.rev W R all
    refine x_let (i := 6) (c1 := 0) (S := mStrs F) (Ev.mono (ev_if (c1 := 0) (c2 := 0) (et_testV (ev_op (ev_fldO (i := 0) rfl cl nR (by rw [← eR]; rfl)) ev_c rv_isN0)) (fun _ => ev_var (i := 5) rfl) (fun z => nomatch z)) (fun G v h => h) (by simp)) ?_
    refine fin F R.sub R.nd B1 B2 (fun f hf G v h => ?_) (fun f hf G v h => ?_)
    · unfold Ord.mUp
      rw [if_pos A]
      refine ⟨F.reverse, ⟨(List.reverse_perm F).nodup_iff.mpr R.nd, fun s => List.mem_reverse.trans (same s)⟩, ?_⟩
      show (mWts F.reverse o.wup).pr G v
      rw [show mWts F.reverse o.wup = mWts F.reverse f from mD_congr fun s m => by rw [wts_eq B2 (fun s => List.mem_reverse.trans (same s)) hf s m]]
      exact h
    · unfold Ord.mDn
      rw [if_pos A]
      refine ⟨F, ⟨R.nd, same⟩, ?_⟩
      show (mWts F o.wdn).pr G v
      rw [show mWts F o.wdn = mWts F f from mD_congr fun s m => by rw [wts_eq B1 same hf s m]]
      exact h
  · have eR : o.mRg = mEx (IsRing o.xs o.lw) fun r => mT (r.map mS) := by unfold Ord.mRg; rw [if_neg A]
    refine x_let (i := 6) (c1 := 0) (S := mStrs []) (Ev.mono (ev_if (c1 := 0) (c2 := 0) (et_testV (ev_op (ev_fldO (i := 0) rfl cl nR (by rw [← eR]; rfl)) ev_c (rv_isN1 (S := mEx (IsRing o.xs o.lw) fun r => mT (r.map mS)) fun G v ⟨r, _, b, vs, e, _⟩ z => by rw [e] at z; cases z))) (fun z => nomatch z) (fun _ => ev_lst ea_nil)) (fun G v h => h) (by simp)) ?_
    refine fin [] (fun s m => (nomatch m)) List.nodup_nil (fun pre x post e => by simp at e) (fun pre x post e => by simp at e) (fun f hf G v h => ?_) (fun f hf G v h => ?_)
    · unfold Ord.mUp
      rw [if_neg A]
      exact h
    · unfold Ord.mDn
      rw [if_neg A]
      exact h
theorem sx_oinit (hx : OkArg x) (cl : Cls K C) (na : ∀ f ∈ ordF, NoAttr K C f) :
    Sx none (tSeq (tFor (iOr (iList K (tVar 2)) (iTup K (tVar 2))) (gName 3) (tFor (iTup K (tVar 3)) (gName 4) (tIfS (tNot (tB (tCall spAm [] E0 (tCons (tVar 4) (tCons (tVar 1) tNil))))) tNever tNext)))
      (tSeq (sFld K (tVar 0) (tDcP false (iList K (tCB rSortedDk (tCons (tVar 1) tNil))) (gName 4) tYes (tVar 4) (tDGet (tVar 1) (tVar 4)) [4]) "_widths")
      (tSeq (sFld K (tVar 0) (tDcP true (iList K (tSortSet K (tVar 2))) (gName 3) tYes (tVar 3) (tC (V.bl true)) [3]) "_pairs")
      (tSeq (sFld K (tVar 0) (tCall spLn [] E0 (tCons (tFld K (tVar 0) "_widths") (tCons (tFld K (tVar 0) "_pairs") tNil))) "_uppers")
      (tSeq (sFld K (tVar 0) (tCall spLn [] E0 (tCons (tFld K (tVar 0) "_widths") (tCons (tLc (iKeys (tFld K (tVar 0) "_pairs")) (gTup K 2 (gCons (gName 7) (gCons (gName 8) gNil))) tYes (tTup (tCons (tVar 8) (tCons (tVar 7) tNil))) [7, 8]) tNil))) "_lowers")
      (tSeq (tAsg (tCall spRk [] E0 (tCons (tFld K (tVar 0) "_lowers") (tCons (tFld K (tVar 0) "_uppers") tNil))) (gName 5))
      (tSeq (sFld K (tVar 0) (tCall spRb [] E0 (tCons (tFld K (tVar 0) "_lowers") (tCons (tVar 5) tNil))) "_ring")
      (tSeq (tAsg (tIf (tTest (tOp rIsN (tFld K (tVar 0) "_ring") (tC V.non))) (tVar 5) (tLst tNil)) (gName 6))
      (tSeq (sFld K (tVar 0) (tCall spWa [] E0 (tCons (tFld K (tVar 0) "_widths") (tCons (tFld K (tVar 0) "_uppers") (tCons (tRevL K (tVar 6)) tNil)))) "_up")
        (sFld K (tVar 0) (tCall spWa [] E0 (tCons (tFld K (tVar 0) "_widths") (tCons (tFld K (tVar 0) "_lowers") (tCons (tVar 6) tNil)))) "_down"))))))))))
      [.own (oOb C a []), .im x.SW, .im x.S, .no, .no, .no, .no, .no, .no] 0 (initO C a (Ord.make x.ws x.qs).fs) := by
  have few := hx.few
  have fewp := hx.fewp
  have ok := Ord.make_ok hx
  have din : DIn x.SW (nmW x.ws) := by
    rcases hx.wsrc with h | h
    · rw [h]; exact din_Dk
    · rw [h]; exact din_F
  have hso : ∀ {Γ : Gam}, Γ[1]? = some (.im x.SW) → Ev none (tCB rSortedDk (tCons (tVar 1) tNil)) Γ 0 (mStrs (sortS (nmW x.ws))) := fun {Γ} e => by
    rcases hx.wsrc with h | h
    · exact Ev.mono (ev_cb (ea_cons (ev_var (S := mDk x.ws) (by rw [e, h])) ea_nil) (rc_sortedDk (by omega))) (fun G v h => mAsc_of h) (Nat.le_refl _)
    · exact Ev.mono (ev_cb (ea_cons (ev_var (S := mWts (nmW x.ws) (vlW x.ws)) (by rw [e, h])) ea_nil) (rc_sortedF (by rw [List.length_map]; omega))) (fun G v h => mAsc_of h) (Nat.le_refl _)
  have hge : ∀ {Γ : Gam} {ty : TE} {s : Str}, Γ[1]? = some (.im x.SW) → Ev none ty Γ 0 (mS s) → s ∈ nmW x.ws → Ev none (tDGet (tVar 1) ty) Γ 0 (mI (vlW x.ws s)) := fun {Γ ty s} e hy ms => by
    rcases hx.wsrc with h | h
    · exact ev_dget (c1 := 0) (c2 := 0) (ev_var (S := mDk x.ws) (by rw [e, h])) hy (look_val ms)
    · exact ev_dgetF (c1 := 0) (c2 := 0) (f := fun s => mI (vlW x.ws s)) (ev_var (S := mWts (nmW x.ws) (vlW x.ws)) (by rw [e, h])) hy ms
  have W := ok.web
  have hi : ∀ {Γ : Gam}, Γ[2]? = some (.im x.S) → EvI none (iOr (iList K (tVar 2)) (iTup K (tVar 2))) Γ 0 (· = x.qs.map mPair) := fun e => hx.src.elim (fun h => ei_or1 (ei_list (ev_var (by rw [e, h])))) fun h => ei_or2 (ei_tup (ev_var (by rw [e, h])))
  have hsort : ∀ {Γ : Gam}, Γ[2]? = some (.im x.S) → Ev none (tSortSet K (tVar 2)) Γ 0 (mL ((sortP x.qs).map mPair)) := fun e => hx.src.elim (fun h => ev_sortSetL (ev_var (by rw [e, h])) (by omega)) fun h => ev_sortSetT (ev_var (by rw [e, h])) (by omega)
  refine x_seq (c1 := 0) (fun Γ' => ∃ s3 s4, Γ' = [.own (oOb C a []), .im x.SW, .im x.S, s3, s4, .no, .no, .no, .no])
    (Sx.more (sx_forL (xs := x.qs) (R := mPair) (hi rfl) 0 (fun _ Γ' => ∃ s3 s4, Γ' = [.own (oOb C a []), .im x.SW, .im x.S, s3, s4, .no, .no, .no, .no]) ⟨_, _, rfl⟩ (fun pre p post Γ' hs hI => ?_) fun Γ' h => h) (by omega)) (fun Γ' hI => ?_)
  · obtain ⟨s3, s4, rfl⟩ := hI
    have mp := hx.mem p (by rw [hs]; simp)
    refine ⟨_, _, gx_name, ?_⟩
    show Sx none _ [.own (oOb C a []), .im x.SW, .im x.S, .im (mPair p), s4, .no, .no, .no, .no] 0 _
    refine Sx.more (sx_forL (xs := [p.1, p.2]) (R := mS) (ei_tup (ev_var (i := 3) rfl)) 0 (fun _ Γ' => ∃ s4, Γ' = [.own (oOb C a []), .im x.SW, .im x.S, .im (mPair p), s4, .no, .no, .no, .no]) ⟨_, rfl⟩ (fun pre s post Γ' hs hI => ?_) fun Γ' ⟨s4, e⟩ => ⟨_, s4, e⟩) (by simp)
    obtain ⟨s4, rfl⟩ := hI
    have ms : s ∈ nmW x.ws := by
      have : s ∈ [p.1, p.2] := by rw [hs]; simp
      simp only [List.mem_cons, List.not_mem_nil, or_false] at this
      rcases this with rfl | rfl
      · exact mp.1
      · exact mp.2
    refine ⟨_, _, gx_name, ?_⟩
    show Sx none _ [.own (oOb C a []), .im x.SW, .im x.S, .im (mPair p), .im (mS s), .no, .no, .no, .no] 0 _
    refine x_if (et_not (et_BV (ev_callF (s, x.SW, nmW x.ws) (ea_cons (ev_var rfl) (ea_cons (ev_var rfl) ea_nil)) din))) (fun hT => ?_) (fun _ => x_next ⟨_, rfl⟩)
    simp [ms] at hT
  obtain ⟨s3, s4, rfl⟩ := hI
  have nd1 : (sortS (nmW x.ws)).Nodup := ok.nx
  have len1 : (sortS (nmW x.ws)).length < 64 := ok.few
  have hW : ∀ {s : Str}, s ∈ sortS (nmW x.ws) → s ∈ nmW x.ws := fun m => (sortS_perm _).mem_iff.mp m
  refine x_fld (i := 0) (c1 := 0) (S := mWts (sortS (nmW x.ws)) (vlW x.ws)) (fs := []) rfl (Ev.mono (ev_dcF (ys := sortS (nmW x.ws)) (R := mS) (kf := id) (f := fun s => mI (vlW x.ws s)) (ei_list (hso rfl)) (by omega) (by rw [List.map_id]; exact nd1) fun s ms => ⟨_, _, gx_name, (by decide), ev_var rfl, hge rfl (ev_var rfl) (hW ms)⟩) (fun G v h => by rw [List.map_id] at h; exact h) (by simp)) cl (na _ (by decide)) (by decide) rfl ?_
  refine x_fld (i := 0) (c1 := 0) (S := mDT (sortP x.qs)) (fs := [("_widths", mWts (sortS (nmW x.ws)) (vlW x.ws))]) rfl (Ev.mono (ev_dcT (ei_list (hsort rfl)) (by have := ok.fewp; show (sortP x.qs).length ≤ _; have : (sortP x.qs).length < 64 := ok.fewp; omega) ok.np fun p mp => ⟨_, _, gx_name, (by decide), ev_var rfl, ev_c⟩) (fun G v h => h) (by simp)) cl (na _ (by decide)) (by simp) rfl ?_
  exact sx_oinit2 ok cl na
end
end Ev

set_option Elab.async false
set_option linter.all false
set_option maxRecDepth 100000
set_option maxHeartbeats 4000000
/-! Methods that are called with nothing; a call whose value nobody keeps. -/
namespace Ev
open PySem PySem.Spec PyProof.Rows L2
variable [z : Tz]
theorem pe_fm0 {X : Cx} {k : Nat} {C : Addr} {m : Str} {ps : List Str} {sp : Sp} {o : Expr} {ta : TE} {apos pos : Pos} {pl : Sem Bool} (ho : PE X o ta) (G : Fm X.prog X.w X.K X.mg X.base k C m ps sp) (hc : Calm X.A) (hr : Room k X.A)
    (h3 : eval (.Call (.Attribute o m apos) [] [] pos) X.env = (do
      let v ← eval o X.env
      standAt apos.atName
      let (g, one) ← holding [v] (getMethod v m pl)
      callWith pos g one (backTo pos (starEach [] X.env)) (backToKw pos (keywordEach [] X.env))) := by rfl) :
    PE X (.Call (.Attribute o m apos) [] [] pos) (tMeth C m sp [] E0 ta tNil) := .mk fun pins s σ H Q I h => by
  obtain ⟨f, fd, hm, b, F⟩ := G.ex
  refine PySem.W.methodCall_KW (pl := pl) (thn (ho.run pins s σ H _ I h) ?_) h3
  rintro u s1 ⟨y, H1, J, ry, a, dx, fs, rfl, oa, nl, q⟩
  cases (show u = Value.ref a from ry)
  exact getmeth_ok J oa G.cls hm nl (PySem.W.callWith_K0 (first := [.ref a]) J.kIn hm.kp (gn_run (xs := [.ref a]) (vs := [.ref a]) F hc hr b .nil pass0 J (.cons rfl .nil) q))
section
variable {pn : Option Addr} {Γ : Gam} {c c1 c2 : Nat} {S : MP} {te : TE} {u : TS} {O : Outs}
theorem sx_drop (h : Ev pn te Γ c S) (hn : O.nx Γ) : Sx pn (tDrop te) Γ c O := .mk fun {G H σ n} D E l q1 q2 q3 q4 =>
  h.run E l _ fun v G1 H1 n1 k1 p1 l1 _ => q1 _ _ _ _ _ hn (.of E k1 l1 (E.step k1 p1) fun _ h => .inl h)
theorem x_drop (h : Ev pn te Γ c1 S) (h2 : Sx pn u Γ (c - c1) O) (hc : c1 ≤ c := by first | decide | omega | simp) : Sx pn (tSeq (tDrop te) u) Γ c O := x_seq1 _ (sx_drop h rfl) h2 hc
end
end Ev

set_option Elab.async false
set_option linter.all false
set_option maxRecDepth 100000
set_option maxHeartbeats 4000000
/-! What an order tells. -/
namespace Ev
open PySem PySem.Spec PyProof.Rows L2
variable [z : Tz]
noncomputable abbrev Ord.wgt (o : Ord) : Int := maxD (o.xs.map o.wup) 0
open Classical in
noncomputable abbrev Ord.fits (o : Ord) (band : Int) : Bool := decide o.Acy && decide (o.wgt ≤ band)
noncomputable abbrev Ord.low (o : Ord) (s : Str) : Int := o.wdn s - o.wd s
noncomputable abbrev Ord.high (o : Ord) (s : Str) (band : Int) : Int := band - o.wup s
noncomputable abbrev mOrd (C : Addr) (o : Ord) : MP := mOb C o.fs
noncomputable abbrev spNi (C : Addr) : Sp := SpF (α := Ord × Str) (fun x => [mOrd C x.1, mS x.2]) (fun x => x.2 ∈ x.1.xs) (fun _ => mV .non)
noncomputable abbrev spNr (C : Addr) : Sp := SpF (α := Ord) (fun x => [mOrd C x]) (fun x => x.Acy) (fun _ => mV .non)
noncomputable abbrev spWg (C : Addr) : Sp := SpF (α := Ord) (fun x => [mOrd C x]) (fun x => x.Acy) (fun x => mI x.wgt)
noncomputable abbrev spFi (C : Addr) : Sp := SpF (α := Ord × Int) (fun x => [mOrd C x.1, mI x.2]) (fun _ => True) (fun x => mV (.bl (x.1.fits x.2)))
noncomputable abbrev spLo (C : Addr) : Sp := SpF (α := Ord × Str) (fun x => [mOrd C x.1, mS x.2]) (fun x => x.1.Acy ∧ x.2 ∈ x.1.xs) (fun x => mI (x.1.low x.2))
noncomputable abbrev spHi (C : Addr) : Sp := SpF (α := Ord × Str × Int) (fun x => [mOrd C x.1, mS x.2.1, mI x.2.2]) (fun x => x.1.Acy ∧ x.2.1 ∈ x.1.xs) (fun x => mI (x.1.high x.2.1 x.2.2))
noncomputable abbrev spPs (C : Addr) : Sp := SpF (α := Ord) (fun x => [mOrd C x]) (fun _ => True) (fun x => mT (x.ps.map mPair))
section
variable {pn : Option Addr} {Γ : Gam} {c c1 c2 : Nat} {α : Type} {Px : α → Prop} {xf : α → List Str} {f : Str → MP} {td ty te : TE} {t tk : TA} {K : PySem.W.Frag} {s : Str}
theorem ev_dgetFx (hd : Ev pn td Γ c1 (mEx Px fun x => mD (xf x) f)) (hy : Ev pn ty Γ c2 (mS s)) (hs : ∀ x, Px x → s ∈ xf x) : Ev pn (tDGet td ty) Γ (c1 + c2) (f s) := .mk fun E l Q q =>
  hd.run E (by omega) _ fun x G1 H1 n1 k1 p1 l1 sx => hy.run (E.step k1 p1) (by omega) _ fun y G2 H2 n2 k2 p2 l2 sy => by
    obtain ⟨w, pw, a, od, kvs, rfl, ha, z⟩ := sx
    obtain rfl : y = .str s := sy
    obtain ⟨v, hv, pv⟩ := (fK_val (s := s) z).1 (hs w pw)
    refine ⟨a, v, rfl, ?_, q v _ _ n2 (k1.trans0 k2) p2 (by omega) ((f s).mono k2.gg pv)⟩
    rw [← hv]
    exact dget_frz k2.gh (k2.gg _ _ ha)
theorem ev_listValsx (h : Ev pn te Γ c (mEx Px fun x => mD (xf x) f)) : Ev pn (tListVals te) Γ c (mEx Px fun x => mL ((xf x).map f)) := .mk fun {G H σ n} E l Q q =>
  h.run E l _ fun x G1 H1 n1 k1 p1 l1 ⟨w, pw, a, od, kvs, ex, ha, z⟩ => by
    refine ⟨a, kvs, ex, .inr ⟨od, k1.gh.x ha⟩, fun p hp => ?_⟩
    have kN := Stp.new (o := .lst (kvs.map (·.2))) k1.gh hp
    obtain ⟨k4, p4⟩ := kN.pure p1
    exact q (.ref p) _ _ n1 (k1.trans0 k4) p4 l1 ⟨w, pw, p, _, rfl, upd_same, (fK_vals z).mono kN.gg⟩
theorem ev_maxDefx {g : Str → Int} {d m : Int} (h1 : EvA pn t Γ c1 [mEx Px fun x => mL ((xf x).map fun s => mI (g s))]) (h2 : EvA pn tk Γ c2 [mI d]) (hm : ∀ x, Px x → maxD ((xf x).map g) d = m) : Ev pn (tCKw (rMaxDef K) t tk) Γ (c1 + c2) (mI m) := .mk fun {G H σ n} E l Q q =>
  h1.run E (by omega) _ fun vs G1 H1 n1 k1 p1 l1 z1 => h2.run (E.step k1 p1) (by omega) _ fun zs G2 H2 n2 k2 p2 l2 z2 => by
    obtain ⟨v, rfl, w, pw, a, xs, rfl, ha, zx⟩ := zip1 z1
    obtain ⟨u, rfl, ew⟩ := zip1 z2
    cases (show u = V.int d from ew)
    replace zx : Zip G1 (((xf w).map g).map mI) xs := by rw [List.map_map]; exact zx
    rw [zip_ints zx] at ha
    refine ⟨a, (xf w).map g, d, rfl, rfl, SqL.of (k2.gh.x (k2.gg _ _ ha)), fun e => q _ G2 H2 n2 (k1.trans0 k2) p2 (by omega) ?_, fun k hk hg => q _ G2 H2 n2 (k1.trans0 k2) p2 (by omega) ?_⟩
    · show V.int d = V.int m
      rw [← hm w pw, e]
      rfl
    · show V.int k = V.int m
      rw [← hm w pw, ← maxD_of hk hg]
theorem maxD_in {ns : List Int} {d : Int} (h : ns ≠ []) : maxD ns d ∈ ns ∧ ∀ n ∈ ns, n ≤ maxD ns d := by
  cases ns with
  | nil => exact absurd rfl h
  | cons n ns => exact maxD_mem ns n
theorem maxD_set {ns ms : List Int} {d : Int} (h : ∀ n, n ∈ ns ↔ n ∈ ms) : maxD ns d = maxD ms d := by
  by_cases e : ns = []
  · have : ms = [] := by
      cases hm : ms with
      | nil => rfl
      | cons m ms' =>
        have := (h m).mpr (by rw [hm]; exact List.mem_cons_self ..)
        rw [e] at this
        cases this
    rw [e, this]
  · obtain ⟨h1, h2⟩ := maxD_in (d := d) e
    exact maxD_of ((h _).mp h1) fun n m => h2 n ((h n).mpr m)
end
section
variable {K : PySem.W.Frag} {C : Addr} {o : Ord} {s : Str} {band : Int}
theorem Ord.lookUp : o.fs.lookup ("_up" : Str) = some o.mUp := rfl
theorem Ord.lookDn : o.fs.lookup ("_down" : Str) = some o.mDn := rfl
theorem Ord.lookRg : o.fs.lookup ("_ring" : Str) = some o.mRg := rfl
theorem Ord.lookW : o.fs.lookup ("_widths" : Str) = some (mWts o.xs o.wd) := rfl
theorem Ord.lookP : o.fs.lookup ("_pairs" : Str) = some (mDT o.ps) := rfl
section
variable {pn : Option Addr} {Γ : Gam} {c : Nat} {te : TE}
theorem ev_up (h : Ev pn te Γ c (mOrd C o)) (cl : Cls K C) (na : ∀ f ∈ ordF, NoAttr K C f) (A : o.Acy) : Ev pn (tFld K te "_up") Γ c (mEx o.Same fun F => mWts F o.wup) := by
  have := ev_fld h cl (na "_up" (by decide)) Ord.lookUp
  unfold Ord.mUp at this
  rw [if_pos A] at this
  exact this
theorem ev_dn (h : Ev pn te Γ c (mOrd C o)) (cl : Cls K C) (na : ∀ f ∈ ordF, NoAttr K C f) (A : o.Acy) : Ev pn (tFld K te "_down") Γ c (mEx o.Same fun F => mWts F o.wdn) := by
  have := ev_fld h cl (na "_down" (by decide)) Ord.lookDn
  unfold Ord.mDn at this
  rw [if_pos A] at this
  exact this
theorem ev_rg (h : Ev pn te Γ c (mOrd C o)) (cl : Cls K C) (na : ∀ f ∈ ordF, NoAttr K C f) : Ev pn (tFld K te "_ring") Γ c o.mRg := ev_fld h cl (na "_ring" (by decide)) Ord.lookRg
theorem ev_ws (h : Ev pn te Γ c (mOrd C o)) (cl : Cls K C) (na : ∀ f ∈ ordF, NoAttr K C f) : Ev pn (tFld K te "_widths") Γ c (mWts o.xs o.wd) := ev_fld h cl (na "_widths" (by decide)) Ord.lookW
theorem ev_psF (h : Ev pn te Γ c (mOrd C o)) (cl : Cls K C) (na : ∀ f ∈ ordF, NoAttr K C f) : Ev pn (tFld K te "_pairs") Γ c (mDT o.ps) := ev_fld h cl (na "_pairs" (by decide)) Ord.lookP
end
theorem sx_ni (cl : Cls K C) (na : ∀ f ∈ ordF, NoAttr K C f) (hs : s ∈ o.xs) : Sx none (tIfS (tNot (tB (tCall spAm [] E0 (tCons (tVar 1) (tCons (tFld K (tVar 0) "_widths") tNil))))) tNever tNext) [.im (mOrd C o), .im (mS s)] 0 (endO (mV V.non)) := by
  refine x_if (et_not (et_BV (ev_callF (s, mWts o.xs o.wd, o.xs) (ea_cons (ev_var rfl) (ea_cons (ev_ws (ev_var rfl) cl na) ea_nil)) din_F))) (fun hT => ?_) (fun _ => x_next fun _ => rfl)
  simp [hs] at hT
theorem sx_nr (cl : Cls K C) (na : ∀ f ∈ ordF, NoAttr K C f) (A : o.Acy) : Sx none (tIfS (tTest (tOp rNotN (tFld K (tVar 0) "_ring") (tC V.non))) tNever tNext) [.im (mOrd C o)] 0 (endO (mV V.non)) := by
  have hr : Ev none (tFld K (tVar 0) "_ring") [.im (mOrd C o)] 0 (mV .non) := by
    have := ev_rg (pn := none) (te := tVar 0) (Γ := [.im (mOrd C o)]) (ev_var rfl) cl na
    unfold Ord.mRg at this
    rw [if_pos A] at this
    exact this
  refine x_if (et_testV (ev_op hr ev_c rv_notN0)) (fun hT => nomatch hT) (fun _ => x_next fun _ => rfl)
theorem sx_wg (cl : Cls K C) (na : ∀ f ∈ ordF, NoAttr K C f) (A : o.Acy) : Sx none (tSeq (tDrop (tMeth C "_need_no_ring" (spNr C) [] E0 (tVar 0) tNil)) (tRet (tCKw (rMaxDef K) (tCons (tListVals (tFld K (tVar 0) "_up")) tNil) (tCons (tC (V.int 0)) tNil)))) [.im (mOrd C o)] 0 (endO (mI o.wgt)) := by
  refine x_drop (c1 := 0) (ev_meth o (ev_var rfl) rfl ea_nil rfl A) ?_
  refine x_ret (c1 := 0) (ev_maxDefx (xf := fun F => F) (g := o.wup) (Px := o.Same) (c1 := 0) (c2 := 0) (ea_cons (ev_listValsx (xf := fun F => F) (f := fun s => mI (o.wup s)) (ev_up (ev_var rfl) cl na A)) ea_nil) (ea_cons ev_c ea_nil) fun F hF => maxD_set fun n => ?_)
  simp only [List.mem_map]
  exact ⟨fun ⟨s, m, e⟩ => ⟨s, (hF.2 s).mp m, e⟩, fun ⟨s, m, e⟩ => ⟨s, (hF.2 s).mpr m, e⟩⟩
open Classical in
theorem sx_fi (cl : Cls K C) (na : ∀ f ∈ ordF, NoAttr K C f) : Sx none (tRet (tAndV (tOp rIsN (tFld K (tVar 0) "_ring") (tC V.non)) (tOp (rI0 fun i j => V.bl (decide (i ≤ j))) (tProp C (spWg C) [] E0 (tVar 0)) (tVar 1)))) [.im (mOrd C o), .im (mI band)] 0 (endO (mV (V.bl (o.fits band)))) := by
  have hr := ev_rg (pn := none) (te := tVar 0) (Γ := [.im (mOrd C o), .im (mI band)]) (ev_var rfl) cl na
  by_cases A : o.Acy
  · unfold Ord.mRg at hr
    rw [if_pos A] at hr
    refine x_ret (c1 := 0) (S := mV (.bl (true && decide (o.wgt ≤ band)))) (ev_andB (c1 := 0) (c2 := 0) (ev_op hr ev_c rv_isN0) fun _ => ev_op (ev_prop (α := Ord) o (ev_var (i := 0) rfl) rfl A) (ev_var (i := 1) rfl) rv_I0) fun G v h => ?_
    unfold Ord.fits
    rw [decide_eq_true A]
    exact h
  · unfold Ord.mRg at hr
    rw [if_neg A] at hr
    refine x_ret (c1 := 0) (S := mV (.bl (false && false))) (ev_andB (c1 := 0) (c2 := 0) (ev_op hr ev_c (rv_isN1 (S := mEx (IsRing o.xs o.lw) fun r => mT (r.map mS)) fun G v ⟨r, _, b, vs, e, _⟩ z => by rw [e] at z; cases z)) fun z => nomatch z) fun G v h => ?_
    unfold Ord.fits
    rw [decide_eq_false A]
    exact h
theorem sx_lo (cl : Cls K C) (na : ∀ f ∈ ordF, NoAttr K C f) (A : o.Acy) (hs : s ∈ o.xs) : Sx none (tSeq (tDrop (tMeth C "_need_item" (spNi C) [] E0 (tVar 0) (tCons (tVar 1) tNil))) (tSeq (tDrop (tMeth C "_need_no_ring" (spNr C) [] E0 (tVar 0) tNil))
    (tRet (tOp (rI0 fun i j => V.int (i - j)) (tDGet (tFld K (tVar 0) "_down") (tVar 1)) (tDGet (tFld K (tVar 0) "_widths") (tVar 1)))))) [.im (mOrd C o), .im (mS s)] 0 (endO (mI (o.low s))) := by
  refine x_drop (c1 := 0) (ev_meth (o, s) (ev_var rfl) rfl (ea_cons (ev_var rfl) ea_nil) rfl hs) ?_
  refine x_drop (c1 := 0) (ev_meth o (ev_var rfl) rfl ea_nil rfl A) ?_
  exact x_ret (c1 := 0) (ev_op (ev_dgetFx (f := fun s => mI (o.wdn s)) (ev_dn (ev_var rfl) cl na A) (ev_var rfl) fun F hF => (hF.2 s).mpr hs) (ev_dgetF (f := fun s => mI (o.wd s)) (ev_ws (ev_var rfl) cl na) (ev_var rfl) hs) rv_I0)
theorem sx_hi (cl : Cls K C) (na : ∀ f ∈ ordF, NoAttr K C f) (A : o.Acy) (hs : s ∈ o.xs) : Sx none (tSeq (tDrop (tMeth C "_need_item" (spNi C) [] E0 (tVar 0) (tCons (tVar 1) tNil))) (tSeq (tDrop (tMeth C "_need_no_ring" (spNr C) [] E0 (tVar 0) tNil))
    (tRet (tOp (rI0 fun i j => V.int (i - j)) (tVar 2) (tDGet (tFld K (tVar 0) "_up") (tVar 1)))))) [.im (mOrd C o), .im (mS s), .im (mI band)] 0 (endO (mI (o.high s band))) := by
  refine x_drop (c1 := 0) (ev_meth (o, s) (ev_var rfl) rfl (ea_cons (ev_var rfl) ea_nil) rfl hs) ?_
  refine x_drop (c1 := 0) (ev_meth o (ev_var rfl) rfl ea_nil rfl A) ?_
  exact x_ret (c1 := 0) (ev_op (ev_var rfl) (ev_dgetFx (f := fun s => mI (o.wup s)) (ev_up (ev_var rfl) cl na A) (ev_var rfl) fun F hF => (hF.2 s).mpr hs) rv_I0)
theorem sx_psF (cl : Cls K C) (na : ∀ f ∈ ordF, NoAttr K C f) : Sx none (tRet (tCB rTupDT (tCons (tFld K (tVar 0) "_pairs") tNil))) [.im (mOrd C o)] 0 (endO (mT (o.ps.map mPair))) :=
  x_ret (c1 := 0) (ev_cb (ea_cons (ev_psF (ev_var rfl) cl na) ea_nil) rc_tupDT)
end
end Ev

set_option Elab.async false
set_option linter.all false
set_option maxRecDepth 100000
set_option maxHeartbeats 4000000
/-! What the weights of the heaviest chains say of all placements. -/
namespace Ev
open PySem PySem.Spec PyProof.Rows L2
variable [z : Tz]
/-- the row, from its front on -/
theorem row_ind {F : List Str} {Q : Str → Prop} {ln : Str → List Str} (B : Behind ln F) (h : ∀ s ∈ F, (∀ l ∈ ln s, Q l) → Q s) : ∀ s ∈ F, Q s := by
  have key : ∀ (n : Nat) (pre post : List Str), pre.length = n → F = pre ++ post → ∀ s ∈ pre, Q s := by
    intro n
    induction n with
    | zero => intro pre post e _ s m; rw [List.length_eq_zero_iff.mp e] at m; cases m
    | succ n ih =>
      intro pre post e1 e s m
      obtain ⟨q, x, rfl⟩ : ∃ q x, pre = q ++ [x] := by
        rcases List.eq_nil_or_concat pre with z | ⟨q, x, z⟩
        · rw [z] at e1; cases e1
        · exact ⟨q, x, by rw [z, List.concat_eq_append]⟩
      have lq : q.length = n := by rw [List.length_append] at e1; simpa using e1
      have e2 : F = q ++ ([x] ++ post) := by rw [e, List.append_assoc]
      have ihq := ih q _ lq e2
      rcases List.mem_append.mp m with m | m
      · exact ihq s m
      · rw [List.mem_singleton.mp m]
        exact h x (by rw [e]; simp) fun l ml => ihq l ((B q x post e2).2 l ml)
  exact key F.length F [] rfl (by simp)
theorem weighed_ex (wd : Str → Int) {ln : Str → List Str} {F : List Str} (B : Behind ln F) : ∃ f, Weighed wd ln F f := by
  have key : ∀ (n : Nat) (pre post : List Str), pre.length = n → F = pre ++ post → ∃ f, Weighed wd ln pre f := by
    intro n
    induction n with
    | zero => intro pre post e _; exact ⟨fun _ => 0, fun s m => by rw [List.length_eq_zero_iff.mp e] at m; cases m⟩
    | succ n ih =>
      intro pre post e1 e
      obtain ⟨q, x, rfl⟩ : ∃ q x, pre = q ++ [x] := by
        rcases List.eq_nil_or_concat pre with z | ⟨q, x, z⟩
        · rw [z] at e1; cases e1
        · exact ⟨q, x, by rw [z, List.concat_eq_append]⟩
      have lq : q.length = n := by rw [List.length_append] at e1; simpa using e1
      have e2 : F = q ++ ([x] ++ post) := by rw [e, List.append_assoc]
      obtain ⟨f, hf⟩ := ih q _ lq e2
      obtain ⟨nx, lm⟩ := B q x post e2
      refine ⟨fun t => if t = x then wd x + maxD ((ln x).map f) 0 else f t, fun s m => ?_⟩
      rcases List.mem_append.mp m with m | m
      · obtain ⟨a, b, ea⟩ := List.append_of_mem m
        have la := (B a s (b ++ ([x] ++ post)) (by rw [e2, ea]; simp)).2
        have e3 : (ln s).map (fun t => if t = x then wd x + maxD ((ln x).map f) 0 else f t) = (ln s).map f := List.map_congr_left fun l ml => if_neg fun z => nx (by rw [← z, ea]; exact List.mem_append_left _ (la l ml))
        rw [e3]
        show (if s = x then _ else _) = _
        rw [if_neg fun z => nx (by rw [← z]; exact m)]
        exact hf s m
      · rw [List.mem_singleton.mp m]
        have e3 : (ln x).map (fun t => if t = x then wd x + maxD ((ln x).map f) 0 else f t) = (ln x).map f := List.map_congr_left fun l ml => if_neg fun z => nx (by rw [← z]; exact lm l ml)
        rw [e3]
        exact if_pos rfl
  exact key F.length F [] rfl (by simp)
theorem maxD_le {ns : List Int} {d m : Int} (h : ∀ n ∈ ns, n ≤ m) (hd : ns = [] → d ≤ m) : maxD ns d ≤ m := by
  by_cases e : ns = []
  · rw [e]; exact hd e
  · exact h _ (maxD_in e).1
theorem le_maxD {ns : List Int} {d n : Int} (h : n ∈ ns) : n ≤ maxD ns d := (maxD_in (fun e => by rw [e] at h; cases h)).2 n h
namespace Ord
variable {o : Ord} {band : Int} {P : Str → Int}
/-- places that keep a band and all pairs -/
structure Sol (o : Ord) (band : Int) (P : Str → Int) : Prop where
  rng : ∀ s ∈ o.xs, 0 ≤ P s ∧ P s + o.wd s ≤ band
  prs : ∀ p ∈ o.ps, P p.1 + o.wd p.1 ≤ P p.2
theorem mem_up {s t : Str} : t ∈ o.up s ↔ (s, t) ∈ o.ps := mem_lks
theorem mem_lw {s t : Str} : t ∈ o.lw s ↔ (t, s) ∈ o.ps := mem_lks.trans mem_turn
structure Wt (o : Ord) (F : List Str) : Prop where
  mem : ∀ s, s ∈ F ↔ s ∈ o.xs
  b1 : Behind o.lw F
  b2 : Behind o.up F.reverse
  up : ∀ s ∈ o.xs, o.wup s = o.wd s + maxD ((o.up s).map o.wup) 0
  dn : ∀ s ∈ o.xs, o.wdn s = o.wd s + maxD ((o.lw s).map o.wdn) 0
theorem Ok.wt (ok : o.Ok) (A : o.Acy) : ∃ F, o.Wt F := by
  obtain ⟨F, R, all⟩ := A
  have same : ∀ s, s ∈ F ↔ s ∈ o.xs := fun s => ⟨R.sub s, all s⟩
  have same2 : ∀ s, s ∈ F.reverse ↔ s ∈ o.xs := fun s => List.mem_reverse.trans (same s)
  have B1 := Behind.of R
  have B2 := Behind.rev ok.web R all
  obtain ⟨f, hf⟩ := weighed_ex o.wd B1
  obtain ⟨g, hg⟩ := weighed_ex o.wd B2
  exact ⟨F, same, B1, B2, wts_ok (hg.set same2), wts_ok (hf.set same)⟩
variable {F : List Str}
theorem Wt.wup_ge (w : o.Wt F) (ok : o.Ok) (pos : ∀ s ∈ o.xs, 0 ≤ o.wd s) : ∀ s ∈ o.xs, o.wd s ≤ o.wup s := fun s ms => by
  have key : ∀ t ∈ F.reverse, o.wd t ≤ o.wup t := row_ind w.b2 fun t mt ih => by
    have mt : t ∈ o.xs := (w.mem t).mp (List.mem_reverse.mp mt)
    have e := w.up t mt
    have : 0 ≤ maxD ((o.up t).map o.wup) 0 := by
      by_cases z : (o.up t).map o.wup = []
      · rw [z]; exact Int.le_refl _
      · obtain ⟨u, mu, eu⟩ := List.mem_map.mp (maxD_in (d := 0) z).1
        rw [← eu]
        have h1 := ih u mu
        have h2 := pos u (ok.mem _ (mem_up.mp mu)).2
        omega
    omega
  exact key s (List.mem_reverse.mpr ((w.mem s).mpr ms))
theorem Wt.wdn_ge (w : o.Wt F) (ok : o.Ok) (pos : ∀ s ∈ o.xs, 0 ≤ o.wd s) : ∀ s ∈ o.xs, o.wd s ≤ o.wdn s := fun s ms => by
  have key : ∀ t ∈ F, o.wd t ≤ o.wdn t := row_ind w.b1 fun t mt ih => by
    have mt : t ∈ o.xs := (w.mem t).mp mt
    have e := w.dn t mt
    have : 0 ≤ maxD ((o.lw t).map o.wdn) 0 := by
      by_cases z : (o.lw t).map o.wdn = []
      · rw [z]; exact Int.le_refl _
      · obtain ⟨u, mu, eu⟩ := List.mem_map.mp (maxD_in (d := 0) z).1
        rw [← eu]
        have h1 := ih u mu
        have h2 := pos u (ok.mem _ (mem_lw.mp mu)).1
        omega
    omega
  exact key s ((w.mem s).mpr ms)
theorem Wt.low_le (w : o.Wt F) (ok : o.Ok) (h0 : ∀ s ∈ o.xs, 0 ≤ P s) (prs : ∀ p ∈ o.ps, P p.1 + o.wd p.1 ≤ P p.2) : ∀ s ∈ o.xs, o.wdn s ≤ P s + o.wd s := fun s ms => by
  have key : ∀ t ∈ F, o.wdn t ≤ P t + o.wd t := row_ind w.b1 fun t mt ih => by
    have mt : t ∈ o.xs := (w.mem t).mp mt
    have e := w.dn t mt
    have : maxD ((o.lw t).map o.wdn) 0 ≤ P t := maxD_le (fun n mn => by
      obtain ⟨l, ml, el⟩ := List.mem_map.mp mn
      have h1 := ih l ml
      have h2 := prs _ (mem_lw.mp ml)
      have h3 : P l + o.wd l ≤ P t := h2
      omega) fun _ => h0 t mt
    omega
  exact key s ((w.mem s).mpr ms)
theorem Wt.le_high (w : o.Wt F) (ok : o.Ok) (S : o.Sol band P) : ∀ s ∈ o.xs, o.wup s ≤ band - P s := fun s ms => by
  have key : ∀ t ∈ F.reverse, o.wup t ≤ band - P t := row_ind w.b2 fun t mt ih => by
    have mt : t ∈ o.xs := (w.mem t).mp (List.mem_reverse.mp mt)
    have e := w.up t mt
    have hr := S.rng t mt
    have : maxD ((o.up t).map o.wup) 0 ≤ band - P t - o.wd t := maxD_le (fun n mn => by
      obtain ⟨u, mu, eu⟩ := List.mem_map.mp mn
      have h1 := ih u mu
      have h2 : P t + o.wd t ≤ P u := S.prs _ (mem_up.mp mu)
      omega) fun _ => by omega
    omega
  exact key s (List.mem_reverse.mpr ((w.mem s).mpr ms))
theorem Wt.high_sol (w : o.Wt F) (ok : o.Ok) (pos : ∀ s ∈ o.xs, 0 ≤ o.wd s) (hb : o.wgt ≤ band) : o.Sol band fun s => o.high s band := by
  refine ⟨fun s ms => ?_, fun p mp => ?_⟩
  · have h1 := w.wup_ge ok pos s ms
    have h2 : o.wup s ≤ o.wgt := le_maxD (List.mem_map.mpr ⟨s, ms, rfl⟩)
    show 0 ≤ band - o.wup s ∧ band - o.wup s + o.wd s ≤ band
    omega
  · obtain ⟨m1, m2⟩ := ok.mem p mp
    have e := w.up p.1 m1
    have h : o.wup p.2 ≤ maxD ((o.up p.1).map o.wup) 0 := le_maxD (List.mem_map.mpr ⟨p.2, mem_up.mpr mp, rfl⟩)
    show band - o.wup p.1 + o.wd p.1 ≤ band - o.wup p.2
    omega
theorem Wt.low_sol (w : o.Wt F) (ok : o.Ok) (pos : ∀ s ∈ o.xs, 0 ≤ o.wd s) (hb : o.wgt ≤ band) : o.Sol band o.low := by
  have S := w.high_sol ok pos hb
  have le := w.low_le ok (fun s ms => (S.rng s ms).1) S.prs
  refine ⟨fun s ms => ?_, fun p mp => ?_⟩
  · have h1 := w.wdn_ge ok pos s ms
    have h2 := le s ms
    have h3 := (S.rng s ms).2
    show 0 ≤ o.wdn s - o.wd s ∧ o.wdn s - o.wd s + o.wd s ≤ band
    omega
  · obtain ⟨m1, m2⟩ := ok.mem p mp
    have e := w.dn p.2 m2
    have h : o.wdn p.1 ≤ maxD ((o.lw p.2).map o.wdn) 0 := le_maxD (List.mem_map.mpr ⟨p.1, mem_lw.mpr mp, rfl⟩)
    show o.wdn p.1 - o.wd p.1 + o.wd p.1 ≤ o.wdn p.2 - o.wd p.2
    omega
/-- places that keep all pairs: no ring -/
theorem Sol.acy (ok : o.Ok) (pos : ∀ s ∈ o.xs, 0 < o.wd s) (S : o.Sol band P) : o.Acy := by
  have perm : (o.xs.mergeSort fun a b => decide (P a ≤ P b)).Perm o.xs := List.mergeSort_perm ..
  have srt : (o.xs.mergeSort fun a b => decide (P a ≤ P b)).Pairwise fun a b => decide (P a ≤ P b) = true := List.pairwise_mergeSort (fun a b c h1 h2 => by simp at *; omega) (fun a b => by simp; omega) _
  generalize (o.xs.mergeSort fun a b => decide (P a ≤ P b)) = F at perm srt
  refine ⟨F, ⟨perm.nodup_iff.mpr ok.nx, fun s m => perm.mem_iff.mp m, fun i s e l ml => ?_, fun s m n => absurd (perm.mem_iff.mpr m) n⟩, fun s m => perm.mem_iff.mpr m⟩
  have mp := mem_lw.mp ml
  obtain ⟨m1, m2⟩ := ok.mem _ mp
  have h1 : P l + o.wd l ≤ P s := S.prs _ mp
  have h2 := pos l m1
  obtain ⟨j, hj⟩ := List.getElem?_of_mem (perm.mem_iff.mpr m1)
  refine ⟨j, ?_, hj⟩
  obtain ⟨li, ei⟩ := List.getElem?_eq_some_iff.mp e
  obtain ⟨lj, ej⟩ := List.getElem?_eq_some_iff.mp hj
  rcases Nat.lt_trichotomy j i with c | c | c
  · exact c
  · subst c
    rw [ei] at ej
    have es : s = l := ej
    rw [← es] at h1 h2
    omega
  · have := List.pairwise_iff_getElem.mp srt i j li lj c
    rw [ei, ej] at this
    have : P s ≤ P l := by simpa using this
    omega
open Classical in
theorem fits_true (ok : o.Ok) (pos : ∀ s ∈ o.xs, 0 < o.wd s) (h : o.fits band = true) : o.Sol band o.low ∧ o.Sol band (fun s => o.high s band) ∧ ∀ P, o.Sol band P → ∀ s ∈ o.xs, o.low s ≤ P s ∧ P s ≤ o.high s band := by
  obtain ⟨hA, hb⟩ := Bool.and_eq_true_iff.mp h
  have A := of_decide_eq_true hA
  have hb := of_decide_eq_true hb
  obtain ⟨F, w⟩ := ok.wt A
  have p0 : ∀ s ∈ o.xs, 0 ≤ o.wd s := fun s m => Int.le_of_lt (pos s m)
  refine ⟨w.low_sol ok p0 hb, w.high_sol ok p0 hb, fun P S s ms => ⟨?_, ?_⟩⟩
  · have := w.low_le ok (fun s ms => (S.rng s ms).1) S.prs s ms
    show o.wdn s - o.wd s ≤ P s
    omega
  · have := w.le_high ok S s ms
    show P s ≤ band - o.wup s
    omega
open Classical in
theorem fits_false (ok : o.Ok) (pos : ∀ s ∈ o.xs, 0 < o.wd s) (ne : o.xs ≠ []) (h : o.fits band = false) : ∀ P, ¬ o.Sol band P := fun P S => by
  have A := S.acy ok pos
  obtain ⟨F, w⟩ := ok.wt A
  have hb : ¬ o.wgt ≤ band := fun z => by
    unfold fits at h
    rw [decide_eq_true A, decide_eq_true z] at h
    cases h
  refine hb (maxD_le (fun n mn => ?_) fun z => absurd (List.map_eq_nil_iff.mp z) ne)
  obtain ⟨s, ms, e⟩ := List.mem_map.mp mn
  have h1 := w.le_high ok S s ms
  have h2 := (S.rng s ms).1
  omega
open Classical in
theorem fits_acy (h : o.fits band = true) : o.Acy := of_decide_eq_true (Bool.and_eq_true_iff.mp h).1
end Ord
end Ev

set_option Elab.async false
set_option linter.all false
set_option maxRecDepth 100000
set_option maxHeartbeats 4000000
/-! A lambda with one parameter, handed to a def that calls it. -/
namespace Ev
open PySem PySem.Spec PyProof.Rows L2
/-- one parameter; else captured names and globals -/
structure LamP (sc scope : Scope) (a : Str) : Prop where
  kind : scope.kind = .function
  co : scope.isCoroutine = false
  gen : scope.isGenerator = false
  par : scope.names.lookup a = some .local
  own : ∀ y ∈ scope.names, (y.2 = .local → y.1 = a) ∧ y.2 ≠ .cell
  free : ∀ y ∈ scope.names, y.2 = .free → sc.names.lookup y.1 = some .cell ∨ sc.names.lookup y.1 = some .free
def lamPB (sc scope : Scope) (a : Str) : Bool :=
  decide (scope.kind = .function) && !scope.isCoroutine && !scope.isGenerator && decide (scope.names.lookup a = some .local) && scope.names.all fun y => (!decide (y.2 = .local) || decide (y.1 = a)) && !decide (y.2 = .cell) && (!decide (y.2 = .free) || decide (sc.names.lookup y.1 = some .cell) || decide (sc.names.lookup y.1 = some .free))
theorem lamP_by {sc scope : Scope} {a : Str} (h : lamPB sc scope a = true) : LamP sc scope a := by
  unfold lamPB at h
  simp only [Bool.and_eq_true, Bool.or_eq_true, Bool.not_eq_true', decide_eq_true_eq, decide_eq_false_iff_not, List.all_eq_true] at h
  obtain ⟨⟨⟨⟨h1, h2⟩, h3⟩, h4⟩, h5⟩ := h
  refine ⟨h1, h2, h3, h4, fun y hy => ⟨fun e => ((h5 y hy).1.1).resolve_left fun z => z e, (h5 y hy).1.2⟩, fun y hy e => ?_⟩
  rcases (h5 y hy).2 with (z | z) | z
  · exact absurd e z
  · exact .inl z
  · exact .inr z
theorem LamP.has {X : Cx} {scope : Scope} {a : Str} (L : LamP X.env.scope scope a) (ok : X.Ok) : ∀ y ∈ scope.names, y.2 = .free → ∃ c, X.env.cells.lookup y.1 = some c := fun y hy e => by
  rcases L.free y hy e with k | k
  · exact ok.has _ (.inl k)
  · exact ok.has _ (.inr k)
abbrev lamEnv (X : Cx) (scope : Scope) (L f c' : Addr) : PySem.Env := PySem.W.envX (X.env.qual ++ "<lambda>") scope L f (.ref c') (cloFrom X.env.cells scope.names [])
/-- the context of its body -/
def lamCxP (X : Cx) (A : Around) (outer : List PySem.Env) (s : Shared) (H : Hp) (scope : Scope) (f c' : Addr) : Cx where
  prog := X.prog
  w := X.w
  K := X.K
  mg := X.mg
  base := X.base
  A := A.deeper (lamEnv X scope s.heap.objs.size f c')
  N := X.N
  s_0 := s
  H_0 := H
  env := lamEnv X scope s.heap.objs.size f c'
  outer := outer
  stack := lamEnv X scope s.heap.objs.size f c' :: outer
  ex := []
  fn := fun _ => false
  calm := true
  pn := []
  xe := fun _ _ => False
section
variable {X : Cx} {pins : List (Addr × Obj)} {σ : L2.St} {H HZ : Hp} {s s1 : Shared}
theorem lam_startP {A : Around} {outer : List PySem.Env} {scope : Scope} {f c' : Addr} {h₁ : Heap} {tk : Nat} {a : Str} {j : Nat} {v : V} {u : Value} (I : Inv X pins σ H s) (L : LamP X.env.scope scope a) (nd : X.N.Nodup) (hj : X.N[j]? = some a) (r : RelV v u)
    (e0 : Env0 X.prog X.w X.K X.mg X.base A outer s1 HZ) (hd : A.handled = none) (un : Un (frs X.stack) [] H HZ s.heap s1.heap) (hns : h₁.Ns s1.heap.objs.size fun y => ([(a, u)] : List (Str × Value)).reverse.lookup y) (kp : ∀ b o, s1.heap.get? b = some o → h₁.get? b = some o) :
    Inv (lamCxP X A outer s1 HZ scope f c') [] (σ.set j (some v)) HZ { s1 with heap := h₁, toks := tk } := by
  have hfree := L.has I.ok
  have cm : ∀ {y c}, (cloFrom X.env.cells scope.names []).lookup y = some c → X.env.cells.lookup y = some c := fun {y c} e => by
    rcases cloFrom_mem (PySem.mem_of_lookup e) with hm | ⟨h1, h2⟩
    · cases hm
    · obtain ⟨c1, hc⟩ := hfree _ h1 rfl
      have hc : X.env.cells.lookup y = some c1 := hc
      have e2 : c = c1 := by
        rw [h2, hc] <;> rfl
      rw [e2]
      exact hc
  have look : ∀ {y}, scope.names.lookup y = some .free → ∃ c, (cloFrom X.env.cells scope.names []).lookup y = some c := fun {y} hl => by
    have hy : (y, NameKind.free) ∈ scope.names := PySem.mem_of_lookup hl
    exact mem_lookup (cloFrom_has (cells := X.env.cells) (acc := []) hy)
  have cellK : ∀ {c : Addr} {v : Option Value}, H c = none → s.heap.IsCell c v → h₁.IsCell c v := fun {c v} n ⟨o, ho, hd⟩ => by
    obtain ⟨sl, q⟩ := un.any ho n (by simp)
    exact ⟨_, kp _ _ q, hd⟩
  have noA : ∀ b : Addr, b ∉ (lamCxP X A outer s1 HZ scope f c').ex := fun b z => absurd (show b ∈ ([] : List Addr) from z) (by simp)
  refine ⟨⟨e0.mod, L.kind, rfl, rfl, Nat.le_refl _, fun y z c e1 e2 => I.ok.inj y z c (cm e1) (cm e2), fun y hy => ?_, fun y c z _ => ?_, fun _ => hd, Around.frames_deeper e0.frames, .inr ⟨rfl, rfl⟩, fun b z => absurd z (noA b), e0.bs, e0.bsz, fun b _ _ => noA b,
      fun b z => absurd z (noA b), e0.funs, e0.frf⟩,
    rfl, e0.bare, Un.kept kp, ⟨_, hns, fun i y w e1 e2 e3 => ?_⟩, fun y c e => ?_, e0.hok.fresh (Nat.le_refl _), fun y c e => ?_, fun q hq => absurd (show q ∈ ([] : List (Addr × Obj)) ++ [] from hq) (by simp), e0.hok.kept kp, by rw [List.length_set]; exact I.len⟩
  · have hy : scope.names.lookup y = some .cell ∨ scope.names.lookup y = some .free := hy
    rcases hy with hy | hy
    · exact absurd rfl (L.own _ (PySem.mem_of_lookup hy)).2
    · exact look hy
  · have z : false = true := z
    cases z
  · have e1 : X.N[i]? = some y := e1
    have e3 : Vis scope y := e3
    by_cases ij : i = j
    · subst ij
      rw [hj] at e1
      cases e1
      have li : i < σ.length := by
        rw [I.len]
        exact (List.getElem?_eq_some_iff.mp hj).1
      rw [List.getElem?_set_self li] at e2
      cases e2
      exact ⟨u, r, .inl ⟨L.par, by simp [List.lookup]⟩⟩
    · rw [List.getElem?_set_ne (fun z => ij z.symm)] at e2
      have ya : y ≠ a := fun z => by
        subst z
        exact ij ((List.getElem?_inj (List.getElem?_eq_some_iff.mp e1).1 nd).mp (e1.trans hj.symm))
      rcases e3 with k | k | k
      · exact absurd ((L.own _ (PySem.mem_of_lookup k)).1 rfl) ya
      · exact absurd rfl (L.own _ (PySem.mem_of_lookup k)).2
      · obtain ⟨m, hn, hl⟩ := I.loc
        have hvis : Vis X.env.scope y := (L.free _ (PySem.mem_of_lookup k) rfl).elim (fun k => .inr (.inl k)) (fun k => .inr (.inr k))
        obtain ⟨w', r', q⟩ := hl i y w e1 e2 hvis
        obtain ⟨c2, h2⟩ := look k
        refine ⟨w', r', .inr ⟨.inr k, c2, h2, ?_⟩⟩
        have c1 := cm h2
        rcases q with ⟨k', _⟩ | ⟨_, c3, e', z⟩
        · have k' : X.env.scope.names.lookup y = some .local := k'
          rcases L.free _ (PySem.mem_of_lookup k) rfl with k2 | k2 <;> rw [show X.env.scope.names.lookup y = _ from k2] at k' <;> cases k'
        · rw [c1] at e'
          cases e'
          exact cellK (I.freeC y _ c1) z
  · obtain ⟨w', z⟩ := I.cell y c (cm e)
    exact ⟨w', cellK (I.freeC y c (cm e)) z⟩
  · obtain ⟨v, o, ho, hd⟩ := I.cell y c (cm e)
    exact un.free c o ho (I.freeC y c (cm e)) (by simp)
/-- what a(e) reads, a the parameter that holds the lambda at f -/
def tActP (i : Nat) (f c' : Addr) (q : Str) (tl : V → Hp → VK → Prop) (te : TE) : TE := fun σZ HZ Q => σZ[i]? = some (some (.ref f)) ∧ te σZ HZ fun v HZ' => HZ' c' = some (LamX.CodeO c' q) ∧ tl v HZ' Q
/-- a(e), in the def that got the lambda -/
theorem pe_actP {Eg : XK} {Ng : List Str} {qg : Str} {sg : Scope} {g f c' : Addr} {cdg pm ctv : Value} {params : Arguments} {body e : Expr} {scope : Scope} {k i j : Nat} {a b : Str} {tb te : TE} {p1 p2 : Pos}
    (I : Inv X pins σ H s) (L : LamP X.env.scope scope a) (nd : X.N.Nodup) (hj : X.N[j]? = some a) (hf : s.heap.get? f = some (PySem.W.kla_obj "<lambda>" (X.env.qual ++ "<lambda>") params body scope (cloFrom X.env.cells scope.names []) pm c' ctv)) (hfn : H f = none) (hfr : f ∉ frs X.stack)
    (hbind : ∀ u, bindArgs (PySem.W.kla_fn "<lambda>" (X.env.qual ++ "<lambda>") params body scope (cloFrom X.env.cells scope.names []) pm (.ref c') ctv) ⟨[u], []⟩ = pure [(a, u)])
    (hc : Calm X.A) (hr : Room (k + 1) (X.A.deeper (envOfC qg sg s.heap.objs.size g cdg)))
    (hbody : ∀ (A : Around) (outer : List PySem.Env) (s : Shared) (H : Hp), Calm A → Room k (A.deeper (lamEnv X scope s.heap.objs.size f c')) → PE (lamCxP X A outer s H scope f c') body tb)
    (he : PE (cxOf CX0 X.prog X.w X.K X.mg X.base Ng qg sg g cdg X.A X.stack s H Eg).nox e te)
    (hN : Ng[i]? = some b) (hv : Vis sg b) (hd : (b == ("__debug__" : Str)) = false := by decide) (hcd : (b == ("__classdict__" : Str)) = false := by decide)
    (hst : starEach [e] (cxOf CX0 X.prog X.w X.K X.mg X.base Ng qg sg g cdg X.A X.stack s H Eg).nox.env = (false, eval e (cxOf CX0 X.prog X.w X.K X.mg X.base Ng qg sg g cdg X.A X.stack s H Eg).nox.env) :: starEach [] (cxOf CX0 X.prog X.w X.K X.mg X.base Ng qg sg g cdg X.A X.stack s H Eg).nox.env := by rfl) :
    PE (cxOf CX0 X.prog X.w X.K X.mg X.base Ng qg sg g cdg X.A X.stack s H Eg).nox (.Call (.Name b p1) [e] [] p2) (tActP i f c' (X.env.qual ++ "<lambda>") (fun v H' Q' => tb (σ.set j (some v)) H' Q') te) := by
  refine ⟨fun pinsZ sZ σZ HZ Q IZ h => ?_⟩
  obtain ⟨hs, ht⟩ := h
  refine wpAny_Call_Name_kw (thn ((pe_var (pos := p1) (i := i) hN hv hd hcd).run pinsZ sZ σZ HZ (fun v H1 => v = .ref f ∧ H1 = HZ) IZ ⟨.ref f, hs, rfl, rfl⟩) fun u s1 ⟨v, H1, I1, r1, q1⟩ => ?_)
  obtain ⟨ev, eH⟩ := q1
  subst ev
  rw [eH] at I1
  obtain rfl : u = Value.ref f := r1
  have fnAt : ∀ {s2 : Shared} {σ2 H2}, Inv (cxOf CX0 X.prog X.w X.K X.mg X.base Ng qg sg g cdg X.A X.stack s H Eg).nox pinsZ σ2 H2 s2 → s2.heap.get? f = some (PySem.W.kla_obj "<lambda>" (X.env.qual ++ "<lambda>") params body scope (cloFrom X.env.cells scope.names []) pm c' ctv) := fun I2 =>
    I2.base.keep f _ hf hfn hfr (fun z => nomatch (show f ∈ ([] : List Addr) from z))
  refine PySem.W.callWith_F ⟨_, _, _, _, fnAt I1⟩ ?_ hst rfl
  rw [hst]
  show wpAny _ _ (spliced ((false, eval e (cxOf CX0 X.prog X.w X.K X.mg X.base Ng qg sg g cdg X.A X.stack s H Eg).nox.env) :: backTo p2 (starEach [] (cxOf CX0 X.prog X.w X.K X.mg X.base Ng qg sg g cdg X.A X.stack s H Eg).nox.env))) _ _ s1
  refine Calls.spliced_cons (thn (he.run pinsZ s1 σZ HZ _ I1 ht) fun u s2 ⟨v, H2, I2, rv, hco, q2⟩ => Calls.spliced_nil ⟨⟨_, _, _, _, fnAt I2⟩, ?_⟩)
  have of2 := fnAt I2
  have un : Un (frs X.stack) [] H H2 s.heap s2.heap := I2.base
  obtain ⟨⟨oc, vs, t, hoc, hdc, hvc⟩, _, _⟩ := I2.hok c' _ hco
  have rc : codeAny (model X.prog X.w) (X.A.deeper (envOfC qg sg s.heap.objs.size g cdg)) (.call (.ref f) ⟨[u], []⟩) (CR CX0 (envOfC qg sg s.heap.objs.size g cdg :: X.stack) X.prog X.w H2 s2 Q E0) s2 := by
    refine PySem.W.kla_callFunE hr.depth of2 rfl L.co L.gen rfl ⟨c', oc, vs, t, rfl, hoc, hdc, hvc⟩ ?_
    rw [hbind]
    refine wpAny_pure (wpAny_newFunctionEnv (fun y hy => (L.own y hy).2) (fun y hy => ?_) (fun h₁ hns hsb => ⟨I2.nolimit.fresh _ hsb, ?_⟩) L.kind)
    · rw [List.mem_singleton.mp hy]
      exact L.par
    show codeAny _ _ (.expr body (lamEnv X scope s2.heap.objs.size f c')) _ _
    have kp : ∀ b o, s2.heap.get? b = some o → h₁.get? b = some o := fun b o e => hsb.extBut b o (Nat.ne_of_lt (Heap.lt_size e)) (Heap.get?_push_of_some _ e)
    have J : Inv (lamCxP X (X.A.deeper (envOfC qg sg s.heap.objs.size g cdg)) (envOfC qg sg s.heap.objs.size g cdg :: X.stack) s2 H2 scope f c') [] (σ.set j (some v)) H2 { s2 with heap := h₁, toks := s2.toks + ([(a, u)] : List (Str × Value)).length } :=
      lam_startP I L nd hj rv I2.env0 hr.hd un hns kp
    refine PySem.W.kla_codeExpr (wpAny_mono ((hbody (X.A.deeper (envOfC qg sg s.heap.objs.size g cdg)) (envOfC qg sg s.heap.objs.size g cdg :: X.stack) s2 H2 hc (hr.deeper _)).run [] _ _ H2 Q J q2) (fun v s' hq => ?_) fun e s' hq => (show False from hq).elim)
    obtain ⟨w', H', J', rv', q⟩ := hq
    exact ⟨w', H', J'.os, J'.bare, J'.base, J'.hok, rv', q⟩
  refine wpAny_call (codeAny_mono rc fun r s' hq => ?_)
  cases r with
  | error e => exact (show False from hq).elim
  | ok fl =>
    cases fl with
    | ret u => exact I2.after hq
    | next => exact False.elim hq
    | brk => exact False.elim hq
    | cont => exact False.elim hq
end
/-- a code object of the name q for the table at P: found there, or new and written down -/
def Made (H H1 : Hp) (P : Addr) (q : Str) (c' : Addr) : Prop := ∃ (ps : Array Value) (pos : Pos), H P = some (.tbl ps) ∧ ((H1 = H ∧ codeAmong pos ps.toList = some (.ref c')) ∨
  (H c' = none ∧ P ≠ c' ∧ H1 = upd (upd H P (.tbl (ps ++ #[rawInt pos.line, rawInt pos.col, .ref c']))) c' (LamX.CodeO c' q)))
section
variable {X : Cx} {pins : List (Addr × Obj)} {σ : L2.St} {H : Hp} {s : Shared}
theorem lam_make3 {c P : Addr} {params : Arguments} {body : Expr} {scope : Scope} {pos : Pos} {E : Value → Shared → Prop} {Q : Value → Shared → Prop} (I : Inv X pins σ H s) (TB : LamX.TabB X.base X.mg c P) (hcode : X.env.code = .ref c)
    (hT : LamX.TabS H P (X.env.qual ++ "<lambda>")) (hdef : defaultsOf params X.env = ([], [])) (hfree : ∀ y ∈ scope.names, y.2 = .free → ∃ c, X.env.cells.lookup y.1 = some c)
    (h : ∀ (f c' : Addr) (pm ctv : Value) (H1 : Hp) (s' : Shared), Inv X pins σ H1 s' → Made H H1 P (X.env.qual ++ "<lambda>") c' → H1 c' = some (LamX.CodeO c' (X.env.qual ++ "<lambda>")) →
      s'.heap.get? f = some (PySem.W.kla_obj "<lambda>" (X.env.qual ++ "<lambda>") params body scope (cloFrom X.env.cells scope.names []) pm c' ctv) → H1 f = none → f ∉ frs X.stack → Q (.ref f) s') :
    wpAny (model X.prog X.w) X.A (eval (.Lambda params body scope pos) X.env) Q E s := by
  obtain ⟨ps, hP, ht, ha⟩ := hT
  refine PySem.W.kla_eval hdef ?_
  have bP : s.heap.BuiltinsAt X.mg P := TB.bm.keeps I.bk
  have hP' : s.heap.get? P = some { cls := .none, data := .fields ps } := I.hok P _ hP
  have nofr : ∀ f, s.heap.objs.size ≤ f → f ∉ frs X.stack := fun f hf z => by
    rcases List.mem_cons.mp (I.stkSub _ z) with e | e
    · have h1 := I.lt
      rw [← e] at h1
      exact Nat.lt_irrefl _ (Nat.lt_of_lt_of_le h1 hf)
    · exact I.nofs hf e
  cases hc : codeAmong pos ps.toList with
  | none =>
    refine PySem.W.kla_makeFunction (mg := X.mg) (c := c) (P := P) (ps := ps) (closure_ok hfree) I.ok.glob (I.mod.glob.keeps I.bk) hcode (TB.code.keeps I.bk) hP' ht hc TB.gP bP fun c' ctv h' tk hx hge hlt hrec htb => ?_
    obtain ⟨c2, oc, vs, t, e2, hoc, hd, hv⟩ := hrec
    cases e2
    have hsz : s.heap.objs.size ≤ h'.objs.size := Nat.le_trans hge (Nat.le_of_lt hlt)
    have nC : H c' = none := I.hok.fresh hge
    have I1 := LamX.inv_table (t' := tk) (more := #[rawInt pos.line, rawInt pos.col, .ref c']) (h' := h'.push (PySem.W.kla_obj "<lambda>" (X.env.qual ++ "<lambda>") params body scope (cloFrom X.env.cells scope.names []) ((X.mg "__name__").getD .none) c' ctv)) I hP
      (fun b o hb e => Heap.get?_push_of_some _ (hx b o hb e)) (Heap.get?_push_of_some _ htb) hge ⟨oc, vs, t, Heap.get?_push_of_some _ hoc, hd, hv⟩
    refine h h'.objs.size c' ((X.mg "__name__").getD .none) ctv _ _ I1 ⟨ps, pos, hP, .inr ⟨nC, ne_of_none hP nC, rfl⟩⟩ upd_same (Heap.get?_push_size _ rfl) ?_ (nofr _ hsz)
    have n1 : h'.objs.size ≠ c' := Nat.ne_of_gt hlt
    have n2 : h'.objs.size ≠ P := Nat.ne_of_gt (Nat.lt_of_lt_of_le (Heap.lt_size hP') hsz)
    rw [upd_ne n1, upd_ne n2]
    exact I.hok.fresh hsz
  | some cv =>
    obtain ⟨c', e, hco⟩ := ha pos cv hc
    subst e
    refine PySem.W.kla_makeFunctionHit (mg := X.mg) (c := c) (P := P) (ps := ps) (closure_ok hfree) I.ok.glob (I.mod.glob.keeps I.bk) hcode (TB.code.keeps I.bk) hP' ht hc bP fun ctv h' tk hx hsz => ?_
    have I1 : Inv X pins σ H { s with heap := h'.push (PySem.W.kla_obj "<lambda>" (X.env.qual ++ "<lambda>") params body scope (cloFrom X.env.cells scope.names []) ((X.mg "__name__").getD .none) c' ctv), toks := tk } := I.kept fun b o e => Heap.get?_push_of_some _ (hx b o e)
    exact h h'.objs.size c' ((X.mg "__name__").getD .none) ctv H _ I1 ⟨ps, pos, hP, .inl ⟨rfl, hc⟩⟩ hco (Heap.get?_push_size _ rfl) (I.hok.fresh hsz) (nofr _ hsz)
/-- x(e0, lambda a: body) -/
def tLamP (P : Addr) (q : Str) (j : Nat) (Ng : List Str) (tg : (TE → TE) → TS) (tb t0 : TE) : TE := fun σ H Q => t0 σ H fun v0 H0 => LamX.TabS H0 P q ∧ ∀ (f c' : Addr) (H1 : Hp), Made H0 H1 P q c' → H1 c' = some (LamX.CodeO c' q) → H1 f = none →
  tg (tActP 1 f c' q (fun v H' Q' => tb (σ.set j (some v)) H' Q')) { nx := fun _ H' => Q .non H', rt := Q } (L2.start Ng [v0, .ref f]) H1
abbrev Zc (X : Cx) (Ng : List Str) (x : Str) (sg : Scope) (g : Addr) (cdv : Value) (s : Shared) (H : Hp) : Cx := (cxOf CX0 X.prog X.w X.K X.mg X.base Ng x sg g cdv X.A X.stack s H E0).nox
theorem pe_lamcallP {x p0 a b : Str} {g c P : Addr} {k j : Nat} {pg : Arguments} {bg : List Stmt} {sg : Scope} {dV kV doc pm cdv ct oc : Value} {an od : Option Addr} {osl : Array (Option Value)} {Ng : List Str} {tg : (TE → TE) → TS}
    {params : Arguments} {body e0 : Expr} {scope : Scope} {tb t0 : TE} {p lpos pos : Pos} (hg : Gl X x) (hm : X.mg x = some (.ref g)) (hk : PySem.W.keepIn X.K (.ref g) = true)
    (lk : X.K.lookup g = some ⟨oc, od, .func (PySem.W.fnOf x x pg bg sg dV kV doc pm an cdv ct), osl⟩) (hcg : PySem.W.codeIn X.K cdv x = true) (hb : L2.Binds X.K (PySem.W.fnOf x x pg bg sg dV kV doc pm an cdv ct) [p0, b] []) (Sg : FnScope Ng [p0, b] sg) (hN1 : Ng[1]? = some b) (hva : Vis sg b)
    (TB : LamX.TabB X.base X.mg c P) (hcode : X.env.code = .ref c) (hc : Calm X.A) (hr : Room (k + 2) X.A) (L : LamP X.env.scope scope a) (nd : X.N.Nodup) (hj : X.N[j]? = some a) (hdef : defaultsOf params X.env = ([], []))
    (hbind : ∀ (q : Str) (cl : List (Str × Addr)) (pm cv ctv u : Value), bindArgs (PySem.W.kla_fn "<lambda>" q params body scope cl pm cv ctv) ⟨[u], []⟩ = pure [(a, u)])
    (h0 : PE X e0 t0) (hbody : ∀ (A : Around) (outer : List PySem.Env) (s : Shared) (H : Hp) (f c' : Addr), Calm A → Room k (A.deeper (lamEnv X scope s.heap.objs.size f c')) → PE (lamCxP X A outer s H scope f c') body tb)
    (hcallee : ∀ (s : Shared) (H : Hp) (ra : TE → TE), Calm (X.A.deeper (envOfC x sg s.heap.objs.size g cdv)) → Room (k + 1) (X.A.deeper (envOfC x sg s.heap.objs.size g cdv)) →
      (∀ {e : Expr} {te : TE} {p1 p2 : Pos}, PE (Zc X Ng x sg g cdv s H) e te → (starEach [e] (Zc X Ng x sg g cdv s H).env = (false, eval e (Zc X Ng x sg g cdv s H).env) :: starEach [] (Zc X Ng x sg g cdv s H).env) → PE (Zc X Ng x sg g cdv s H) (.Call (.Name b p1) [e] [] p2) (ra te)) →
      PSs (Zc X Ng x sg g cdv s H) bg (tg ra))
    (hdb : (x == ("__debug__" : Str)) = false := by decide) (hd : (b == ("__debug__" : Str)) = false := by decide) (hcd : (b == ("__classdict__" : Str)) = false := by decide)
    (hst : starEach [e0, .Lambda params body scope lpos] X.env = (false, eval e0 X.env) :: (false, eval (.Lambda params body scope lpos) X.env) :: starEach [] X.env := by rfl) :
    PE X (.Call (.Name x p) [e0, .Lambda params body scope lpos] [] pos) (tLamP P (X.env.qual ++ "<lambda>") j Ng tg tb t0) := by
  refine ⟨fun pins s σ H Q I h => ?_⟩
  refine wpAny_Call_Name_kw (ld_glob I hg hm ?_ hdb)
  refine PySem.W.callWith_K (h₀ := X.base) I.ok.mod.kin hk ?_ hst (by rfl)
  rw [hst]
  show wpAny _ _ (spliced ((false, eval e0 X.env) :: (false, eval (.Lambda params body scope lpos) X.env) :: backTo pos (starEach [] X.env))) _ _ s
  refine Calls.spliced_cons (thn (h0.run pins s σ H _ I h) fun u0 s0 ⟨v0, H0, I0, r0, hT, h1⟩ => Calls.spliced_cons (lam_make3 I0 TB hcode hT hdef (L.has I.ok) fun f c' pm' ctv H1 s' I1 hM hco hf hfn hfr => ?_))
  refine Calls.spliced_nil ⟨I1.kIn, ?_⟩
  have rc : codeAny (model X.prog X.w) X.A (.call (.ref g) ⟨[u0, .ref f], []⟩) (CR CX0 X.stack X.prog X.w H1 s' Q E0) s' := by
    refine LamX.run_ofS (N := Ng) (ps := [p0, b]) (us := [u0, .ref f]) (vs := [v0, .ref f]) lk hcg Sg hr I1.env0 (hb s' [u0, .ref f] I1.kIn rfl) (.cons r0 (.cons rfl .nil)) rfl fun hr' => ?_
    exact ⟨_, (hcallee s' H1 _ hc hr' fun {e te p1 p2} he hs => pe_actP (i := 1) (j := j) I1 L nd hj hf hfn hfr (fun u => hbind _ _ _ _ _ u) hc hr' (fun A outer s H c2 r2 => hbody A outer s H f c' c2 r2) he hN1 hva hd hcd hs).nox, h1 f c' H1 hM hco hfn⟩
  refine wpAny_call (codeAny_mono rc fun r s2 hq => ?_)
  cases r with
  | error e => exact (show False from hq).elim
  | ok fl =>
    cases fl with
    | ret u => exact I1.after hq
    | next => exact False.elim hq
    | brk => exact False.elim hq
    | cont => exact False.elim hq
end
end Ev

set_option Elab.async false
set_option linter.all false
set_option maxRecDepth 100000
set_option maxHeartbeats 4000000
/-! {**a, **b} of two dicts of whole numbers. -/
namespace Ev
open PySem PySem.Spec PyProof.Rows L2
variable [z : Tz]
def putW (ws : List (Str × Int)) (p : Str × Int) : List (Str × Int) := if p.1 ∈ nmW ws then ws.map (fun q => if q.1 = p.1 then (q.1, p.2) else q) else ws ++ [p]
def mergeW (ws us : List (Str × Int)) : List (Str × Int) := us.foldl putW ws
theorem putW_dkv (ws : List (Str × Int)) (p : Str × Int) : putK (dkv ws) (.inr p.1) (.int p.2) = dkv (putW ws p) := by
  unfold putK putW
  have an : ((dkv ws).any fun kv => decide (kv.1 = (Sum.inr p.1 : Key))) = decide (p.1 ∈ nmW ws) := by
    rw [Bool.eq_iff_iff, List.any_eq_true, decide_eq_true_iff]
    constructor
    · rintro ⟨kv, m, e⟩
      obtain ⟨q, mq, rfl⟩ := List.mem_map.mp m
      have : q.1 = p.1 := Sum.inr.inj (of_decide_eq_true e)
      exact List.mem_map.mpr ⟨q, mq, this⟩
    · intro m
      obtain ⟨q, mq, e⟩ := List.mem_map.mp m
      exact ⟨_, List.mem_map.mpr ⟨q, mq, rfl⟩, by simp [e]⟩
  rw [an]
  by_cases h : p.1 ∈ nmW ws
  · rw [if_pos (decide_eq_true h), if_pos h]
    unfold dkv
    rw [List.map_map, List.map_map]
    refine List.map_congr_left fun q _ => ?_
    show (if (Sum.inr q.1 : Key) = .inr p.1 then _ else _) = _
    by_cases e : q.1 = p.1
    · rw [if_pos (congrArg Sum.inr e)]
      show _ = (fun q : Str × Int => ((Sum.inr q.1 : Key), V.int q.2)) (if q.1 = p.1 then (q.1, p.2) else q)
      rw [if_pos e]
    · rw [if_neg fun z => e (Sum.inr.inj z)]
      show _ = (fun q : Str × Int => ((Sum.inr q.1 : Key), V.int q.2)) (if q.1 = p.1 then (q.1, p.2) else q)
      rw [if_neg e]
  · rw [if_neg (by simpa using h), if_neg h]
    unfold dkv
    rw [List.map_append]
    rfl
theorem mergeW_dkv : ∀ (us ws : List (Str × Int)), mergeK (dkv ws) (dkv us) = dkv (mergeW ws us)
  | [], ws => rfl
  | p :: us, ws => by
    show mergeK (putK (dkv ws) (.inr p.1) (.int p.2)) (dkv us) = _
    rw [putW_dkv, mergeW_dkv us]
    rfl
theorem nmW_putW (ws : List (Str × Int)) (p : Str × Int) : nmW (putW ws p) = if p.1 ∈ nmW ws then nmW ws else nmW ws ++ [p.1] := by
  unfold putW
  by_cases h : p.1 ∈ nmW ws
  · rw [if_pos h, if_pos h]
    unfold nmW
    rw [List.map_map]
    refine List.map_congr_left fun q _ => ?_
    show (if q.1 = p.1 then (q.1, p.2) else q).1 = q.1
    by_cases e : q.1 = p.1
    · rw [if_pos e]
    · rw [if_neg e]
  · rw [if_neg h, if_neg h]
    unfold nmW
    rw [List.map_append]
    rfl
theorem look_cons (p : Str × Int) (ws : List (Str × Int)) (s : Str) : look (p :: ws) s = if p.1 = s then some p.2 else look ws s := by
  unfold look
  rw [List.find?_cons]
  by_cases e : p.1 = s
  · simp [e]
  · simp [e]
theorem look_putW (p : Str × Int) (s : Str) (ws : List (Str × Int)) : look (putW ws p) s = if p.1 = s then some p.2 else look ws s := by
  unfold putW
  by_cases h : p.1 ∈ nmW ws
  · rw [if_pos h]
    induction ws with
    | nil => cases h
    | cons q ws ih =>
      rw [List.map_cons, look_cons, look_cons]
      by_cases e : q.1 = p.1
      · rw [if_pos e]
        show (if q.1 = s then some p.2 else _) = _
        by_cases e2 : p.1 = s
        · rw [if_pos (e.trans e2), if_pos e2]
        · rw [if_neg (fun z => e2 (e.symm.trans z)), if_neg e2, if_neg (fun z => e2 (e.symm.trans z))]
          by_cases h2 : p.1 ∈ nmW ws
          · have := ih h2
            rwa [if_neg e2] at this
          · congr 1
            refine (List.map_congr_left fun r mr => ?_).trans (List.map_id _)
            exact if_neg fun z => h2 (List.mem_map.mpr ⟨r, mr, z⟩)
      · rw [if_neg e]
        have h2 : p.1 ∈ nmW ws := (List.mem_cons.mp h).resolve_left fun z => e z.symm
        rw [ih h2]
        by_cases e2 : p.1 = s
        · rw [if_pos e2, if_neg (fun z => e (z.trans e2.symm)), if_pos e2]
        · rw [if_neg e2, if_neg e2]
  · rw [if_neg h]
    induction ws with
    | nil => rw [List.nil_append, look_cons]
    | cons q ws ih =>
      have h2 : p.1 ∉ nmW ws := fun z => h (List.mem_cons_of_mem _ z)
      have e : ¬ q.1 = p.1 := fun z => h (by rw [← z]; exact List.mem_cons_self ..)
      rw [List.cons_append, look_cons, look_cons, ih h2]
      by_cases e2 : p.1 = s
      · rw [if_pos e2, if_neg (fun z => e (z.trans e2.symm)), if_pos e2]
      · rw [if_neg e2, if_neg e2]
theorem mergeW_nodup : ∀ (us ws : List (Str × Int)), (nmW ws).Nodup → (nmW (mergeW ws us)).Nodup
  | [], _, h => h
  | p :: us, ws, h => by
    refine mergeW_nodup us (putW ws p) ?_
    rw [nmW_putW]
    by_cases e : p.1 ∈ nmW ws
    · rw [if_pos e]; exact h
    · rw [if_neg e]
      exact List.nodup_append.mpr ⟨h, by simp, fun a ha b hb z => e (by rw [← List.mem_singleton.mp hb, ← z]; exact ha)⟩
theorem mem_mergeW {s : Str} : ∀ (us ws : List (Str × Int)), s ∈ nmW (mergeW ws us) ↔ s ∈ nmW ws ∨ s ∈ nmW us
  | [], ws => ⟨.inl, fun h => h.elim id fun z => nomatch z⟩
  | p :: us, ws => by
    show s ∈ nmW (mergeW (putW ws p) us) ↔ _
    rw [mem_mergeW us, nmW_putW]
    show _ ↔ s ∈ nmW ws ∨ s ∈ p.1 :: nmW us
    by_cases e : p.1 ∈ nmW ws
    · rw [if_pos e, List.mem_cons]
      constructor
      · rintro (h | h)
        · exact .inl h
        · exact .inr (.inr h)
      · rintro (h | rfl | h)
        · exact .inl h
        · exact .inl e
        · exact .inr h
    · rw [if_neg e, List.mem_append, List.mem_singleton, List.mem_cons, or_assoc]
theorem len_mergeW : ∀ (us ws : List (Str × Int)), (mergeW ws us).length ≤ ws.length + us.length
  | [], ws => Nat.le_refl _
  | p :: us, ws => by
    have h := len_mergeW us (putW ws p)
    have h2 : (putW ws p).length ≤ ws.length + 1 := by
      unfold putW
      split
      · rw [List.length_map]; omega
      · rw [List.length_append]; exact Nat.le_refl _
    show (mergeW (putW ws p) us).length ≤ _
    rw [List.length_cons]
    omega
theorem look_mergeW {s : Str} : ∀ (us ws : List (Str × Int)), (nmW us).Nodup → look (mergeW ws us) s = if s ∈ nmW us then look us s else look ws s
  | [], ws, _ => by rw [if_neg (fun z => nomatch z)]; rfl
  | p :: us, ws, nd => by
    have n := List.nodup_cons.mp nd
    show look (mergeW (putW ws p) us) s = _
    rw [look_mergeW us _ n.2, look_putW, look_cons]
    by_cases e : p.1 = s
    · rw [if_pos e, if_pos e, if_neg (by rw [← e]; exact n.1), if_pos (by rw [← e]; exact List.mem_cons_self ..)]
    · rw [if_neg e, if_neg e]
      by_cases h : s ∈ nmW us
      · rw [if_pos h, if_pos (show s ∈ nmW (p :: us) from List.mem_cons_of_mem _ h)]
      · rw [if_neg h, if_neg fun z : s ∈ nmW (p :: us) => (List.mem_cons.mp z).elim (fun z => e z.symm) h]
/-- what a locked dict of whole numbers holds, as a list -/
abbrev ofW (xs : List Str) (f : Str → Int) : List (Str × Int) := xs.map fun s => (s, f s)
theorem nmW_ofW (xs : List Str) (f : Str → Int) : nmW (ofW xs f) = xs := by
  show List.map _ (List.map _ xs) = xs
  rw [List.map_map]
  exact List.map_id xs
theorem look_ofW {f : Str → Int} {s : Str} : ∀ {xs : List Str}, s ∈ xs → look (ofW xs f) s = some (f s)
  | x :: xs, h => by
    show look ((x, f x) :: ofW xs f) s = _
    rw [look_cons]
    by_cases e : x = s
    · rw [if_pos e]; show some (f x) = _; rw [e]
    · rw [if_neg e]
      exact look_ofW ((List.mem_cons.mp h).resolve_left fun z => e z.symm)
theorem zip_ofW {G : Hp} {f : Str → Int} : ∀ {xs : List Str} {kvs : List (Key × V)}, ZipK G (fK xs fun s => mI (f s)) kvs → kvs = dkv (ofW xs f)
  | [], [], _ => rfl
  | x :: xs, (k, v) :: kvs, h => by
    obtain ⟨⟨e1, e2⟩, t⟩ := h
    have e1 : k = .inr x := e1
    have e2 : v = .int (f x) := e2
    rw [zip_ofW (xs := xs) t, e1, e2]
    rfl
  | [], _ :: _, h => h.elim
  | _ :: _, [], h => h.elim
section
variable {pn : Option Addr} {Γ : Gam} {c1 c2 : Nat} {ta tb : TE} {xs ys : List Str} {f g : Str → Int}
theorem ev_star2 (ha : Ev pn ta Γ c1 (mWts xs f)) (hb : Ev pn tb Γ c2 (mWts ys g)) (lx : xs.length ≤ 1000) (ly : ys.length ≤ 1000) (nx : xs.Nodup) : Ev pn (tStar2 ta tb) Γ (c1 + c2) (mDk (mergeW (ofW xs f) (ofW ys g))) := .mk fun {G H σ n} E l Q q => fun D hD => by
  have k0' := Stp.newH (o := .dK []) E.gh hD
  obtain ⟨k0, p0⟩ := k0'.pure E.pen
  have npD : pn ≠ some D := fun z => (E.pen D z).2.ne hD
  have chg : ∀ {G1 H1 : Hp} {n1 : Nat} {u : HO}, Stp pn [] G H G1 H1 → PenOk pn G1 H1 n1 → G1 D = none → H1 D ≠ none → NT H1 D → Stp pn [] G H G1 (upd H1 D u) ∧ PenOk pn G1 (upd H1 D u) n1 := fun {G1 H1 n1 u} k p gD hn nt => by
    have kb : Stp pn [D] G1 H1 G1 (upd H1 D u) := .chg k.gh gD hn
    exact ⟨k.trans kb fun x h => .inr (by rw [List.mem_singleton.mp h]; exact hD), p.updH npD nt⟩
  refine ha.run (E.step k0 p0) (by omega) _ fun x G1 H1 n1 k1 p1 l1 sx => ?_
  obtain ⟨a, od, kvs, ex, hga, z⟩ := sx
  have ek := zip_ofW z
  subst ek
  have hD1 : H1 D = some (.dK []) := k1.hh D _ upd_same npD (fun z => nomatch z)
  have gD1 : G1 D = none := k1.own_none (E.gh.free hD) upd_same rfl npD (fun z => nomatch z)
  have neA : D ≠ a := fun z => by rw [z, hga] at gD1; cases gD1
  have lenA : (dkv (ofW xs f)).length ≤ 100000 := by unfold dkv ofW; rw [List.length_map, List.length_map]; omega
  refine ⟨a, _, ex, .inr ⟨od, k1.gh.x hga⟩, hD1, neA, lenA, ?_⟩
  obtain ⟨k2, p2⟩   := chg (u := .dK (mergeK [] (dkv (ofW xs f)))) (k0.trans0 k1) p1 gD1 (by rw [hD1]; exact fun z => nomatch z) (no_tbl hD1)
  refine hb.run (E.step k2 p2) (by omega) _ fun y G2 H2 n2 k3 p3 l3 sy => ?_
  obtain ⟨b, od2, kvs2, ey, hgb, z2⟩ := sy
  have ek2 := zip_ofW z2
  subst ek2
  have hD2 : H2 D = some (.dK (mergeK [] (dkv (ofW xs f)))) := k3.hh D _ upd_same npD (fun z => nomatch z)
  have gD2 : G2 D = none := k3.own_none gD1 upd_same rfl npD (fun z => nomatch z)
  have neB : D ≠ b := fun z => by rw [z, hgb] at gD2; cases gD2
  have lenB : (dkv (ofW ys g)).length ≤ 100000 := by unfold dkv ofW; rw [List.length_map, List.length_map]; omega
  refine ⟨b, _, ey, .inr ⟨od2, k3.gh.x hgb⟩, hD2, neB, lenB, ?_⟩
  obtain ⟨k4, p4⟩   := chg (u := .dK (mergeK (mergeK [] (dkv (ofW xs f))) (dkv (ofW ys g)))) (k2.trans0 k3) p3 gD2 (by rw [hD2]; exact fun z => nomatch z) (no_tbl hD2)
  have em : mergeK (mergeK [] (dkv (ofW xs f))) (dkv (ofW ys g)) = dkv (mergeW (ofW xs f) (ofW ys g)) := by
    have e1 : mergeK [] (dkv (ofW xs f)) = dkv (mergeW [] (ofW xs f)) := mergeW_dkv _ []
    have e2 : ∀ (us ws : List (Str × Int)), (nmW (ws ++ us)).Nodup → mergeW ws us = ws ++ us := by
      intro us
      induction us with
      | nil => intro ws _; rw [List.append_nil]; rfl
      | cons p us ih =>
        intro ws nd
        have e3 : ws ++ p :: us = (ws ++ [p]) ++ us := by simp
        have np : p.1 ∉ nmW ws := fun m => by
          unfold nmW at nd m
          rw [List.map_append] at nd
          exact (List.nodup_append.mp nd).2.2 _ m _ (by simp) rfl
        show mergeW (putW ws p) us = _
        unfold putW
        rw [if_neg np, ih _ (by rw [← e3]; exact nd), e3]
    rw [e1, e2 (ofW xs f) [] (by rw [List.nil_append, nmW_ofW]; exact nx), List.nil_append, mergeW_dkv]
  rw [em] at k4 p4 ⊢
  exact q (.ref D) (upd G2 D (.dK (dkv (mergeW (ofW xs f) (ofW ys g))))) _ n2 (k4.more.commit hD gD2 (fun _ _ => rfl) upd_same (.inl rfl)) (p4.updG npD gD2 (no_tbl (u := .dK (dkv (mergeW (ofW xs f) (ofW ys g)))) upd_same)) (by omega) ⟨D, rfl, upd_same⟩
end
end Ev

set_option Elab.async false
set_option linter.all false
set_option maxRecDepth 100000
set_option maxHeartbeats 4000000
/-! Two orders joined. -/
namespace Ev
open PySem PySem.Spec PyProof.Rows L2
variable [z : Tz]
def Ord.join (x y : Ord) : Ord := Ord.make (mergeW (ofW x.xs x.wd) (ofW y.xs y.wd)) (x.ps ++ y.ps)
structure OkJ (p : Ord × Ord) : Prop where
  one : p.1.Ok
  two : p.2.Ok
  few : p.1.xs.length < 30
  few2 : p.2.xs.length < 30
  fewp : p.1.ps.length < 30
  fewp2 : p.2.ps.length < 30
  same : ∀ s ∈ p.1.xs, s ∈ p.2.xs → p.1.wd s = p.2.wd s
noncomputable abbrev spOr_ (C : Addr) : Sp := SpF (α := Ord × Ord) (fun p => [mOrd C p.1, mOrd C p.2]) OkJ (fun p => mOrd C (p.1.join p.2))
theorem okArg_join {p : Ord × Ord} (h : OkJ p) : OkArg ⟨mergeW (ofW p.1.xs p.1.wd) (ofW p.2.xs p.2.wd), p.1.ps ++ p.2.ps, mDk (mergeW (ofW p.1.xs p.1.wd) (ofW p.2.xs p.2.wd)), mT ((p.1.ps ++ p.2.ps).map mPair)⟩ := by
  have l1 : (ofW p.1.xs p.1.wd).length = p.1.xs.length := List.length_map _
  have l2 : (ofW p.2.xs p.2.wd).length = p.2.xs.length := List.length_map _
  have l3 := len_mergeW (ofW p.2.xs p.2.wd) (ofW p.1.xs p.1.wd)
  have mem : ∀ s, s ∈ nmW (mergeW (ofW p.1.xs p.1.wd) (ofW p.2.xs p.2.wd)) ↔ s ∈ p.1.xs ∨ s ∈ p.2.xs := fun s => by rw [mem_mergeW, nmW_ofW, nmW_ofW]
  refine ⟨.inl rfl, .inr rfl, mergeW_nodup _ _ (by rw [nmW_ofW]; exact h.one.nx), ?_, ?_, fun q m => ?_⟩
  · have h1 := h.few
    have h2 := h.few2
    show (mergeW (ofW p.1.xs p.1.wd) (ofW p.2.xs p.2.wd)).length < 60
    omega
  · have h1 := h.fewp
    have h2 := h.fewp2
    show (p.1.ps ++ p.2.ps).length < 60
    rw [List.length_append]
    omega
  · show q.1 ∈ nmW (mergeW (ofW p.1.xs p.1.wd) (ofW p.2.xs p.2.wd)) ∧ q.2 ∈ nmW (mergeW (ofW p.1.xs p.1.wd) (ofW p.2.xs p.2.wd))
    rw [mem, mem]
    rcases List.mem_append.mp m with m | m
    · exact ⟨.inl (h.one.mem q m).1, .inl (h.one.mem q m).2⟩
    · exact ⟨.inr (h.two.mem q m).1, .inr (h.two.mem q m).2⟩
theorem rv_neI {a b : Int} : RV rNe (mI a) (mI b) (mV (.bl (!decide (a = b)))) := by
  have h := rv_ne (x := .int a) (y := .int b) rfl
  rw [show decide (V.int a = V.int b) = decide (a = b) from decide_eq_decide.mpr ⟨fun e => V.int.inj e, fun e => congrArg V.int e⟩] at h
  exact h
theorem rv_catT {K : PySem.W.Frag} {Ps Qs : List MP} (h : Ps.length + Qs.length ≤ 100000) : RV (rCatA K) (mT Ps) (mT Qs) (mT (Ps ++ Qs)) := .mk fun {G H x y} e h1 h2 Q q => by
  obtain ⟨a, vs, rfl, ha, z⟩ := h1
  obtain ⟨b, ws, rfl, hb, z'⟩ := h2
  refine ⟨a, b, vs, ws, rfl, rfl, SqT.of (e.x ha), SqT.of (e.x hb), small (by rw [z.len, z'.len]; exact h), fun ev => ?_, fun _ ew => ?_, fun _ _ p hp => ?_⟩
  · subst ev
    have : Ps = [] := by
      cases Ps with
      | nil => rfl
      | cons P Ps => exact z.elim
    subst this
    exact q _ G H (.refl e) ⟨b, ws, rfl, hb, z'⟩
  · subst ew
    have : Qs = [] := by
      cases Qs with
      | nil => rfl
      | cons P Ps => exact z'.elim
    subst this
    rw [List.append_nil] at q
    exact q _ G H (.refl e) ⟨a, vs, rfl, ha, z⟩
  · have k := Stp.new (o := .tup (vs ++ ws)) e hp
    exact q _ _ _ k ⟨p, _, rfl, upd_same, (z.mono k.gg).app (z'.mono k.gg)⟩
theorem rv_catTM {K : PySem.W.Frag} {α : Type} {xs ys : List α} {R : α → MP} (h : xs.length + ys.length ≤ 100000) : RV (rCatA K) (mT (xs.map R)) (mT (ys.map R)) (mT ((xs ++ ys).map R)) := by
  have k := rv_catT (K := K) (Ps := xs.map R) (Qs := ys.map R) (by simpa using h)
  rw [← List.map_append] at k
  exact k
section
variable {K : PySem.W.Frag} {C : Addr} {p : Ord × Ord}
theorem sx_or (cl : Cls K C) (na : ∀ f ∈ ordF, NoAttr K C f) (h : OkJ p) :
    Sx none (tSeq (tFor (iKeys (tFld K (tVar 0) "_widths")) (gName 2) (tIfS (tAnd (tB (tDIn (tVar 2) (tFld K (tVar 1) "_widths"))) (tTest (tOp rNe (tDGet (tFld K (tVar 0) "_widths") (tVar 2)) (tDGet (tFld K (tVar 1) "_widths") (tVar 2))))) tNever tNext))
      (tRet (tMake C (spOI C) [] E0 (tCons (tStar2 (tFld K (tVar 0) "_widths") (tFld K (tVar 1) "_widths")) (tCons (tOp (rCatA K) (tProp C (spPs C) [] E0 (tVar 0)) (tProp C (spPs C) [] E0 (tVar 1))) tNil)))))
      [.im (mOrd C p.1), .im (mOrd C p.2), .no] 0 (endO (mOrd C (p.1.join p.2))) := by
  have few := h.few
  have few2 := h.few2
  have fewp := h.fewp
  have fewp2 := h.fewp2
  refine x_seq (c1 := 0) (fun Γ' => ∃ s2, Γ' = [.im (mOrd C p.1), .im (mOrd C p.2), s2])
    (Sx.more (sx_forL (xs := p.1.xs) (R := mS) (ei_keysF (ev_ws (ev_var (i := 0) rfl) cl na)) 0 (fun _ Γ' => ∃ s2, Γ' = [.im (mOrd C p.1), .im (mOrd C p.2), s2]) ⟨_, rfl⟩ (fun pre s post Γ' hs hI => ?_) fun Γ' h => h) (by omega)) (fun Γ' hI => ?_)
  · obtain ⟨s2, rfl⟩ := hI
    have m1 : s ∈ p.1.xs := by rw [hs]; simp
    refine ⟨_, _, gx_name, ?_⟩
    show Sx none _ [.im (mOrd C p.1), .im (mOrd C p.2), .im (mS s)] 0 _
    by_cases m2 : s ∈ p.2.xs
    · refine x_if (c1 := 0) (et_and (c1 := 0) (c2 := 0) (et_BV (ev_inF (ev_var (i := 2) rfl) (ev_ws (ev_var (i := 1) rfl) cl na))) fun _ => et_testV (ev_op (ev_dgetF (f := fun s => mI (p.1.wd s)) (ev_ws (ev_var (i := 0) rfl) cl na) (ev_var (i := 2) rfl) m1) (ev_dgetF (f := fun s => mI (p.2.wd s)) (ev_ws (ev_var (i := 1) rfl) cl na) (ev_var (i := 2) rfl) m2) rv_neI)) (fun hT => ?_) (fun _ => x_next ⟨_, rfl⟩)
      simp [h.same s m1 m2] at hT
    · refine x_if (c1 := 0) (et_and (c1 := 0) (c2 := 0) (P2 := fun _ => False) (et_BV (ev_inF (ev_var (i := 2) rfl) (ev_ws (ev_var (i := 1) rfl) cl na))) fun z => ?_) (fun hT => ?_) (fun _ => x_next ⟨_, rfl⟩)
      · simp [m2] at z
      · simp [m2] at hT
  · obtain ⟨s2, rfl⟩ := hI
    refine x_ret (c1 := 0) (ev_make (⟨mergeW (ofW p.1.xs p.1.wd) (ofW p.2.xs p.2.wd), p.1.ps ++ p.2.ps, mDk (mergeW (ofW p.1.xs p.1.wd) (ofW p.2.xs p.2.wd)), mT ((p.1.ps ++ p.2.ps).map mPair)⟩ : ArgO) (ea_cons (c1 := 0) (c2 := 0) ?_ (ea_cons (c1 := 0) (c2 := 0) ?_ ea_nil)) (okArg_join h))
    · exact ev_star2 (ev_ws (ev_var (i := 0) rfl) cl na) (ev_ws (ev_var (i := 1) rfl) cl na) (by omega) (by omega) h.one.nx
    · exact ev_op (ev_prop p.1 (ev_var (i := 0) rfl) rfl trivial) (ev_prop p.2 (ev_var (i := 1) rfl) rfl trivial) (rv_catTM (by omega))
end
end Ev

set_option Elab.async false
set_option linter.all false
set_option maxRecDepth 100000
set_option maxHeartbeats 4000000
/-! A lambda with one parameter, handed to a def that calls it: by what its values stand for. -/
namespace Ev
open PySem PySem.Spec PyProof.Rows L2
variable [z : Tz]
/-- the function at f, made when G1 was what never changes -/
def mFn (G1 : Hp) (f : Addr) : MP := ⟨fun G v => v = .ref f ∧ Same G1 G, fun s ⟨e, h⟩ => ⟨e, h.trans s⟩⟩
/-- what a lambda sees of its maker's slots -/
def captS : Sl → Sl
  | .own _ => .no
  | s => s
def capt (Γ : Gam) : Gam := Γ.map captS
section
variable {pn : Option Addr} {Γ : Gam} {G G' H H' : Hp} {σ : L2.St}
theorem Slots.capt (same : Same G G') : ∀ {Γ : Gam} {σ : L2.St}, Slots pn G H Γ σ → Slots pn G' H' (capt Γ) σ
  | [], [], _ => trivial
  | .own _ :: Γ, o :: σ, h => ⟨trivial, Slots.capt same h.2⟩
  | .no :: Γ, o :: σ, h => ⟨trivial, Slots.capt same h.2⟩
  | .im P :: Γ, o :: σ, h => ⟨let ⟨v, e, q⟩ := h.1; ⟨v, e, P.mono same q⟩, Slots.capt same h.2⟩
  | [], _ :: _, h => h.elim
  | _ :: _, [], h => h.elim
theorem owns_capt : ∀ (Γ : Gam) (σ : L2.St), owns (capt Γ) σ = []
  | [], _ => by cases ‹L2.St› <;> rfl
  | s :: Γ, [] => by cases s <;> rfl
  | .own _ :: Γ, o :: σ => by
    show owns (.no :: capt Γ) (o :: σ) = []
    simpa [owns] using owns_capt Γ σ
  | .no :: Γ, o :: σ => by
    show owns (.no :: capt Γ) (o :: σ) = []
    simpa [owns] using owns_capt Γ σ
  | .im P :: Γ, o :: σ => by
    show owns (.im P :: capt Γ) (o :: σ) = []
    simpa [owns] using owns_capt Γ σ
end
section
variable {pn : Option Addr} {Γ : Gam} {c c0 cb cc : Nat} {α : Type} {Sa Sr : α → MP} {pa : α → Prop} {tb t0 : TE} {q : Str} {S S0 : MP} {j : Nat} {Ng : List Str} {tg : (TE → TE) → TS} {P : Addr}
theorem ev_act {G1 H1 : Hp} {σ : L2.St} {f c' : Addr} (hco : G1 c' = some (LamX.CodeO c' q)) (sl : Slots pn G1 H1 Γ σ) (hb : ∀ a, pa a → Ev pn tb ((capt Γ).set j (.im (Sa a))) cb (Sr a)) {Γ' : Gam} {i : Nat} {te : TE} {a : α} (hi : Γ'[i]? = some (.im (mFn G1 f))) (he : Ev pn te Γ' c (Sa a)) (ha : pa a) :
    Ev pn (tActP i f c' q (fun v H' Q' => tb (σ.set j (some v)) H' Q') te) Γ' (c + cb) (Sr a) := .mk fun {G H σZ n} E l Q k => by
  obtain ⟨o, ho, v, rfl, rfl, same⟩ := E.sl.get hi
  refine ⟨ho, he.run E (by omega) _ fun w G2 H2 n2 k2 p2 l2 sw => ⟨k2.gh.x (k2.gg _ _ (same _ _ hco)), ?_⟩⟩
  have E0 : Env pn G2 H2 (capt Γ) σ n2 := ⟨k2.gh, p2, Slots.capt (same.trans k2.gg) sl, by rw [owns_capt]; exact List.nodup_nil⟩
  refine (hb a ha).run (E0.set j (s := .im (Sa a)) (o := some w) ⟨w, rfl, sw⟩ rfl) (by omega) _ fun r G3 H3 n3 k3 p3 l3 s3 => ?_
  exact k r G3 H3 n3 (k2.trans0 k3) p3 (by omega) s3
/-- the step that makes a code object known -/
theorem made_step {G H H1 : Hp} {n : Nat} {c' : Addr} (hT : (P, q) ∈ z.T) (hu : ∀ t ∈ z.T, t.1 = P → t.2 = q) (e : Sm G H) (p : PenOk pn G H n) (hM : Made H H1 P q c') : ∃ G1, Stp pn [] G H G1 H1 ∧ PenOk pn G1 H1 n ∧ G1 c' = some (LamX.CodeO c' q) := by
  obtain ⟨gP, ps0, hP0, tr, codes⟩ := p.tab.1 (P, q) hT
  obtain ⟨ps, pos, hP, hM⟩ := hM
  have hP0 : H P = some (.tbl ps0) := hP0
  have gP : G P = none := gP
  rw [hP0] at hP
  cases hP
  rcases hM with ⟨rfl, hc⟩ | ⟨nc, nPc, rfl⟩
  · obtain ⟨c, e1, e2⟩ := codes pos _ hc
    cases e1
    exact ⟨G, .refl e, p, e2⟩
  · have gc : G c' = none := e.free nc
    have hP0' := hP0
    have same : Same G (upd G c' (LamX.CodeO c' q)) := fun b o h => by rw [upd_ne (ne_of_none h gc)]; exact h
    have oth : ∀ b, b ≠ c' → b ≠ P → upd (upd H P (.tbl (ps0 ++ #[rawInt pos.line, rawInt pos.col, .ref c']))) c' (LamX.CodeO c' q) b = H b := fun b h1 h2 => by rw [upd_ne h1, upd_ne h2]
    have eL : (ps0 ++ #[rawInt pos.line, rawInt pos.col, .ref c']).toList = ps0.toList ++ [rawInt pos.line, rawInt pos.col, .ref c'] := by simp
    have k : Stp pn [] G H (upd G c' (LamX.CodeO c' q)) (upd (upd H P (.tbl (ps0 ++ #[rawInt pos.line, rawInt pos.col, .ref c']))) c' (LamX.CodeO c' q)) := by
      refine ⟨same, fun b o h => ?_, fun b o h _ _ nt => ?_, fun b g h _ _ => .inl ?_, fun b h => ?_, fun P2 q2 hm t _ _ => ?_⟩
      · by_cases x : b = c'
        · rw [x, upd_same] at h ⊢
          exact .inl h
        · rw [upd_ne x] at h
          rw [oth b x (fun y => by rw [y, gP] at h; cases h)]
          exact e b o h
      · rw [oth b (ne_of_none h nc) (fun y => by rw [y, hP0] at h; cases h; cases nt)]
        exact h
      · rw [upd_ne (fun y => h (by rw [y]; exact nc))]
        exact g
      · by_cases x : b = c'
        · exact absurd (by rw [x]; exact nc) h
        · by_cases y : b = P
          · rw [y, upd_ne nPc, upd_same]; exact fun z => nomatch z
          · rw [oth b x y]; exact h
      · obtain ⟨g2, ps2, h2, tr2, cd2⟩ := t
        have n2 : P2 ≠ c' := ne_of_none h2 nc
        by_cases y : P2 = P
        · subst y
          have eq : q2 = q := hu _ hm rfl
          subst eq
          rw [hP0] at h2
          cases h2
          refine ⟨by rw [upd_ne n2]; exact g2, _, by rw [upd_ne n2, upd_same], by rw [eL]; exact PySem.TriplesOk_snoc _ _ _ _ tr2, fun p' cv hcv => ?_⟩
          rw [eL] at hcv
          rcases LamX.among_app _ tr2 hcv with z | z
          · obtain ⟨c0, e1, e2⟩ := cd2 p' cv z
            exact ⟨c0, e1, same _ _ e2⟩
          · exact ⟨c', z, upd_same⟩
        · refine ⟨by rw [upd_ne n2]; exact g2, ps2, by rw [oth P2 n2 y]; exact h2, tr2, fun p' cv hcv => ?_⟩
          obtain ⟨c0, e1, e2⟩ := cd2 p' cv hcv
          exact ⟨c0, e1, same _ _ e2⟩
    refine ⟨_, k, ⟨fun a ha => ?_, p.tab.step k (fun a ha => (p a ha).2.nt) fun _ z => nomatch z⟩, upd_same⟩
    obtain ⟨h1, q', ns, po, left, h2, h3, h4, h5⟩ := p a ha
    have n1 : a ≠ c' := ne_of_none h2 nc
    have n2 : a ≠ P := fun y => by rw [y, hP0] at h2; cases h2
    exact ⟨by rw [upd_ne n1]; exact h1, q', ns, po, left, by rw [oth a n1 n2]; exact h2, same _ _ h3, h4, h5⟩
/-- x(e0, lambda a: body) -/
theorem ev_lamP (hT : (P, q) ∈ z.T) (hu : ∀ t ∈ z.T, t.1 = P → t.2 = q) (h0 : Ev pn t0 Γ c0 S0) (hb : ∀ a, pa a → Ev pn tb ((capt Γ).set j (.im (Sa a))) cb (Sr a))
    (hcal : ∀ (G1 : Hp) (f : Addr) (ra : TE → TE), (∀ {Γ' : Gam} {te : TE} {c : Nat} {a : α}, Γ'[1]? = some (.im (mFn G1 f)) → Ev pn te Γ' c (Sa a) → pa a → Ev pn (ra te) Γ' (c + cb) (Sr a)) → Sx pn (tg ra) (startG Ng [S0, mFn G1 f]) cc (endO S)) :
    Ev pn (tLamP P q j Ng tg tb t0) Γ (c0 + cc) S := .mk fun {G H σ n} E l Q k =>
  h0.run E (by omega) _ fun v0 G0 H0 n0 k0 p0 l0 s0 => by
    have E1 := E.step k0 p0
    refine ⟨?_, fun f c' H1 hM hco hf => ?_⟩
    · obtain ⟨_, ps, e, tr, codes⟩ := p0.tab.1 (P, q) hT
      refine ⟨ps, e, tr, fun pos cv hc => ?_⟩
      obtain ⟨c, e1, e2⟩ := codes pos cv hc
      exact ⟨c, e1, k0.gh.x e2⟩
    · obtain ⟨G1, k1, p1, hc1⟩ := made_step hT hu k0.gh p0 hM
      obtain ⟨En, eo⟩ := env_start (pn := pn) (N := Ng) (Ps := [S0, mFn G1 f]) (vs := [v0, .ref f]) (n := n0) k1.gh p1 ⟨S0.mono k1.gg s0, ⟨rfl, .refl _⟩, trivial⟩
      refine (hcal G1 f _ fun hi he ha => ev_act hc1 (E1.sl.step k1) hb hi he ha).run _ En (by omega) (fun Γ' σ' G' H' n' a g => ?_) (fun v G' H' n' k2 p2 l2 s2 => k v G' H' n' ((k0.trans0 k1).trans0 (eo ▸ k2)) p2 (by omega) s2) (fun _ _ _ _ _ a _ => a.elim) (fun _ _ _ _ _ a _ => a.elim)
      have k2 := g.stp
      rw [eo] at k2
      have l2 := g.le
      exact k .non G' H' n' ((k0.trans0 k1).trans0 k2) g.env.pen (by omega) (a G')
end
end Ev

set_option Elab.async false
set_option linter.all false
set_option maxRecDepth 100000
set_option maxHeartbeats 4000000
/-! a <= b <= c; lists that are empty or not. -/
namespace Ev
open PySem PySem.Spec PyProof.Rows L2
variable [z : Tz]
section
variable {pn : Option Addr} {Γ : Gam} {c1 c2 c3 : Nat} {ta tb tc : TE} {K : PySem.W.Frag} {i j k : Int}
theorem ev_chainL (ha : Ev pn ta Γ c1 (mI i)) (hb : Ev pn tb Γ c2 (mI j)) (hc : Ev pn tc Γ c3 (mI k)) : Ev pn (tChain (rI0 fun i j => V.bl (decide (i ≤ j))) (rI0 fun i j => V.bl (decide (i ≤ j))) ta tb tc) Γ (c1 + c2 + c3) (mV (.bl (decide (i ≤ j) && decide (j ≤ k)))) := .mk fun E l Q q =>
  ha.run E (by omega) _ fun x G1 H1 n1 k1 p1 l1 s1 => hb.run (E.step k1 p1) (by omega) _ fun y G2 H2 n2 k2 p2 l2 s2 => by
    obtain rfl : x = .int i := s1
    obtain rfl : y = .int j := s2
    refine ⟨i, j, rfl, rfl, _, rfl, ?_⟩
    by_cases h : i ≤ j
    · rw [if_pos (decide_eq_true h)]
      refine hc.run ((E.step k1 p1).step k2 p2) (by omega) _ fun w G3 H3 n3 k3 p3 l3 s3 => ?_
      obtain rfl : w = .int k := s3
      refine ⟨j, k, rfl, rfl, q _ G3 H3 n3 ((k1.trans0 k2).trans0 k3) p3 (by omega) ?_⟩
      show _ = _
      rw [decide_eq_true h, Bool.true_and]
    · rw [if_neg (by simpa using h)]
      refine q _ G2 H2 n2 (k1.trans0 k2) p2 (by omega) ?_
      show _ = _
      rw [decide_eq_false h, Bool.false_and]
theorem rv_neNil {α : Type} {R : α → MP} {d : α → PyData} (h : ∀ x, HasD K (R x) (d x)) (xs : List α) (sh : SeqAt.shaped (.list (xs.map d)) = true) : RV (rNeD K) (mL (xs.map R)) (mL []) (mV (.bl (!xs.isEmpty))) := by
  have k := rv_neD (K := K) (hd_lst (hds_map h xs)) (hd_lst .nil) sh (by decide)
  rw [show PyData.eqv (.list (xs.map d)) (.list []) = xs.isEmpty by cases xs <;> simp [PyData.eqv, PyData.eqvAll]] at k
  exact k
theorem rv_eqNil {α : Type} {R : α → MP} {d : α → PyData} (h : ∀ x, HasD K (R x) (d x)) (xs : List α) (sh : SeqAt.shaped (.list (xs.map d)) = true) : RV (rEqD K) (mL (xs.map R)) (mL []) (mV (.bl xs.isEmpty)) := by
  have k := rv_eqDD (K := K) (hd_lst (hds_map h xs)) (hd_lst .nil) sh (by decide)
  rw [show PyData.eqv (.list (xs.map d)) (.list []) = xs.isEmpty by cases xs <;> simp [PyData.eqv, PyData.eqvAll]] at k
  exact k
theorem sh_map {α : Type} {d : α → PyData} (h2 : ∀ x, (d x).depth ≤ 10) (xs : List α) (h1 : ∀ x ∈ xs, (d x).canLay0 = true) : SeqAt.shaped (.list (xs.map d)) = true := by
  have c : PyData.canLayAll0 (xs.map d) = true := by
    induction xs with
    | nil => simp [PyData.canLayAll0]
    | cons x xs ih => simp [PyData.canLayAll0, h1 x (List.mem_cons_self ..), ih fun y m => h1 y (List.mem_cons_of_mem _ m)]
  have e : PyData.depthAll (xs.map d) ≤ 10 := by
    clear c h1
    induction xs with
    | nil => simp [PyData.depthAll]
    | cons x xs ih =>
      rw [List.map_cons]
      show max (d x).depth (PyData.depthAll (xs.map d)) ≤ 10
      have := h2 x
      omega
  simp only [SeqAt.shaped, PyData.canLay0, c, PyData.depth, Bool.true_and]
  exact decide_eq_true (Nat.le_trans (Nat.succ_le_succ e) (show 11 ≤ 64 by decide))
theorem sh_strs {xs : List Str} (h : ∀ s ∈ xs, PyData.strOk s = true) : SeqAt.shaped (.list (xs.map PyData.str)) = true := sh_map (fun _ => by simp [PyData.depth]) xs fun s m => by simp [PyData.canLay0, h s m]
theorem sh_pairs {xs : List (Str × Str)} (h : ∀ p ∈ xs, PyData.strOk p.1 = true ∧ PyData.strOk p.2 = true) : SeqAt.shaped (.list (xs.map fun p => PyData.tuple [.str p.1, .str p.2])) = true := sh_map (fun _ => by simp [PyData.depth, PyData.depthAll]) xs fun p m => by simp [PyData.canLay0, PyData.canLayAll0, (h p m).1, (h p m).2]
theorem hd_pair (p : Str × Str) : HasD K (mPair p) (.tuple [.str p.1, .str p.2]) := hd_tup (.cons hd_str (.cons hd_str .nil))
/-- {}, the last two slots' own comprehension of texts -/
theorem ev_lcS {xs : List Str} {b : Str → Bool} {wi : TI} {g : TG} {tt : TT} {te : TE} {vs : List Nat} {ct ce : Nat} (hi : EvI pn wi Γ c1 (· = xs.map mS)) (hm : xs.length ≤ 100000)
    (h : ∀ x ∈ xs, ∃ Γ1 ts, Gx pn g (wipeG Γ vs) (mS x) Γ1 ts ∧ (∀ t ∈ ts, t ∈ vs) ∧ EvT pn tt Γ1 ct (· = b x) ∧ (b x = true → Ev pn te Γ1 ce (mS x))) : Ev pn (tLc wi g tt te vs) Γ (c1 + xs.length * (ct + ce)) (mStrs (xs.filter b)) :=
  Ev.mono (ev_of_en1 (en_lcL (R := mS) (R' := mS) (f := id) hi hm h)) (fun G v h => by rw [List.map_id] at h; exact h) (Nat.le_refl _)
end
end Ev

set_option Elab.async false
set_option linter.all false
set_option maxRecDepth 100000
set_option maxHeartbeats 4000000
/-! Data: what stands for it, its kind, == (), not in a tuple of texts; slices of tuples, tuples many times. -/
namespace Ev
open PySem PySem.Spec PyProof.Rows L2
variable [z : Tz]
/-- a dict that never changes again, locked or not -/
def mDd (ks : List (Str × MP)) : MP := ⟨fun G v => ∃ a kvs, v = .ref a ∧ Rd G a (.dK kvs) ∧ ZipK G ks kvs, fun s ⟨a, kvs, e, h, z⟩ => ⟨a, kvs, e, h.imp (s _ _) (fun ⟨o, h⟩ => ⟨o, s _ _ h⟩), z.mono s⟩⟩
def keyS : PyData → Str
  | .str x => x
  | _ => Str.empty
mutual
def mDat : PyData → MP
  | .none => mV .non
  | .bool b => mV (.bl b)
  | .int i => mI i
  | .str x => mS x
  | .list ds => mL (mDats ds)
  | .tuple ds => mT (mDats ds)
  | .dict ds => mDd (mKvs ds)
def mDats : List PyData → List MP
  | [] => []
  | d :: ds => mDat d :: mDats ds
def mKvs : List (PyData × PyData) → List (Str × MP)
  | [] => []
  | (k, d) :: ds => (keyS k, mDat d) :: mKvs ds
end
theorem mDats_map : ∀ ds : List PyData, mDats ds = ds.map mDat
  | [] => by simp [mDats]
  | d :: ds => by simp [mDats, mDats_map ds]
def isStrD : PyData → Bool
  | .str _ => true
  | _ => false
mutual
/-- the keys of all dicts are texts -/
def okK : PyData → Bool
  | .none => true
  | .bool _ => true
  | .int _ => true
  | .str _ => true
  | .list ds => okKs ds
  | .tuple ds => okKs ds
  | .dict ds => okKk ds
def okKs : List PyData → Bool
  | [] => true
  | d :: ds => okK d && okKs ds
def okKk : List (PyData × PyData) → Bool
  | [] => true
  | (k, d) :: ds => isStrD k && (okK d && okKk ds)
end
theorem Sm.rd2 {G H : Hp} {a : Addr} {kvs : List (Key × V)} (s : Sm G H) (h : Rd G a (.dK kvs)) : Rd H a (.dK kvs) := by
  rcases h with h | ⟨o, h⟩
  · exact s.rd h
  · exact .inr ⟨o, s.x h⟩
section
variable {K : PySem.W.Frag} {G H : Hp}
mutual
theorem dq_of (e : Sm G H) : ∀ (d : PyData) (v : V), okK d = true → (mDat d).pr G v → Dq K H v d
  | .none, v, _, h => by simp only [mDat] at h; cases h; exact .non
  | .bool b, v, _, h => by simp only [mDat] at h; cases h; exact .bl b
  | .int i, v, _, h => by simp only [mDat] at h; cases h; exact .int i
  | .str x, v, _, h => by simp only [mDat] at h; cases h; exact .str x
  | .list ds, v, k, h => by
    simp only [mDat] at h
    simp only [okK] at k
    obtain ⟨a, vs, rfl, ha, zz⟩ := h
    exact .lst (SqL.of (e.x ha)) (dqs_of e ds vs k zz)
  | .tuple ds, v, k, h => by
    simp only [mDat] at h
    simp only [okK] at k
    obtain ⟨a, vs, rfl, ha, zz⟩ := h
    exact .tup (SqT.of (e.x ha)) (dqs_of e ds vs k zz)
  | .dict ds, v, k, h => by
    simp only [mDat] at h
    simp only [okK] at k
    obtain ⟨a, kvs, rfl, ha, zz⟩ := h
    exact .dct (e.rd2 ha) (dqk_of e ds kvs k zz)
theorem dqs_of (e : Sm G H) : ∀ (ds : List PyData) (vs : List V), okKs ds = true → Zip G (mDats ds) vs → DqAll K H vs ds
  | [], [], _, _ => .nil
  | [], _ :: _, _, h => by simp only [mDats] at h; exact h.elim
  | d :: ds, [], _, h => by simp only [mDats] at h; exact h.elim
  | d :: ds, v :: vs, k, h => by
    simp only [mDats] at h
    simp only [okKs, Bool.and_eq_true] at k
    exact .cons (dq_of e d v k.1 h.1) (dqs_of e ds vs k.2 h.2)
theorem dqk_of (e : Sm G H) : ∀ (ds : List (PyData × PyData)) (kvs : List (Key × V)), okKk ds = true → ZipK G (mKvs ds) kvs → DqKv K H kvs ds
  | [], [], _, _ => .nil
  | [], _ :: _, _, h => by simp only [mKvs] at h; exact h.elim
  | (k, d) :: ds, [], _, h => by simp only [mKvs] at h; exact h.elim
  | (k, d) :: ds, q :: kvs, y, h => by
    simp only [mKvs] at h
    simp only [okKk, Bool.and_eq_true] at y
    obtain ⟨⟨h1, h2⟩, h3⟩ := h
    refine .cons ?_ (dq_of e d q.2 y.2.1 h2) (dqk_of e ds kvs y.2.2 h3)
    rw [h1]
    cases k <;> first | rfl | cases y.1
end
/-- the class of data -/
def tyD : PyData → Value
  | .none => .type "NoneType"
  | .bool _ => .type "bool"
  | .int _ => .type "int"
  | .str _ => .type "str"
  | .list _ => .type "list"
  | .tuple _ => .type "tuple"
  | .dict _ => .type "dict"
theorem ty_dat (e : Sm G H) {d : PyData} {v : V} (h : (mDat d).pr G v) : TyX K H v (tyD d) := by
  cases d with
  | none => simp only [mDat] at h; cases h; exact .base .non
  | bool b => simp only [mDat] at h; cases h; exact .base (.bl b)
  | int i => simp only [mDat] at h; cases h; exact .base (.int i)
  | str x => simp only [mDat] at h; cases h; exact .base (.str x)
  | list ds => simp only [mDat] at h; obtain ⟨a, vs, rfl, ha, _⟩ := h; exact .base (.lst (e.x ha))
  | tuple ds => simp only [mDat] at h; obtain ⟨a, vs, rfl, ha, _⟩ := h; exact .base (.tup (e.x ha))
  | dict ds =>
    simp only [mDat] at h
    obtain ⟨a, kvs, rfl, ha, _⟩ := h
    rcases e.rd2 ha with h | ⟨o, h⟩
    · exact .base (.dK h)
    · exact .fDict h
end
def isTupD : PyData → Bool
  | .tuple _ => true
  | _ => false
section
variable {pn : Option Addr} {Γ : Gam} {c c1 c2 c3 : Nat} {K : PySem.W.Frag} {ta tb te td ty : TE} {Ps Qs : List MP} {d : PyData}
theorem rc_isTup : RC (rIsi K) [mDat d, mV (.ty "tuple")] (mV (.bl (isTupD d))) := .mk fun {G H vs} e zz Q q => by
  obtain ⟨v, u, rfl, h1, h2⟩ := zip2 zz
  refine ⟨v, .ty "tuple", tyD d, .type "tuple", isTupD d, by rw [show u = _ from h2], .ty "tuple", ty_dat e h1, ?_, q _ _ _ (.refl e) rfl⟩
  cases d with
  | none => exact show PySem.W.kitOne K (.type "NoneType") (.type "tuple") = some false from kit_ty (by decide +kernel)
  | bool _ => exact show PySem.W.kitOne K (.type "bool") (.type "tuple") = some false from kit_ty (by decide +kernel)
  | int _ => exact show PySem.W.kitOne K (.type "int") (.type "tuple") = some false from kit_ty (by decide +kernel)
  | str _ => exact show PySem.W.kitOne K (.type "str") (.type "tuple") = some false from kit_ty (by decide +kernel)
  | list _ => exact show PySem.W.kitOne K (.type "list") (.type "tuple") = some false from kit_ty (by decide +kernel)
  | tuple _ => exact show PySem.W.kitOne K (.type "tuple") (.type "tuple") = some true from kit_ty (by decide +kernel)
  | dict _ => exact show PySem.W.kitOne K (.type "dict") (.type "tuple") = some false from kit_ty (by decide +kernel)
theorem rc_isStr : RC (rIsi K) [mDat d, mV (.ty "str")] (mV (.bl (isStrD d))) := .mk fun {G H vs} e zz Q q => by
  obtain ⟨v, u, rfl, h1, h2⟩ := zip2 zz
  refine ⟨v, .ty "str", tyD d, .type "str", isStrD d, by rw [show u = _ from h2], .ty "str", ty_dat e h1, ?_, q _ _ _ (.refl e) rfl⟩
  cases d with
  | none => exact show PySem.W.kitOne K (.type "NoneType") (.type "str") = some false from kit_ty (by decide +kernel)
  | bool _ => exact show PySem.W.kitOne K (.type "bool") (.type "str") = some false from kit_ty (by decide +kernel)
  | int _ => exact show PySem.W.kitOne K (.type "int") (.type "str") = some false from kit_ty (by decide +kernel)
  | str _ => exact show PySem.W.kitOne K (.type "str") (.type "str") = some true from kit_ty (by decide +kernel)
  | list _ => exact show PySem.W.kitOne K (.type "list") (.type "str") = some false from kit_ty (by decide +kernel)
  | tuple _ => exact show PySem.W.kitOne K (.type "tuple") (.type "str") = some false from kit_ty (by decide +kernel)
  | dict _ => exact show PySem.W.kitOne K (.type "dict") (.type "str") = some false from kit_ty (by decide +kernel)
theorem rc_isTupT : RC (rIsi K) [mT Ps, mV (.ty "tuple")] (mV (.bl true)) := .mk fun {G H vs} e zz Q q => by
  obtain ⟨v, u, rfl, ⟨a, ws, rfl, ha, _⟩, h2⟩ := zip2 zz
  exact ⟨_, .ty "tuple", .type "tuple", .type "tuple", true, by rw [show u = _ from h2], .ty "tuple", .base (.tup (e.x ha)), kit_ty (by decide +kernel), q _ _ _ (.refl e) rfl⟩
/-- repr of what never changes -/
theorem ev_reprQ (h : Ev pn te Γ c (mDat d)) (hk : okK d = true) (h1 : d.showable = true) (h2 : d.depth ≤ 64) (h3 : d.shown.length ≤ 100000) : Ev pn (tCB (rReprQ K) (tCons te tNil)) Γ c (mS d.shown) := .mk fun {G H σ n} E l Q q =>
  h.run E l _ fun v G1 H1 n1 k1 p1 l1 s1 => ⟨v, d, rfl, p1.tab.2, dq_of k1.gh d v hk s1, h1, h2, small h3, q _ G1 H1 n1 k1 p1 l1 rfl⟩
end
/-! ### t == () -/
def rEmpT (K : PySem.W.Frag) : R2 := fun x y H Q => ∃ a b vs, x = .ref a ∧ y = .ref b ∧ SqT K H a vs ∧ SqT K H b [] ∧ Q (.bl vs.isEmpty) H
theorem op_empT {X : Cx} (hu : X.A.units + 64 < cLine) : OpR X (compareOp .Eq) (rEmpT X.K) := by
  intro pins s σ H x y v u Q I rx ry h
  obtain ⟨a, b, vs, rfl, rfl, ha, hb, q⟩ := h
  obtain rfl : v = Value.ref a := rx
  obtain rfl : u = Value.ref b := ry
  obtain ⟨its, rv, p1, _⟩ := I.tuple ha
  obtain ⟨its2, rv2, p2, _⟩ := I.tuple hb
  cases rv2
  refine PySem.W.eq_tuplesT (n := 0) (e := fun _ => true) (show s.heap.IsTuple a its.toArray from p1) (show s.heap.IsTuple b [].toArray from p2) (fun j h1 h2 => absurd h2 (by simp)) (by omega) ?_
  refine ⟨.bl vs.isEmpty, H, I, ?_, q⟩
  have e : ((List.range (min its.toArray.size ([] : List Value).toArray.size)).all (fun _ => true) && its.toArray.size == ([] : List Value).toArray.size) = vs.isEmpty := by
    have l := rv.length
    cases vs with
    | nil => cases its with
      | nil => rfl
      | cons _ _ => cases l
    | cons _ _ => cases its with
      | nil => cases l
      | cons _ _ => simp
  rw [e]
  rfl
section
variable {pn : Option Addr} {Γ : Gam} {c c1 c2 c3 : Nat} {K : PySem.W.Frag} {ta tb te td ty : TE} {Ps Qs : List MP} {d : PyData}
theorem rv_empT : RV (rEmpT K) (mT Ps) (mT []) (mV (.bl Ps.isEmpty)) := .mk fun {G H x y} e h1 h2 Q q => by
  obtain ⟨a, vs, rfl, ha, z1⟩ := h1
  obtain ⟨b, ws, rfl, hb, z2⟩ := h2
  have e2 : ws = [] := by cases ws with
    | nil => rfl
    | cons _ _ => exact z2.elim
  subst e2
  refine ⟨a, b, vs, rfl, rfl, SqT.of (e.x ha), SqT.of (e.x hb), q _ G H (.refl e) ?_⟩
  show _ = _
  cases vs with
  | nil => cases Ps with
    | nil => rfl
    | cons _ _ => exact z1.elim
  | cons _ _ => cases Ps with
    | nil => exact z1.elim
    | cons _ _ => rfl
/-! ### slices of tuples, many times a tuple -/
theorem cutV_all {α : Type} {xs : List α} {lo hi : Option Int} (h : HT.sIx xs.length 0 lo = 0 ∧ HT.sIx xs.length xs.length hi = xs.length) : cutA xs lo hi = xs := by
  unfold cutA
  rw [h.1, h.2]
  simp
theorem ev_slT {lo hi : Option Int} {to tu : TO} (h : Ev pn te Γ c1 (mT Ps)) (h1 : EvO pn to Γ c2 lo) (h2 : EvO pn tu Γ c3 hi) : Ev pn (tSl (rSlA K) te to tu) Γ (c1 + (c2 + c3)) (mT (cutA Ps lo hi)) := .mk fun {G H σ n} E l Q q =>
  h.run E (by omega) _ fun x G1 H1 n1 k1 p1 l1 ⟨a, vs, ex, ha, zz⟩ => h1.run (E.step k1 p1) (by omega) _ fun G2 H2 n2 k2 p2 l2 => h2.run ((E.step k1 p1).step k2 p2) (by omega) _ fun G3 H3 n3 k3 p3 l3 => by
    have here := k3.gg _ _ (k2.gg _ _ ha)
    have zl := zz.len
    refine ⟨a, vs, ex, SqT.of (k3.gh.x here), fun e => ?_, fun _ p hp => ?_⟩
    · refine q (.ref a) _ _ n3 ((k1.trans0 k2).trans0 k3) p3 (by omega) ⟨a, vs, rfl, here, ?_⟩
      rw [zl] at e
      rw [cutV_all e]
      exact zz.mono (k2.gg.trans k3.gg)
    · have k := Stp.new (o := .tup (cutV vs lo hi)) k3.gh hp
      obtain ⟨k4, p4⟩ := k.pure p3
      exact q (.ref p) _ _ n3 (((k1.trans0 k2).trans0 k3).trans0 k4) p4 (by omega) ⟨p, cutV vs lo hi, rfl, upd_same, zip_cut (zz.mono ((k2.gg.trans k3.gg).trans k.gg))⟩
end
end Ev

set_option Elab.async false
set_option linter.all false
set_option maxRecDepth 100000
set_option maxHeartbeats 4000000
/-! One's own dict: a drawn number is stored. -/
namespace Ev
open PySem PySem.Spec PyProof.Rows L2
variable [z : Tz]
theorem cr_sortedIK {X : Cx} {K : PySem.W.Frag} (hK : X.K = K) : CallR X (.builtin "sorted") (rSortedI K) := by
  subst hK
  exact cr_sortedI
section
variable {pn : Option Addr} {Γ : Gam} {c1 c2 : Nat} {tv ty : TE} {O : Outs} {xs : List Str} {f : Str → Int} {s : Str}
theorem sx_dputX {i : Nat} {Px : Int → Prop} (hi : Γ[i]? = some (.own (oD xs fun s => mI (f s)))) (hv : Ev pn tv Γ c1 (mInts Px)) (hy : Ev pn ty Γ c2 (mS s)) (hl : xs.length < 100000) (hs : s ∉ xs)
    (hn : ∀ d, Px d → O.nx (Γ.set i (.own (oD (xs ++ [s]) fun t => mI (if t = s then d else f t))))) : Sx pn (sDPut (tVar i) ty tv) Γ (c1 + c2) O := .mk fun {G H σ n} D E l q1 q2 q3 q4 =>
  hv.run E (by omega) _ fun v G1 H1 n1 k1 p1 l1 ⟨d, pd, pv⟩ => by
    obtain ⟨a, u, A⟩ := E.sl.own E.nd hi
    refine ⟨.ref a, A.val, hy.run (E.step k1 p1) (by omega) _ fun y G2 H2 n2 k2 p2 l2 sy => ?_⟩
    have E2 := (E.step k1 p1).step k2 p2
    have A2 := (A.step E hi k1 p1).step (E.step k1 p1) hi k2 p2
    obtain ⟨kvs, rfl, z⟩ := A2.pr
    obtain rfl : y = .str s := sy
    have hz : kvs.length < sizeLine := Nat.lt_of_lt_of_le (m := 100000) (by rw [z.len]; unfold fK; rw [List.length_map]; exact hl) (by decide)
    refine ⟨a, _, rfl, DPut.k (k := .inr s) A2.obj hz, ?_⟩
    have e : kput xs s = xs ++ [s] := if_neg hs
    have pr : (oD (xs ++ [s]) fun t => mI (if t = s then d else f t)).pr G2 a (.dK (putK kvs (.inr s) v)) := by
      have h := fK_put (f := fun s => mI (f s)) (P := mI d) (s := s) ((mI d).mono k2.gg pv) z
      rw [e, mI_if] at h
      exact ⟨_, rfl, h⟩
    have g := go_mut (u' := .dK (putK kvs (.inr s) v)) E2 A2 pr
    exact q1 _ _ _ _ _ (hn d pd) (((Go.of (c := c1 + c2) E (k1.trans0 k2) (by omega) E2 fun _ h => .inl h).trans g).more (Nat.le_refl _))
end
end Ev

set_option Elab.async false
set_option linter.all false
set_option maxRecDepth 100000
set_option maxHeartbeats 4000000
namespace Ev
open PySem PySem.Spec L2
variable [z : Tz]
section
variable {P : Program} {w : World} {K : PySem.W.Frag} {mg : Str → Option Value} {base : Heap}
abbrev sWide : Stmt := topS 26
theorem scWide : FnScope ["pen", "some", "found", "one"] ["pen", "some"] (defScope sWide) := ⟨rfl, rfl, rfl, by decide +kernel, rfl, by decide +kernel, by decide +kernel⟩

abbrev spWide : Sp := SpP (α := List Str) (fun p ss => [mV (.ref p), mStrs ss]) (fun ss => ss.Nodup ∧ ss.length ≤ 50) (fun ss => ss.length * 2) (fun ss => mEx (fun f : Str → Int => ∀ s ∈ ss, 1 ≤ f s ∧ f s ≤ 128) fun f => mWts ss f)
theorem ok_wide {f : Addr} {fd : FuncData} {k : Nat} (F : Fun K "_law_wide" "_law_wide" sWide f fd) (T : Bl mg) (G__law_draw : Fd P w K mg base k "_law_draw" ["pen", "many"] spDraw) : GnOk P w K mg base CX0 (k + 1) f fd ["pen", "some"] spWide := by
  refine okG F scWide (fun vs H Q E h => SpP.len h (fun _ _ => rfl)) (fun cdv A outer s H vs Q E hc hr h => ?_)
  have hu := hu_of hr
  refine ⟨_, (pss_cons (ps_set (i := 2) scWide.nd rfl (.inl rfl) pe_dnewK)
      (pss_cons (ps_for PassesOwn.never rfl (pi_list (pv 1)) (pg_name (i := 3) scWide.nd rfl (.inl rfl))
        (pss_one (ps_dput hu (pv 2) (pv 3) (pe_ix (ix_listK (K := K)) (pe_lst (pa_cons pe_int (pa_cons pe_int (pa_cons pe_int (pa_cons (pe_op op_add pe_int (pe_fd G__law_draw hc (hr.mono (by omega)) (pa_cons (pv 0) (pa_cons pe_int pa_nil)))) pa_nil))))) (pe_fd G__law_draw hc (hr.mono (by omega)) (pa_cons (pv 0) (pa_cons pe_int pa_nil))) (fun _ _ => rfl)) rfl)))
      (pss_one (ps_ret (pe_frz (pv 2)))))), fn_P h fun p ss hx => ?_⟩
  obtain ⟨nd, few⟩ := hx
  replace nd : ss.Nodup := nd
  replace few : ss.length ≤ 50 := few
  show Sx (some p) _ [.im (mV (.ref p)), .im (mStrs ss), .no, .no] (ss.length * 2) _
  refine x_own (i := 2) (c1 := 0) (M := oD [] fun s => mI ((fun _ => (0 : Int)) s)) en_dnewF ?_
  refine x_seq (c1 := ss.length * 2) (fun Γ' => ∃ (f : Str → Int) (s3 : Sl), Γ' = [.im (mV (.ref p)), .im (mStrs ss), .own (oD ss fun s => mI (f s)), s3] ∧ ∀ s ∈ ss, 1 ≤ f s ∧ f s ≤ 128)
    (Sx.more (sx_forL (xs := ss) (R := mS) (ei_list (ev_var (i := 1) rfl)) 2 (fun pre Γ' => ∃ (f : Str → Int) (s3 : Sl), Γ' = [.im (mV (.ref p)), .im (mStrs ss), .own (oD pre fun s => mI (f s)), s3] ∧ ∀ s ∈ pre, 1 ≤ f s ∧ f s ≤ 128) ⟨fun _ => 0, _, rfl, fun s m => (nomatch m)⟩ (fun pre x post Γ' hs hI => ?_) fun Γ' h => h) (by omega)) (fun Γ' hI => ?_)
  · obtain ⟨f, s3, rfl, hf⟩ := hI
    have ndp := nd
    rw [hs] at ndp
    have nx : x ∉ pre := fun m => (List.nodup_append.mp ndp).2.2 x m x (List.mem_cons_self ..) rfl
    have lp : pre.length ≤ ss.length := by rw [hs, List.length_append]; omega
    refine ⟨_, _, gx_name, ?_⟩
    show Sx (some p) _ [.im (mV (.ref p)), .im (mStrs ss), .own (oD pre fun s => mI (f s)), .im (mS x)] 2 _
    refine Sx.more (sx_dputX (i := 2) (xs := pre) (f := f) (c1 := 2) (Px := fun d => 1 ≤ d ∧ d ≤ 128) rfl (Ev.mono (c1 := 2) (ev_op (ev_lst (ea_cons ev_c (ea_cons ev_c (ea_cons ev_c (ea_cons (ev_op ev_c (ev_callP (9 : Int) (ea_cons (ev_var (i := 0) rfl) (ea_cons ev_c ea_nil)) ⟨by decide, by decide⟩) (rv_exR (T := fun d => mI (1 + d)) fun d hd => rv_I0)) ea_nil))))) (ev_callP (4 : Int) (ea_cons (ev_var (i := 0) rfl) (ea_cons ev_c ea_nil)) ⟨by decide, by decide⟩) (rv_ixLm fun d hd => by simpa using hd)) (fun G v ⟨R, mR, h⟩ => ?_) (by decide)) (ev_var (i := 3) rfl) (by omega) nx fun d hd => ⟨fun t => if t = x then d else f t, .im (mS x), rfl, fun s m => ?_⟩) (by omega)
    · simp only [List.mem_cons, List.not_mem_nil, or_false] at mR
      rcases mR with rfl | rfl | rfl | rfl
      · exact ⟨1, by decide, h⟩
      · exact ⟨2, by decide, h⟩
      · exact ⟨128, by decide, h⟩
      · obtain ⟨d, ⟨h0, h1⟩, e⟩ := h
        exact ⟨1 + d, ⟨by omega, by omega⟩, e⟩
    · rcases List.mem_append.mp m with m | m
      · show 1 ≤ (if s = x then d else f s) ∧ (if s = x then d else f s) ≤ 128
        rw [if_neg fun z => nx (by rw [← z]; exact m)]
        exact hf s m
      · rw [List.mem_singleton.mp m]
        show 1 ≤ (if x = x then d else f x) ∧ (if x = x then d else f x) ≤ 128
        rw [if_pos rfl]
        exact hd
  · obtain ⟨f, s3, rfl, hf⟩ := hI
    exact x_retF (i := 2) (f := fun s => mI (f s)) rfl fun G v h => ⟨f, hf, h⟩
end
end Ev

set_option Elab.async false
set_option linter.all false
set_option maxRecDepth 100000
set_option maxHeartbeats 4000000
namespace Ev
open PySem PySem.Spec L2
variable [z : Tz]
section
variable {P : Program} {w : World} {K : PySem.W.Frag} {mg : Str → Option Value} {base : Heap}
abbrev sTwo : Stmt := topS 27
theorem scTwo : FnScope ["pen", "some", "one", "rest", "other"] ["pen", "some"] (defScope sTwo) := ⟨rfl, rfl, rfl, by decide +kernel, rfl, by decide +kernel, by decide +kernel⟩

abbrev spTwo : Sp := SpP (α := List Str) (fun p ss => [mV (.ref p), mStrs ss]) (fun ss => ss ≠ [] ∧ ss.length ≤ 1000 ∧ ∀ s ∈ ss, ∃ t ∈ ss, t ≠ s) (fun _ => 2) (fun ss => mEx (fun q : Str × Str => q.1 ∈ ss ∧ q.2 ∈ ss ∧ q.2 ≠ q.1) mPair)
theorem ok_two {f : Addr} {fd : FuncData} {k : Nat} (F : Fun K "_law_two" "_law_two" sTwo f fd) (T : Bl mg) (G__law_draw : Fd P w K mg base k "_law_draw" ["pen", "many"] spDraw) : GnOk P w K mg base CX0 (k + 1) f fd ["pen", "some"] spTwo := by
  refine okG F scTwo (fun vs H Q E h => SpP.len h (fun _ _ => rfl)) (fun cdv A outer s H vs Q E hc hr h => ?_)
  refine ⟨_, (pss_cons (ps_set (i := 2) scTwo.nd rfl (.inr rfl) (pe_ix (ix_listK (K := K)) (pv 1) (pe_fd G__law_draw hc (hr.mono (by omega)) (pa_cons (pv 0) (pa_cons (pe_callB (call_lenK (K := K)) (by rfl) T.len (PySem.boot_len) (pa_cons (pv 1) pa_nil)) pa_nil))) (fun _ _ => rfl)))
      (pss_cons (ps_setLc (i := 3) (own := [("other", 4)]) rfl scTwo.nd rfl rfl (sw_true rfl rfl rfl (by decide +kernel)) (pi_list (pv 1)) (blkOk_by (N := ["pen", "some", "one", "rest", "other"]) (sc := defScope sTwo) (by decide +kernel)) (fun _ _ _ _ _ => (pg_name (i := 4) scTwo.nd rfl (.inl rfl))) (fun _ _ _ _ _ => (pts_one (pt_cmpR op_ne (pv 4) (pv 2) (nomark _)))) (fun _ _ _ _ _ => (pv 4)))
      (pss_one (ps_ret (pe_tup (pa_cons (pv 2) (pa_cons (pe_ix (ix_listK (K := K)) (pv 3) (pe_fd G__law_draw hc (hr.mono (by omega)) (pa_cons (pv 0) (pa_cons (pe_callB (call_lenK (K := K)) (by rfl) T.len (PySem.boot_len) (pa_cons (pv 3) pa_nil)) pa_nil))) (fun _ _ => rfl)) pa_nil))))))), fn_P h fun p ss hx => ?_⟩
  obtain ⟨h0, h1, h2⟩ := hx
  show Sx (some p) _ [.im (mV (.ref p)), .im (mStrs ss), .no, .no, .no] 2 (endO (mEx (fun q : Str × Str => q.1 ∈ ss ∧ q.2 ∈ ss ∧ q.2 ≠ q.1) mPair))
  have hl : 0 < ss.length := List.length_pos_iff.mpr h0
  refine x_one (ev_op (ev_var rfl) (ev_callP ((ss.length : Nat) : Int) (ea_cons (ev_var rfl) (ea_cons (ev_cb (ea_cons (ev_var rfl) ea_nil) rc_lenM) ea_nil)) ⟨by omega, by omega⟩) (rv_ixLx (xs := ss) (R := mS) fun d hd => hd)) fun one ho => ?_
  refine x_let (ev_of_en1 (en_lcL (xs := ss) (R := mS) (f := id) (R' := mS) (b := fun o => !decide (o = one)) (ei_list (ev_var rfl)) (by omega) fun o hm => ⟨_, _, gx_name, (by decide), et_testV (ev_op (ev_var rfl) (ev_var rfl) rv_neS), fun _ => ev_var rfl⟩)) ?_
  rw [List.map_id]
  have hne : (ss.filter fun o => !decide (o = one)) ≠ [] := by
    obtain ⟨t, ht, hn⟩ := h2 one ho
    exact List.ne_nil_of_mem (List.mem_filter.mpr ⟨ht, by simp [hn]⟩)
  have hsub : ∀ o ∈ (ss.filter fun o => !decide (o = one)), o ∈ ss ∧ o ≠ one := fun o hm => by
    obtain ⟨a, b⟩ := List.mem_filter.mp hm
    exact ⟨a, by simpa using b⟩
  have hle : (ss.filter fun o => !decide (o = one)).length ≤ ss.length := List.length_filter_le _ _
  generalize (ss.filter fun o => !decide (o = one)) = rest at hne hsub hle
  have hl2 : 0 < rest.length := List.length_pos_iff.mpr hne
  refine x_ret (ev_tupx (ev_var rfl) (ev_op (ev_var rfl) (ev_callP ((rest.length : Nat) : Int) (ea_cons (ev_var rfl) (ea_cons (ev_cb (ea_cons (ev_var rfl) ea_nil) rc_lenM) ea_nil)) ⟨by omega, by omega⟩) (rv_ixLx (xs := rest) (R := mS) fun d hd => hd))) (fun G v hv => ?_) (by simp)
  obtain ⟨o, hm, hv⟩ := hv
  exact ⟨(one, o), ⟨ho, (hsub o hm).1, (hsub o hm).2⟩, hv⟩
end
end Ev

set_option Elab.async false
set_option linter.all false
set_option maxRecDepth 100000
set_option maxHeartbeats 4000000
namespace Ev
open PySem PySem.Spec L2
variable [z : Tz]
section
variable {P : Program} {w : World} {K : PySem.W.Frag} {mg : Str → Option Value} {base : Heap}
abbrev sAm : Stmt := topS 20
theorem scAm : FnScope ["value", "widths"] ["value", "widths"] (defScope sAm) := ⟨rfl, rfl, rfl, by decide +kernel, rfl, by decide +kernel, by decide +kernel⟩

theorem ok_among {f : Addr} {fd : FuncData} {k : Nat} (F : Fun K "is_among" "is_among" sAm f fd) (T : Bo mg) : GnOk P w K mg base CX0 (k + 1) f fd ["value", "widths"] spAm := by
  refine okG F scAm (fun vs H Q E h => h.len fun _ => rfl) (fun cdv A outer s H vs Q E hc hr h => ?_)
  have hu := hu_of hr
  refine ⟨_, (pss_one (ps_ret (pe_and (pe_callB call_isi (by rfl) T.isinstance (by decide +kernel) (pa_cons (pv 0) (pa_cons (pe_bltn (v := .ty "str") (by rfl) T.str (by decide +kernel) rfl) pa_nil))) (pe_one (pe_cmp (pc_din hu (pv 0) (pv 1)) rfl))))), fn_F h fun x hx => ?_⟩
  obtain ⟨v, S, ks⟩ := x
  show Sx none _ [.im (mS v), .im S] 0 (endO (mV (.bl (decide (v ∈ ks)))))
  have h1 := ev_andB (ev_cb (ea_cons (ev_var (i := 0) (Γ := [.im (mS v), .im S]) rfl) (ea_cons ev_c ea_nil)) (rc_isiS (K := K) (s := v))) fun _ => hx (pn := none) (ev_var (i := 0) (Γ := [.im (mS v), .im S]) rfl) (ev_var (i := 1) rfl)
  rw [Bool.true_and] at h1
  exact sx_ret h1
end
end Ev

set_option Elab.async false
set_option linter.all false
set_option maxRecDepth 100000
set_option maxHeartbeats 4000000
namespace Ev
open PySem PySem.Spec L2
variable [z : Tz]
section
variable {P : Program} {w : World} {K : PySem.W.Frag} {mg : Str → Option Value} {base : Heap}
abbrev sLn : Stmt := topS 13
theorem scLn : FnScope ["items", "pairs", "found", "item", "one", "other"] ["items", "pairs"] (defScope sLn) := ⟨rfl, rfl, rfl, by decide +kernel, rfl, by decide +kernel, by decide +kernel⟩

theorem ok_links {f : Addr} {fd : FuncData} {k : Nat} (F : Fun K "links_of" "links_of" sLn f fd) : GnOk P w K mg base CX0 (k + 1) f fd ["items", "pairs"] spLn := by
  refine okG F scLn (fun vs H Q E h => h.len fun _ => rfl) (fun cdv A outer s H vs Q E hc hr h => ?_)
  have hu := hu_of hr
  exact ⟨_, (pss_cons (ps_set (i := 2) scLn.nd rfl (.inl rfl) pe_dnewK)
      (pss_cons (ps_for PassesOwn.never rfl (pi_keys (pv 0)) (pg_name (i := 3) scLn.nd rfl (.inl rfl))
        (pss_one (ps_dput hu (pv 2) (pv 3) (pe_lst pa_nil) rfl)))
      (pss_cons (ps_for PassesOwn.never rfl (pi_or (pi_keys (pv 1)) (pi_list (pv 1))) (pg_tup (by rfl) (pgs_cons (pg_name (i := 4) scLn.nd rfl (.inl rfl)) (pgs_cons (pg_name (i := 5) scLn.nd rfl (.inl rfl)) pgs_nil)))
        (pss_one (ps_expr (pe_bm PySem.F.plainAttrs_list PySem.F.slot_list_append PySem.F.type_list_append mt_append (pe_dget hu (pv 2) (pv 4) (fun _ _ => rfl)) (pa_cons (pv 5) pa_nil)))))
      (pss_one (ps_ret (pe_frz (pv 2))))))), fn_F h fun x hx => sx_links hx.1 hx.2.1 hx.2.2.1 hx.2.2.2.1 hx.2.2.2.2⟩
end
end Ev

set_option Elab.async false
set_option linter.all false
set_option maxRecDepth 100000
set_option maxHeartbeats 4000000
namespace Ev
open PySem PySem.Spec L2
variable [z : Tz]
section
variable {P : Program} {w : World} {K : PySem.W.Frag} {mg : Str → Option Value} {base : Heap}
abbrev sRk : Stmt := topS 14
theorem scRk : FnScope ["lowers", "uppers", "waiting", "found", "at", "item", "upper"] ["lowers", "uppers"] (defScope sRk) := ⟨rfl, rfl, rfl, by decide +kernel, rfl, by decide +kernel, by decide +kernel⟩

theorem ok_ranked {f : Addr} {fd : FuncData} {k : Nat} (F : Fun K "ranked" "ranked" sRk f fd) (T : Bo mg) : GnOk P w K mg base CX0 (k + 1) f fd ["lowers", "uppers"] spRk := by
  refine okG F scRk (fun vs H Q E h => h.len fun _ => rfl) (fun cdv A outer s H vs Q E hc hr h => ?_)
  have hu := hu_of hr
  exact ⟨_, (pss_cons (ps_set (i := 2) scRk.nd rfl (.inr rfl) (pe_dc (own := [("item", 5)]) rfl scRk.nd (pi_keys (pv 0)) (blkOk_by (N := ["lowers", "uppers", "waiting", "found", "at", "item", "upper"]) (sc := defScope sRk) (by decide +kernel)) (fun _ _ _ _ _ => (pg_name (i := 5) scRk.nd rfl (.inl rfl))) (fun _ _ _ _ _ => pts_nil) (fun _ _ _ _ _ => (pv 5)) (fun _ _ _ _ _ => (pe_callB (call_lenK (K := K)) (by rfl) T.len (PySem.boot_len) (pa_cons (pe_dget hu (pv 0) (pv 5) (fun _ _ => rfl)) pa_nil)))))
      (pss_cons (ps_setLc (i := 3) (own := [("item", 5)]) rfl scRk.nd rfl rfl (sw_true rfl rfl rfl (by decide +kernel)) (pi_keys (pv 0)) (blkOk_by (N := ["lowers", "uppers", "waiting", "found", "at", "item", "upper"]) (sc := defScope sRk) (by decide +kernel)) (fun _ _ _ _ _ => (pg_name (i := 5) scRk.nd rfl (.inl rfl))) (fun _ _ _ _ _ => (pts_one (pt_cmpR op_eq (pe_dget hu (pv 2) (pv 5) (fun _ _ => rfl)) pe_int (nomark _)))) (fun _ _ _ _ _ => (pv 5)))
      (pss_cons (ps_set (i := 4) scRk.nd rfl (.inl rfl) pe_int)
      (pss_cons (ps_while PassesOwn.never (pt_cmpR op_lt (pv 4) (pe_callB (call_lenK (K := K)) (by rfl) T.len (PySem.boot_len) (pa_cons (pv 3) pa_nil)) (nomark _))
        (pss_cons (ps_set (i := 5) scRk.nd rfl (.inl rfl) (pe_ix (ix_listK (K := K)) (pv 3) (pv 4) (fun _ _ => rfl)))
      (pss_cons (ps_for PassesOwn.never rfl (pi_list (pe_dget hu (pv 1) (pv 5) (fun _ _ => rfl))) (pg_name (i := 6) scRk.nd rfl (.inl rfl))
        (pss_cons (ps_dput hu (pv 2) (pv 6) (pe_op op_sub (pe_dget hu (pv 2) (pv 6) (fun _ _ => rfl)) pe_int) rfl)
      (pss_one (ps_if (pt_cmpR op_eq (pe_dget hu (pv 2) (pv 6) (fun _ _ => rfl)) pe_int (nomark _))
        (pss_one (ps_expr (pe_bm PySem.F.plainAttrs_list PySem.F.slot_list_append PySem.F.type_list_append mt_append (pv 3) (pa_cons (pv 6) pa_nil))))
        pss_nil))))
      (pss_one (ps_aug (i := 4) scRk.nd rfl (.inl rfl) pe_int ip_add)))))
      (pss_one (ps_ret (pv 3))))))), fn_F h fun x hx => sx_ranked hx⟩
end
end Ev

set_option Elab.async false
set_option linter.all false
set_option maxRecDepth 100000
set_option maxHeartbeats 4000000
namespace Ev
open PySem PySem.Spec L2
variable [z : Tz]
section
variable {P : Program} {w : World} {K : PySem.W.Frag} {mg : Str → Option Value} {base : Heap}
abbrev sRb : Stmt := topS 15
theorem scRb : FnScope ["lowers", "ranks", "known", "left", "path", "seen", "item"] ["lowers", "ranks"] (defScope sRb) := ⟨rfl, rfl, rfl, by decide +kernel, rfl, by decide +kernel, by decide +kernel⟩

theorem ok_ring {f : Addr} {fd : FuncData} {k : Nat} (F : Fun K "ring_beside" "ring_beside" sRb f fd) (T : Bo mg) : GnOk P w K mg base CX0 (k + 1) f fd ["lowers", "ranks"] spRb := by
  refine okG F scRb (fun vs H Q E h => h.len fun _ => rfl) (fun cdv A outer s H vs Q E hc hr h => ?_)
  have hu := hu_of hr
  refine ⟨_, (pss_cons (ps_set (i := 2) scRb.nd rfl (.inr rfl) (pe_dcP (b := false) (own := [("item", 6)]) hr.units rfl scRb.nd (pi_list (pv 1)) (blkOk_by (N := ["lowers", "ranks", "known", "left", "path", "seen", "item"]) (sc := defScope sRb) (by decide +kernel)) (fun _ _ _ _ _ => (pg_name (i := 6) scRb.nd rfl (.inl rfl))) (fun _ _ _ _ _ => pts_nil) (fun _ _ _ _ _ => (pv 6)) (fun _ _ _ _ _ => pe_bl)))
      (pss_cons (ps_setLc (i := 3) (own := [("item", 6)]) rfl scRb.nd rfl rfl (sw_true rfl rfl rfl (by decide +kernel)) (pi_keys (pv 0)) (blkOk_by (N := ["lowers", "ranks", "known", "left", "path", "seen", "item"]) (sc := defScope sRb) (by decide +kernel)) (fun _ _ _ _ _ => (pg_name (i := 6) scRb.nd rfl (.inl rfl))) (fun _ _ _ _ _ => (pts_one (pt_cmp (pc_dnotin hu (pv 6) (pv 2)) rfl))) (fun _ _ _ _ _ => (pv 6)))
      (pss_cons (ps_if (pt_not (pt_truth (pv 3) (by intro _; rfl)))
        (pss_one (ps_ret pe_non))
        pss_nil)
      (pss_cons (ps_set (i := 4) scRb.nd rfl (.inl rfl) (pe_lst (pa_cons (pe_ix (ix_listK (K := K)) (pv 3) pe_int (fun _ _ => rfl)) pa_nil)))
      (pss_cons (ps_set (i := 5) scRb.nd rfl (.inl rfl) pe_dnewK)
      (pss_cons (ps_while PassesOwn.never (pt_cmp (pc_dnotin hu (pe_ix (ix_listK (K := K)) (pv 4) (pe_un un_neg pe_int) (fun _ _ => rfl)) (pv 5)) rfl)
        (pss_cons (ps_dput hu (pv 5) (pe_ix (ix_listK (K := K)) (pv 4) (pe_un un_neg pe_int) (fun _ _ => rfl)) (pe_op op_sub (pe_callB (call_lenK (K := K)) (by rfl) T.len (PySem.boot_len) (pa_cons (pv 4) pa_nil)) pe_int) rfl)
      (pss_one (ps_expr (pe_bm PySem.F.plainAttrs_list PySem.F.slot_list_append PySem.F.type_list_append mt_append (pv 4) (pa_cons (pe_ix (ix_listK (K := K)) (pe_lc (own := [("item", 6)]) rfl scRb.nd (pi_list (pe_dget hu (pv 0) (pe_ix (ix_listK (K := K)) (pv 4) (pe_un un_neg pe_int) (fun _ _ => rfl)) (fun _ _ => rfl))) (blkOk_by (N := ["lowers", "ranks", "known", "left", "path", "seen", "item"]) (sc := defScope sRb) (by decide +kernel)) (fun _ _ _ _ _ => (pg_name (i := 6) scRb.nd rfl (.inl rfl))) (fun _ _ _ _ _ => (pts_one (pt_cmp (pc_dnotin hu (pv 6) (pv 2)) rfl))) (fun _ _ _ _ _ => (pv 6))) pe_int (fun _ _ => rfl)) pa_nil))))))
      (pss_one (ps_ret (pe_callTy call_tuple_of (by rfl) T.tuple (by decide +kernel) (pa_cons (pe_revTo (pv 4) (pe_dget hu (pv 5) (pe_ix (ix_listK (K := K)) (pv 4) (pe_un un_neg pe_int) (fun _ _ => rfl)) (fun _ _ => rfl))) pa_nil)))))))))), fn_F h fun x hx => sx_ring hx.1 hx.2⟩
end
end Ev

set_option Elab.async false
set_option linter.all false
set_option maxRecDepth 100000
set_option maxHeartbeats 4000000
namespace Ev
open PySem PySem.Spec L2
variable [z : Tz]
section
variable {P : Program} {w : World} {K : PySem.W.Frag} {mg : Str → Option Value} {base : Heap}
abbrev sWa : Stmt := topS 16
theorem scWa : FnScope ["widths", "links", "row", "found", "item", "after"] ["widths", "links", "row"] (defScope sWa) := ⟨rfl, rfl, rfl, by decide +kernel, rfl, by decide +kernel, by decide +kernel⟩

theorem ok_weights {f : Addr} {fd : FuncData} {k : Nat} (F : Fun K "weights_along" "weights_along" sWa f fd) (T : Bo mg) : GnOk P w K mg base CX0 (k + 1) f fd ["widths", "links", "row"] spWa := by
  refine okG F scWa (fun vs H Q E h => h.len fun _ => rfl) (fun cdv A outer s H vs Q E hc hr h => ?_)
  have hu := hu_of hr
  refine ⟨_, (pss_cons (ps_set (i := 3) scWa.nd rfl (.inr rfl) pe_dnewK)
      (pss_cons (ps_for PassesOwn.never rfl (pi_list (pv 2)) (pg_name (i := 4) scWa.nd rfl (.inl rfl))
        (pss_one (ps_dput hu (pv 3) (pv 4) (pe_op op_add (pe_dget hu (pv 0) (pv 4) (fun _ _ => rfl)) (pe_callBK (cr_maxDef rfl (hu70_of hr)) (by rfl) T.max (by decide +kernel) (pa_cons (pe_lc (own := [("after", 5)]) rfl scWa.nd (pi_list (pe_dget hu (pv 1) (pv 4) (fun _ _ => rfl))) (blkOk_by (N := ["widths", "links", "row", "found", "item", "after"]) (sc := defScope sWa) (by decide +kernel)) (fun _ _ _ _ _ => (pg_name (i := 5) scWa.nd rfl (.inl rfl))) (fun _ _ _ _ _ => pts_nil) (fun _ _ _ _ _ => (pe_dget hu (pv 3) (pv 5) (fun _ _ => rfl)))) pa_nil) (pk_cons pe_int pk_nil))) rfl)))
      (pss_one (ps_ret (pe_frz (pv 3)))))), fn_F h fun x hx => sx_weights hx.1 hx.2.1 hx.2.2.1 hx.2.2.2.1 hx.2.2.2.2⟩
end
end Ev

set_option Elab.async false
set_option linter.all false
set_option maxRecDepth 100000
set_option maxHeartbeats 4000000
namespace Ev
open PySem PySem.Spec L2
variable [z : Tz]
section
variable {P : Program} {w : World} {K : PySem.W.Frag} {mg : Str → Option Value} {base : Heap}
abbrev sO_init : Stmt := match topS 21 with | .ClassDef (body := b) .. => b.getD 0 (.Pass ⟨0, 0, 0, 0⟩) | s => s
theorem scO_init : FnScope ["self", "widths", "pairs", "pair", "item", "ranks", "row", "lower", "upper"] ["self", "widths", "pairs"] (defScope sO_init) := ⟨rfl, rfl, rfl, by decide +kernel, rfl, by decide +kernel, by decide +kernel⟩

theorem ok_init {f : Addr} {fd : FuncData} {k : Nat} {dvs : List V} (F : FunD K "__init__" "Order.__init__" (defArgs sO_init) (defBody sO_init) (defScope sO_init) dvs [] f fd) (T : Bo mg) (C : Addr) (cl : Cls K C) (na : ∀ f ∈ ordF, NoAttr K C f)
    (G_is_among : Fd P w K mg base k "is_among" ["value", "widths"] spAm) (G_links_of : Fd P w K mg base k "links_of" ["items", "pairs"] spLn) (G_ranked : Fd P w K mg base k "ranked" ["lowers", "uppers"] spRk)
    (G_ring_beside : Fd P w K mg base k "ring_beside" ["lowers", "ranks"] spRb) (G_weights_along : Fd P w K mg base k "weights_along" ["widths", "links", "row"] spWa) :
    GnOk P w K mg base CX0 (k + 1) f fd ["self", "widths", "pairs"] (spOI C) := by
  refine okGD F scO_init (fun vs H Q E h => h.len fun _ => rfl) (fun cdv A outer s H vs Q E hc hr h => ?_)
  have hu := hu_of hr
  exact ⟨_, (pss_cons (ps_for PassesOwn.never rfl (pi_or (pi_list (pv 2)) (pi_tup (pv 2))) (pg_name (i := 3) scO_init.nd rfl (.inl rfl))
        (pss_one (ps_for PassesOwn.never rfl (pi_tup (pv 3)) (pg_name (i := 4) scO_init.nd rfl (.inl rfl))
        (pss_one (ps_if (pt_not (pt_val (pe_fd G_is_among hc (hr.mono (by omega)) (pa_cons (pv 4) (pa_cons (pv 1) pa_nil)))))
        (pss_one ps_never)
        pss_nil)))))
      (pss_cons (ps_fld (pv 0) (pe_dcP (b := false) (own := [("item", 4)]) hr.units rfl scO_init.nd (pi_list (pe_callB (call_sortedD rfl) (by rfl) T.sorted (by decide +kernel) (pa_cons (pv 1) pa_nil))) (blkOk_by (N := ["self", "widths", "pairs", "pair", "item", "ranks", "row", "lower", "upper"]) (sc := defScope sO_init) (by decide +kernel)) (fun _ _ _ _ _ => (pg_name (i := 4) scO_init.nd rfl (.inl rfl))) (fun _ _ _ _ _ => pts_nil) (fun _ _ _ _ _ => (pv 4)) (fun _ _ _ _ _ => (pe_dget hu (pv 1) (pv 4) (fun _ _ => rfl)))) rfl)
      (pss_cons (ps_fld (pv 0) (pe_dcP (b := true) (own := [("pair", 3)]) hr.units rfl scO_init.nd (pi_list (pe_sortSet rfl hr.units (by rfl) T.sorted (by rfl) T.set (pv 2))) (blkOk_by (N := ["self", "widths", "pairs", "pair", "item", "ranks", "row", "lower", "upper"]) (sc := defScope sO_init) (by decide +kernel)) (fun _ _ _ _ _ => (pg_name (i := 3) scO_init.nd rfl (.inl rfl))) (fun _ _ _ _ _ => pts_nil) (fun _ _ _ _ _ => (pv 3)) (fun _ _ _ _ _ => pe_bl)) rfl)
      (pss_cons (ps_fld (pv 0) (pe_fd G_links_of hc (hr.mono (by omega)) (pa_cons (pe_fld (pv 0) rfl) (pa_cons (pe_fld (pv 0) rfl) pa_nil))) rfl)
      (pss_cons (ps_fld (pv 0) (pe_fd G_links_of hc (hr.mono (by omega)) (pa_cons (pe_fld (pv 0) rfl) (pa_cons (pe_lc (own := [("lower", 7), ("upper", 8)]) rfl scO_init.nd (pi_keys (pe_fld (pv 0) rfl)) (blkOk_by (N := ["self", "widths", "pairs", "pair", "item", "ranks", "row", "lower", "upper"]) (sc := defScope sO_init) (by decide +kernel)) (fun _ _ _ _ _ => (pg_tupK (K := K) (n := 2) rfl rfl rfl (pgs_cons (pg_name (i := 7) scO_init.nd rfl (.inl rfl)) (pgs_cons (pg_name (i := 8) scO_init.nd rfl (.inl rfl)) pgs_nil)))) (fun _ _ _ _ _ => pts_nil) (fun _ _ _ _ _ => (pe_tup (pa_cons (pv 8) (pa_cons (pv 7) pa_nil))))) pa_nil))) rfl)
      (pss_cons (ps_set (i := 5) scO_init.nd rfl (.inl rfl) (pe_fd G_ranked hc (hr.mono (by omega)) (pa_cons (pe_fld (pv 0) rfl) (pa_cons (pe_fld (pv 0) rfl) pa_nil))))
      (pss_cons (ps_fld (pv 0) (pe_fd G_ring_beside hc (hr.mono (by omega)) (pa_cons (pe_fld (pv 0) rfl) (pa_cons (pv 5) pa_nil))) rfl)
      (pss_cons (ps_set (i := 6) scO_init.nd rfl (.inl rfl) (pe_ifExp (pt_cmpR op_isN1 (pe_fld (pv 0) rfl) pe_non (nomark _)) (pv 5) (pe_lst pa_nil)))
      (pss_cons (ps_fld (pv 0) (pe_fd G_weights_along hc (hr.mono (by omega)) (pa_cons (pe_fld (pv 0) rfl) (pa_cons (pe_fld (pv 0) rfl) (pa_cons (pe_revL (pv 6)) pa_nil)))) rfl)
      (pss_one (ps_fld (pv 0) (pe_fd G_weights_along hc (hr.mono (by omega)) (pa_cons (pe_fld (pv 0) rfl) (pa_cons (pe_fld (pv 0) rfl) (pa_cons (pv 6) pa_nil)))) rfl))))))))))), fn_init h fun x a hx => sx_oinit hx cl na⟩
end
end Ev

set_option Elab.async false
set_option linter.all false
set_option maxRecDepth 100000
set_option maxHeartbeats 4000000
/-! x in o, x not in o, where o's class defines __contains__. -/
namespace Ev
open PySem PySem.Spec L2
variable [z : Tz]
section
open PySem.W PyProof.Rows
variable {prog : Program} {w : World} {A : Around} {E : Value → Shared → Prop} {s : Shared} {K : Frag} {x C f : Addr} {ox : Obj} {od : Option Obj} {v : Value}
theorem own_has {Q : Bool → Shared → Prop} (X : K.In s.heap) (I : InstAt s.heap x ox C od) (hs : findIn K (.ref C) "__contains__" = some (some (.ref f))) (hf : isFn K (.ref f) = true)
    (h : wpAny (model prog w) A (call (.ref f) [.ref x, v]) (fun r s' => ∃ b, r = .bool b ∧ Q b s') E s) : wpAny (model prog w) A (contains (.ref x) v) Q E s := by
  unfold contains
  have look := looks_findIn (M := model prog w) X hs
  refine wpAny_holding (wpAny_bind (wpAny_bind (I.type.here (look.here ?_))))
  rw [if_neg (by simp)]
  refine wpAny_bind (unlessNone_K X I hs hf (wpAny_mono h (fun r s' ⟨b, e, q⟩ => ?_) fun _ _ y => y))
  subst e
  exact wpAny_pure q
end
section
variable {X : Cx} {K : PySem.W.Frag} {k : Nat} {C f : Addr} {fd : FuncData} {ps : List Str} {sp : Sp}
/-- the promise of __contains__, asked of an object; the answer is turned round or not -/
def rHas (C : Addr) (sp : Sp) (no : Bool) : R2 := fun x y H Q => ∃ b dy gs, y = .ref b ∧ H b = some (.ins C dy gs) ∧ sp [.ref b, x] H (fun v H' => ∃ t, v = .bl t ∧ Q (.bl (t != no)) H') E0
theorem has_run {pins : List (Addr × Obj)} {σ : L2.St} {H : Hp} {s : Shared} {b dy : Addr} {gs : List (Str × V)} {x : V} {v : Value} {Q : Bool → Hp → Prop} {Z : Bool → Shared → Prop} (F : GnOk X.prog X.w X.K X.mg X.base CX0 k f fd ps sp) (hc0 : Calm X.A) (hr : Room k X.A) (hb : Binds X.K fd ps [])
    (hs : PySem.W.findIn X.K (.ref C) "__contains__" = some (some (.ref f))) (hf : PySem.W.isFn X.K (.ref f) = true) (I : Inv X pins σ H s) (rx : RelV x v) (ob : H b = some (.ins C dy gs))
    (q : sp [.ref b, x] H (fun v H' => ∃ t, v = .bl t ∧ Q t H') E0) (fin : ∀ t H' s', Inv X pins σ H' s' → Q t H' → Z t s') : wpAny (model X.prog X.w) X.A (contains (.ref b) v) Z X.xe s := by
  obtain ⟨mB, O2, _⟩ := ins_get I.hok ob
  obtain ⟨od2, J2, _⟩ := O2.look
  refine own_has I.kIn J2 hs hf (wpAny_mono (gn_run (vs := [.ref b, x]) (xs := [.ref b, v]) F hc0 hr hb .nil pass0 I (.cons rfl (.cons rx .nil)) q) (fun r s' hz => ?_) fun _ _ e => e)
  obtain ⟨zv, H', I', rz, t, rfl, qz⟩ := hz
  exact ⟨t, rz, fin t H' s' I' qz⟩
theorem op_has (F : GnOk X.prog X.w X.K X.mg X.base CX0 k f fd ps sp) (hc0 : Calm X.A) (hr : Room k X.A) (hb : Binds X.K fd ps [])
    (hs : PySem.W.findIn X.K (.ref C) "__contains__" = some (some (.ref f))) (hf : PySem.W.isFn X.K (.ref f) = true) : OpR X (compareOp .In) (rHas C sp false) := by
  intro pins s σ H x y v u Q I rx ry h
  obtain ⟨b, dy, gs, rfl, ob, q⟩ := h
  obtain rfl : u = Value.ref b := ry
  refine wpAny_bind (has_run F hc0 hr hb hs hf I rx ob q fun t H' s' I' q' => wpAny_pure ⟨.bl t, H', I', rfl, ?_⟩)
  have e : (t != false) = t := by cases t <;> rfl
  rw [e] at q'
  exact q'
theorem op_hasNo (F : GnOk X.prog X.w X.K X.mg X.base CX0 k f fd ps sp) (hc0 : Calm X.A) (hr : Room k X.A) (hb : Binds X.K fd ps [])
    (hs : PySem.W.findIn X.K (.ref C) "__contains__" = some (some (.ref f))) (hf : PySem.W.isFn X.K (.ref f) = true) : OpR X (compareOp .NotIn) (rHas C sp true) := by
  intro pins s σ H x y v u Q I rx ry h
  obtain ⟨b, dy, gs, rfl, ob, q⟩ := h
  obtain rfl : u = Value.ref b := ry
  refine wpAny_bind (has_run F hc0 hr hb hs hf I rx ob q fun t H' s' I' q' => wpAny_pure ⟨.bl (!t), H', I', rfl, ?_⟩)
  have e : (t != true) = !t := by cases t <;> rfl
  rw [e] at q'
  exact q'
end
section
variable {P : Program} {w : World} {K : PySem.W.Frag} {mg : Str → Option Value} {base : Heap} {pn : Option Addr} {Γ : Gam} {c1 c2 : Nat} {te to : TE} {S : MP}
/-- the class's own __contains__, with its promise -/
structure Fh (P : Program) (w : World) (K : PySem.W.Frag) (mg : Str → Option Value) (base : Heap) (k : Nat) (C : Addr) (ps : List Str) (sp : Sp) : Prop where
  ex : ∃ f fd, PySem.W.findIn K (.ref C) "__contains__" = some (some (.ref f)) ∧ PySem.W.isFn K (.ref f) = true ∧ Binds K fd ps [] ∧ GnOk P w K mg base CX0 k f fd ps sp
theorem op_fh {X : Cx} {k : Nat} {C : Addr} {ps : List Str} {sp : Sp} (G : Fh X.prog X.w X.K X.mg X.base k C ps sp) (hc : Calm X.A) (hr : Room k X.A) : OpR X (compareOp .In) (rHas C sp false) := by
  obtain ⟨f, fd, h1, h2, h3, h4⟩ := G.ex
  exact op_has h4 hc hr h3 h1 h2
theorem op_fhNo {X : Cx} {k : Nat} {C : Addr} {ps : List Str} {sp : Sp} (G : Fh X.prog X.w X.K X.mg X.base k C ps sp) (hc : Calm X.A) (hr : Room k X.A) : OpR X (compareOp .NotIn) (rHas C sp true) := by
  obtain ⟨f, fd, h1, h2, h3, h4⟩ := G.ex
  exact op_hasNo h4 hc hr h3 h1 h2
theorem ev_has {α : Type} {C : Addr} {ar : α → List MP} {pre : α → Prop} {res : α → Bool} {fs : List (Str × MP)} {no : Bool} (x : α) (h1 : Ev pn te Γ c1 S) (h2 : Ev pn to Γ c2 (mOb C fs)) (har : ar x = [mOb C fs, S]) (hp : pre x) :
    Ev pn (tOp (rHas C (SpF ar pre fun x => mV (.bl (res x))) no) te to) Γ (c1 + c2) (mV (.bl (res x != no))) := .mk fun {G H σ n} E l Q q =>
  h1.run E (by omega) _ fun v G1 H1 n1 k1 p1 l1 s1 => h2.run (E.step k1 p1) (by omega) _ fun u G2 H2 n2 k2 p2 l2 ⟨b, dy, gs, eu, hb, zz⟩ => by
    subst eu
    refine ⟨b, dy, gs, rfl, k2.gh.x hb, x, G2, hp, ⟨k2.gh, p2.tab⟩, ?_, fun v' G' H' k s => ?_⟩
    · rw [har]
      exact ⟨⟨b, dy, gs, rfl, hb, zz⟩, S.mono k2.gg s1, trivial⟩
    · obtain ⟨k4, p4⟩ := k.pure p2
      exact ⟨_, s, q _ G' H' n2 ((k1.trans0 k2).trans0 k4) p4 (by omega) rfl⟩
end
end Ev

set_option Elab.async false
set_option linter.all false
set_option maxRecDepth 100000
set_option maxHeartbeats 4000000
/-! all, sum; tuple of a dict's keys; an order's members, widths, its pairs asked with any data. -/
namespace Ev
open PySem PySem.Spec PyProof.Rows L2
variable [z : Tz]
section
variable {X : Cx} {K : PySem.W.Frag}
theorem rc_sum {ns : List Int} : RC (rSum K) [mRow ns] (mI ns.sum) := .mk fun {G H vs} e zz Q q => by
  obtain ⟨v, rfl, a, ws, rfl, ha, zx⟩ := zip1 zz
  rw [zip_ints zx] at ha
  exact ⟨a, ns, rfl, SqL.of (e.x ha), q _ _ _ (.refl e) rfl⟩
theorem zip_bools {G : Hp} : ∀ {bs : List Bool} {vs : List V}, Zip G (bs.map fun b => mV (.bl b)) vs → vs = bs.map V.bl
  | [], [], _ => rfl
  | b :: bs, v :: vs, h => by rw [show v = _ from h.1, zip_bools h.2]; rfl
  | [], _ :: _, h => h.elim
  | _ :: _, [], h => h.elim
theorem rc_all {bs : List Bool} : RC (rAll K) [mL (bs.map fun b => mV (.bl b))] (mV (.bl (bs.all id))) := .mk fun {G H vs} e zz Q q => by
  obtain ⟨v, rfl, a, ws, rfl, ha, zx⟩ := zip1 zz
  rw [zip_bools zx] at ha
  exact ⟨a, bs, rfl, SqL.of (e.x ha), q _ _ _ (.refl e) rfl⟩
/-- tuple(d), the keys texts and whole numbers -/
def rTupDK : List V → Hp → VK → Prop := fun xs H Q => ∃ d kvs, xs = [V.ref d] ∧ Rd H d (.dK kvs) ∧ ∀ p, H p = none → Q (.ref p) (upd H p (.tup (kvs.map fun kv => kV kv.1)))
theorem call_tuple_dK (hc : X.calm = true) : CallR X (.type "tuple") rTupDK := by
  intro pins s σ H xs us Q I r h
  obtain ⟨d, kvs, rfl, hd, q⟩ := h
  obtain ⟨u, rfl, rx⟩ := r.one
  cases rx
  obtain ⟨zl, hs, vs, kv, o, es, ep, ho, hx, hdt, _, pr, _⟩ := dk_rd I.hok hd
  have l1 : es.size = vs.length := by rw [← Array.length_toList]; exact pr.length
  have l2 : kvs.length = vs.length := Paired.length kv
  refine call_tuple_src (kdl_raw hs hx hdt) (I.ok.hd hc) ho (by omega) fun h' tk acc kp it => ?_
  have rel : ∀ {kvs : List (Key × V)} {vs : List (Key × Value)} {es : List DictEntry}, KV kvs vs → Pairs (mixKind X.prog X.w) es vs → Vals (kvs.map fun kv => kV kv.1) (es.map (·.key)) := by
    intro kvs vs es k
    induction k generalizing es with
    | nil => intro p; cases p; exact .nil
    | @cons q x qs xs hq t ih =>
      intro p
      cases p with
      | cons p1 p2 p3 =>
        refine .cons ?_ (ih p3)
        have e : q.1 = x.1 := hq.1
        have k1 : keyIs x.1 _ = true := p1
        have go : ∀ w, keyIs x.1 w = true → RelV (kV q.1) w := fun w k1 => by
          rw [e]
          rcases keyIs_shape k1 with ⟨i, t, e1, e2⟩ | ⟨y, t, e1, e2⟩
          · rw [e1, e2]; exact ⟨t, rfl⟩
          · rw [e1, e2]; exact ⟨t, rfl⟩
        exact go _ k1
  have same : acc.toList = es.toList.map (·.key) := by
    have hl : acc.toList.length = es.size := by rw [Array.length_toList, it.1]
    refine List.ext_getElem? fun j => ?_
    rw [List.getElem?_map]
    cases hj : acc.toList[j]? with
    | none =>
      have h1 := List.getElem?_eq_none_iff.mp hj
      rw [List.getElem?_eq_none (by rw [Array.length_toList]; omega)]
      rfl
    | some v =>
      obtain ⟨en, hen, hv⟩ := it.2 j v (by rw [← Array.getElem?_toList]; exact hj)
      rw [Array.getElem?_toList, hen, hv]
      rfl
  have I2 : Inv X pins σ H { s with heap := h', toks := tk } := I.kept kp
  refine ⟨.ref h'.objs.size, _, I2.laid (t' := tk) (o := .tup (kvs.map fun kv => kV kv.1)) (fun b u e => Heap.get?_push_of_some _ e) (Nat.le_refl _) ⟨by rw [List.length_map]; omega, acc.toList, by rw [same]; exact rel kv pr, ?_⟩, rfl, q _ (I2.hok.fresh (Nat.le_refl _))⟩
  refine ⟨_, Heap.get?_push_size _ rfl, rfl, 0, ?_⟩
  simp
theorem fK_keys {G : Hp} {f : Str → MP} : ∀ {xs : List Str} {kvs : List (Key × V)}, ZipK G (fK xs f) kvs → kvs.map (fun kv => kV kv.1) = xs.map V.str
  | [], [], _ => rfl
  | x :: xs, q :: kvs, h => by
    rw [List.map_cons, List.map_cons, fK_keys (xs := xs) (kvs := kvs) h.2, show q.1 = Sum.inr x from h.1.1]
    rfl
  | [], _ :: _, h => h.elim
  | _ :: _, [], h => h.elim
theorem zip_mS (G : Hp) : ∀ ys : List Str, Zip G (ys.map mS) (ys.map V.str)
  | [] => trivial
  | y :: ys => ⟨rfl, zip_mS G ys⟩
theorem rc_tupDK {xs : List Str} {f : Str → MP} : RC rTupDK [mD xs f] (mT (xs.map mS)) := .mk fun {G H vs} e zz Q q => by
  obtain ⟨v, rfl, a, od, kvs, rfl, ha, zk⟩ := zip1 zz
  refine ⟨a, kvs, rfl, .inr ⟨od, e.x ha⟩, fun p hp => ?_⟩
  have kN := Stp.new (o := .tup (kvs.map fun kv => kV kv.1)) e hp
  refine q (.ref p) _ _ kN ⟨p, _, rfl, upd_same, ?_⟩
  rw [fK_keys zk]
  exact zip_mS _ _
end
/-- an if that leaves, and what comes behind it -/
theorem x_guard {pn : Option Addr} {Γ : Gam} {c c1 c2 c3 : Nat} {tt : TT} {t u : TS} {O : Outs} {P : Bool → Prop} (ht : EvT pn tt Γ c1 P) (h1 : P true → Sx pn t Γ c2 { O with nx := fun _ => False }) (h2 : P false → Sx pn u Γ c3 O) (hc : c1 + c2 + c3 ≤ c := by first | decide | omega | simp) :
    Sx pn (tSeq (tIfS tt t tNext) u) Γ c O :=
  (sx_seq (fun Γ' => Γ' = Γ ∧ P false) (c1 := c1 + c2) (c2 := c3) (sx_if (c2 := c2) ht (fun h => (h1 h).mono (fun _ q => q.elim) (fun _ _ q => q) (fun _ q => q) (fun _ q => q) (Nat.le_refl _)) (fun h => (sx_next (O := { O with nx := fun Γ' => Γ' = Γ ∧ P false }) ⟨rfl, h⟩).more (Nat.zero_le _))) (fun Γ' e => by rw [e.1]; exact h2 e.2)).more hc
/-! ### pairs asked -/
theorem valV_key {ps : List (Str × Str)} {p : Str × Str} : ∀ {kvs : List (List Key × V)}, kvs.map (·.1) = ps.map pk → (valV kvs (pk p)).isSome = decide (p ∈ ps) := by
  intro kvs h
  rw [← valV_any]
  rw [Bool.eq_iff_iff, List.any_eq_true, decide_eq_true_iff]
  constructor
  · rintro ⟨q, m, e⟩
    have : q.1 ∈ ps.map pk := by rw [← h]; exact List.mem_map_of_mem m
    obtain ⟨p', m', e'⟩ := List.mem_map.mp this
    rw [of_decide_eq_true e] at e'
    rw [← pk_inj e']
    exact m'
  · intro m
    have : pk p ∈ kvs.map (·.1) := by rw [h]; exact List.mem_map_of_mem m
    obtain ⟨q, mq, e⟩ := List.mem_map.mp this
    exact ⟨q, mq, decide_eq_true e⟩
section
variable {pn : Option Addr} {Γ : Gam} {c c1 c2 : Nat} {ta td ty te : TE} {K : PySem.W.Frag}
theorem ev_inDT {ps : List (Str × Str)} {p : Str × Str} (hy : Ev pn ty Γ c1 (mPair p)) (hd : Ev pn td Γ c2 (mDT ps)) : Ev pn (tDIn ty td) Γ (c1 + c2) (mV (.bl (decide (p ∈ ps)))) := .mk fun E l Q q =>
  hy.run E (by omega) _ fun y G1 H1 n1 k1 p1 l1 sy => hd.run (E.step k1 p1) (by omega) _ fun x G2 H2 n2 k2 p2 l2 sx => by
    obtain ⟨a, od, kvs, rfl, ha, zk⟩ := sx
    obtain ⟨b, ws, rfl, hb, zb⟩ := sy
    have ews : ws = (pk p).map kV := by
      obtain ⟨v1, v2, rfl, h1, h2⟩ := zip2 zb
      rw [show v1 = _ from h1, show v2 = _ from h2]
      rfl
    subst ews
    refine ⟨a, _, rfl, .inr ⟨kvs, pk p, b, .inr ⟨od, k2.gh.x ha⟩, rfl, k2.gh.x (k2.gg _ _ hb), rfl⟩, q _ _ _ n2 (k1.trans0 k2) p2 (by omega) ?_⟩
    show _ = _
    rw [valV_key zk]
end
/-- whether two data are a pair of these -/
def inP (ps : List (Str × Str)) : PyData → PyData → Bool
  | .str x, .str y => decide ((x, y) ∈ ps)
  | _, _ => false
theorem inP_str {ps : List (Str × Str)} {x y : Str} : inP ps (.str x) (.str y) = decide ((x, y) ∈ ps) := rfl
theorem inP_no {ps : List (Str × Str)} {a b : PyData} (h : (isStrD a && isStrD b) = false) : inP ps a b = false := by
  cases a <;> first | rfl | (cases b <;> first | rfl | cases h)
theorem isStrD_of {d : PyData} (h : isStrD d = true) : ∃ s, d = .str s := by
  cases d <;> first | exact ⟨_, rfl⟩ | cases h
noncomputable abbrev spMb (C : Addr) : Sp := SpF (α := Ord) (fun x => [mOrd C x]) (fun _ => True) (fun x => mT (x.xs.map mS))
noncomputable abbrev spWd (C : Addr) : Sp := SpF (α := Ord) (fun x => [mOrd C x]) (fun x => x.xs.Nodup ∧ x.xs.length < 64) (fun x => mWts x.xs x.wd)
structure ArgCt where
  o : Ord
  a : PyData
  b : PyData
noncomputable abbrev spCt (C : Addr) : Sp := SpF (α := ArgCt) (fun x => [mOrd C x.o, mT [mDat x.a, mDat x.b]]) (fun _ => True) (fun x => mV (.bl (inP x.o.ps x.a x.b)))
section
variable {K : PySem.W.Frag} {C : Addr} {o : Ord} {a b : PyData}
theorem sx_mb (cl : Cls K C) (na : ∀ f ∈ ordF, NoAttr K C f) : Sx none (tRet (tCB rTupDK (tCons (tFld K (tVar 0) "_widths") tNil))) [.im (mOrd C o)] 0 (endO (mT (o.xs.map mS))) :=
  x_ret (c1 := 0) (ev_cb (ea_cons (ev_ws (ev_var rfl) cl na) ea_nil) rc_tupDK)
theorem sx_wd (cl : Cls K C) (na : ∀ f ∈ ordF, NoAttr K C f) (nd : o.xs.Nodup) (few : o.xs.length < 64) : Sx none (tRet (tDcP false (iKeys (tFld K (tVar 0) "_widths")) (gName 1) tYes (tVar 1) (tDGet (tFld K (tVar 0) "_widths") (tVar 1)) [1])) [.im (mOrd C o), .no] 0 (endO (mWts o.xs o.wd)) := by
  refine x_ret (c1 := 0) (Ev.mono (ev_dcF (kf := fun s => s) (f := fun s => mI (o.wd s)) (R := mS) (ck := 0) (cv := 0) (ys := o.xs) (ei_keysF (ev_ws (ev_var (i := 0) rfl) cl na)) (by omega) (by rw [List.map_id']; exact nd) fun s ms => ⟨_, _, gx_name, by decide, ev_var (i := 1) rfl, ev_dgetF (f := fun s => mI (o.wd s)) (ev_ws (ev_var (i := 0) rfl) cl na) (ev_var (i := 1) rfl) ms⟩) (fun G v h => ?_) (by simp))
  rw [List.map_id'] at h
  exact h
theorem sx_ct (cl : Cls K C) (na : ∀ f ∈ ordF, NoAttr K C f) :
    Sx none (tSeq (tIfS (tOr (tNot (tB (tCB (rIsi K) (tCons (tVar 1) (tCons (tC (.ty "tuple")) tNil))))) (tNot (tB (tCB (rAll K) (tCons (tLc (iTup K (tVar 1)) (gName 2) tYes (tCB (rIsi K) (tCons (tVar 2) (tCons (tC (.ty "str")) tNil))) [2]) tNil))))) (tRet (tC (.bl false))) tNext) (tRet (tDIn (tVar 1) (tFld K (tVar 0) "_pairs"))))
      [.im (mOrd C o), .im (mT [mDat a, mDat b]), .no] 0 (endO (mV (.bl (inP o.ps a b)))) := by
  have hall : Ev none (tCB (rAll K) (tCons (tLc (iTup K (tVar 1)) (gName 2) tYes (tCB (rIsi K) (tCons (tVar 2) (tCons (tC (.ty "str")) tNil))) [2]) tNil)) [.im (mOrd C o), .im (mT [mDat a, mDat b]), .no] 0 (mV (.bl (isStrD a && (isStrD b && true)))) :=
    Ev.mono (ev_cb (ea_cons (ev_of_en1 (en_lcM (xs := [a, b]) (R := mDat) (f := isStrD) (R' := fun b => mV (.bl b)) (ce := 0) (ei_tup (ev_var (i := 1) rfl)) (by simp) fun d _ => ⟨_, _, gx_name, by decide, ev_cb (ea_cons (ev_var (i := 2) rfl) (ea_cons ev_c ea_nil)) rc_isStr⟩)) ea_nil) (rc_all (bs := [isStrD a, isStrD b]))) (fun G v h => h) (by simp)
  refine x_guard (c2 := 0) (c3 := 0) (et_or (et_not (et_BV (ev_cb (ea_cons (ev_var (i := 1) rfl) (ea_cons ev_c ea_nil)) rc_isTupT))) fun _ => et_not (et_BV hall)) (fun hT => ?_) (fun hF => ?_)
  · have hn : (isStrD a && isStrD b) = false := by
      rcases hT with ⟨_, h⟩ | ⟨h, _⟩
      · rcases h with h | ⟨_, h⟩
        · cases h
        · have : (isStrD a && (isStrD b && true)) = false := h.symm
          simpa using this
      · cases h
    rw [inP_no hn]
    exact x_ret (c1 := 0) ev_c
  · have hy : isStrD a = true ∧ isStrD b = true := by
      rcases hF with ⟨h, _⟩ | ⟨_, _, h⟩
      · cases h
      · have : (isStrD a && (isStrD b && true)) = true := by rw [← h]; rfl
        simpa using this
    obtain ⟨x, rfl⟩ := isStrD_of hy.1
    obtain ⟨y, rfl⟩ := isStrD_of hy.2
    rw [inP_str]
    have hp : (mT [mDat (.str x), mDat (.str y)]) = mPair (x, y) := rfl
    exact x_ret (c1 := 0) (ev_inDT (p := (x, y)) (ev_var (i := 1) (S := mPair (x, y)) (by rw [← hp]; rfl)) (ev_psF (ev_var (i := 0) rfl) cl na))
end
end Ev

set_option Elab.async false
set_option linter.all false
set_option maxRecDepth 100000
set_option maxHeartbeats 4000000
/-! More rules that name the written part. -/
namespace Ev
open PySem PySem.Spec L2
variable [z : Tz]
section
variable {X : Cx} {K : PySem.W.Frag} {e : Expr} {te : TE} {f : Str} {pos : Pos}
theorem call_isiX (h : X.K = K := by rfl) : CallR X (.builtin "isinstance") (rIsi K) := h ▸ call_isi
theorem pe_fldK (he : PE X e te) (hb : attributeBase e f X.env (eval e X.env) = eval e X.env) (h : X.K = K := by rfl) : PE X (.Attribute e f pos) (tFld K te f) := h ▸ pe_fld he hb
end
end Ev

set_option Elab.async false
set_option linter.all false
set_option maxRecDepth 100000
set_option maxHeartbeats 4000000
namespace Ev
open PySem PySem.Spec L2
variable [z : Tz]
section
variable {P : Program} {w : World} {K : PySem.W.Frag} {mg : Str → Option Value} {base : Heap}
abbrev sO_mb : Stmt := match topS 21 with | .ClassDef (body := b) .. => b.getD 2 (.Pass ⟨0, 0, 0, 0⟩) | s => s
theorem scO_mb : FnScope ["self"] ["self"] (defScope sO_mb) := ⟨rfl, rfl, rfl, by decide +kernel, rfl, by decide +kernel, by decide +kernel⟩

theorem okO_mb {f : Addr} {fd : FuncData} {k : Nat} (F : Fun K "members" "Order.members" sO_mb f fd) (T : Bo mg) (C : Addr) (cl : Cls K C) (na : ∀ f ∈ ordF, NoAttr K C f)
     : GnOk P w K mg base CX0 (k + 1) f fd ["self"] (spMb C) := by
  refine okG F scO_mb (fun vs H Q E h => h.len fun _ => rfl) (fun cdv A outer s H vs Q E hc hr h => ?_)
  have hu := hu_of hr
  refine ⟨_, (pss_one (ps_ret (pe_callTy (call_tuple_dK rfl) (by rfl) T.tuple (by decide +kernel) (pa_cons (pe_fld (pv 0) rfl) pa_nil)))), fn_F h fun x hx => ?_⟩
  exact sx_mb cl na
abbrev sO_wd : Stmt := match topS 21 with | .ClassDef (body := b) .. => b.getD 1 (.Pass ⟨0, 0, 0, 0⟩) | s => s
theorem scO_wd : FnScope ["self", "item"] ["self"] (defScope sO_wd) := ⟨rfl, rfl, rfl, by decide +kernel, rfl, by decide +kernel, by decide +kernel⟩

theorem okO_wd {f : Addr} {fd : FuncData} {k : Nat} (F : Fun K "widths" "Order.widths" sO_wd f fd) (T : Bo mg) (C : Addr) (cl : Cls K C) (na : ∀ f ∈ ordF, NoAttr K C f)
     : GnOk P w K mg base CX0 (k + 1) f fd ["self"] (spWd C) := by
  refine okG F scO_wd (fun vs H Q E h => h.len fun _ => rfl) (fun cdv A outer s H vs Q E hc hr h => ?_)
  have hu := hu_of hr
  refine ⟨_, (pss_one (ps_ret (pe_dcP (b := false) (own := [("item", 1)]) hr.units rfl scO_wd.nd (pi_keys (pe_fld (pv 0) rfl)) (blkOk_by (N := ["self", "item"]) (sc := defScope sO_wd) (by decide +kernel)) (fun _ _ _ _ _ => (pg_name (i := 1) scO_wd.nd rfl (.inl rfl))) (fun _ _ _ _ _ => pts_nil) (fun _ _ _ _ _ => (pv 1)) (fun _ _ _ _ _ => (pe_dget hu (pe_fldK (K := K) (pv 0) rfl) (pv 1) (fun _ _ => rfl)))))), fn_F h fun x hx => ?_⟩
  exact sx_wd cl na hx.1 hx.2
abbrev sO_ct : Stmt := match topS 21 with | .ClassDef (body := b) .. => b.getD 21 (.Pass ⟨0, 0, 0, 0⟩) | s => s
theorem scO_ct : FnScope ["self", "pair", "item"] ["self", "pair"] (defScope sO_ct) := ⟨rfl, rfl, rfl, by decide +kernel, rfl, by decide +kernel, by decide +kernel⟩

theorem okO_ct {f : Addr} {fd : FuncData} {k : Nat} (F : Fun K "__contains__" "Order.__contains__" sO_ct f fd) (T : Bo mg) (C : Addr) (cl : Cls K C) (na : ∀ f ∈ ordF, NoAttr K C f)
    (Ta : mg "all" = none) : GnOk P w K mg base CX0 (k + 1) f fd ["self", "pair"] (spCt C) := by
  refine okG F scO_ct (fun vs H Q E h => h.len fun _ => rfl) (fun cdv A outer s H vs Q E hc hr h => ?_)
  have hu := hu_of hr
  refine ⟨_, (pss_cons (ps_if (PW.pt (pw_or (pt_not (pt_val (pe_callB (call_isiX (K := K)) (by rfl) T.isinstance (by decide +kernel) (pa_cons (pv 1) (pa_cons (pe_bltn (v := .ty "tuple") (by rfl) T.tuple (by decide +kernel) rfl) pa_nil))))) (pw_or1 (pt_not (pt_val (pe_callB (cr_all rfl) (by rfl) Ta (by decide +kernel) (pa_cons (pe_lc (own := [("item", 2)]) rfl scO_ct.nd (pi_tup (pv 1)) (blkOk_by (N := ["self", "pair", "item"]) (sc := defScope sO_ct) (by decide +kernel)) (fun _ _ _ _ _ => (pg_name (i := 2) scO_ct.nd rfl (.inl rfl))) (fun _ _ _ _ _ => pts_nil) (fun _ _ _ _ _ => (pe_callB (call_isiX (K := K)) (by rfl) T.isinstance (by decide +kernel) (pa_cons (pv 2) (pa_cons (pe_bltn (v := .ty "str") (by rfl) T.str (by decide +kernel) rfl) pa_nil))))) pa_nil)))))))
        (pss_one (ps_ret pe_bl))
        pss_nil)
      (pss_one (ps_ret (pe_cmp (pc_din hu (pv 1) (pe_fld (pv 0) rfl)) rfl)))), fn_F h fun x hx => ?_⟩
  exact sx_ct cl na
end
end Ev

set_option Elab.async false
set_option linter.all false
set_option maxRecDepth 100000
set_option maxHeartbeats 4000000
/-! len(set(t)), t a tuple of texts. -/
namespace Ev
open PySem PySem.Spec PyProof.Rows L2
variable [z : Tz]
/-- how many unlike ones there are -/
def cntR : List Str → Nat
  | [] => 0
  | x :: r => if x ∈ r then cntR r else cntR r + 1
def cntD (xs : List Str) : Nat := cntR xs.reverse
theorem cntR_le : ∀ xs : List Str, cntR xs ≤ xs.length
  | [] => Nat.le_refl _
  | x :: r => by
    have := cntR_le r
    unfold cntR
    rw [List.length_cons]
    split <;> omega
theorem cntR_nd : ∀ xs : List Str, cntR xs = xs.length ↔ xs.Nodup
  | [] => ⟨fun _ => List.nodup_nil, fun _ => rfl⟩
  | x :: r => by
    have ih := cntR_nd r
    have le := cntR_le r
    unfold cntR
    rw [List.length_cons, List.nodup_cons]
    by_cases m : x ∈ r
    · rw [if_pos m]
      exact ⟨fun h => by omega, fun h => absurd m h.1⟩
    · rw [if_neg m]
      exact ⟨fun h => ⟨m, ih.mp (by omega)⟩, fun h => by rw [ih.mpr h.2]⟩
theorem cntD_nd (xs : List Str) : cntD xs = xs.length ↔ xs.Nodup := by
  unfold cntD
  rw [← List.length_reverse, cntR_nd]
  exact (List.reverse_perm xs).nodup_iff
theorem cntR_cons (x : Str) (r : List Str) : cntR (x :: r) = if x ∈ r then cntR r else cntR r + 1 := rfl
theorem cntD_snoc (xs : List Str) (x : Str) : cntD (xs ++ [x]) = if x ∈ xs then cntD xs else cntD xs + 1 := by
  unfold cntD
  rw [List.reverse_append, show [x].reverse ++ xs.reverse = x :: xs.reverse from rfl, cntR_cons]
  by_cases m : x ∈ xs
  · rw [if_pos m, if_pos (List.mem_reverse.mpr m)]
  · rw [if_neg m, if_neg fun y => m (List.mem_reverse.mp y)]
theorem cntD_le (xs : List Str) : cntD xs ≤ xs.length := by
  have := cntR_le xs.reverse
  rw [List.length_reverse] at this
  exact this
theorem strs_nth : ∀ {vs : List Value} {xs : List Str}, StrsAre vs xs → ∀ (i : Nat) (v : Value), vs[i]? = some v → ∃ x t, xs[i]? = some x ∧ v = .str x t
  | _, _, .nil, i, v, h => by simp at h
  | _, _, .cons x t r, 0, v, h => by
    cases h
    exact ⟨x, t, rfl, rfl⟩
  | _, _, .cons x t r, i + 1, v, h => strs_nth r i v (by simpa using h)
section
variable {P : Program} {w : World} {A : Around} {E : Value → Shared → Prop} {s : Shared}
theorem sset_loop {I : Addr} {fp wr : List Addr} {G : Array GenState → Array GenState → Prop} {n : Nat} {Pv : Nat → Value → Prop} {St : Nat → Shared → Prop} {R : Result → Shared → Prop} (W : WalksS P w A.in1 I fp wr G n Pv St) (S : Addr) (hS : S ∉ fp) (xs : List Str) (hn : xs.length = n) (few : xs.length < 4000)
    (hv : ∀ i v, Pv i v → ∃ x t, xs[i]? = some x ∧ v = .str x t) : ∀ (k i : Nat) (s : Shared), n - i = k → i ≤ n → St i s → s.heap.SetOf (strKind P w) S (fun k' => decide (k' ∈ xs.take i)) (cntD (xs.take i)) →
    (∀ s', Moved (S :: wr) G s s' → s'.heap.SetOf (strKind P w) S (fun k' => decide (k' ∈ xs.take n)) (cntD (xs.take n)) → R (.ok (.ret .none)) s') → codeAny (model P w) A (.builtin "set.update.loop" ⟨[.ref S, .ref I], []⟩) R s := by
  have nw : S ∉ wr := fun h => hS (W.sub _ h)
  have sub : ∀ b ∈ wr, b ∈ S :: wr := fun b hb => List.mem_cons_of_mem _ hb
  have stay : ∀ {s s' : Shared} {f : Str → Bool} {m : Nat}, Moved wr G s s' → s.heap.SetOf (strKind P w) S f m → s'.heap.SetOf (strKind P w) S f m := fun hm h => by
    obtain ⟨o, es, ep, t, ho, r⟩ := h
    exact ⟨o, es, ep, t, hm.heap S _ nw ho, r⟩
  intro k
  induction k with
  | zero =>
    intro i s hk hi st T hR
    obtain rfl : i = n := by omega
    refine codeAny_builtin PyProof.Rows.F.entry_set_update_loop ?_
    rw [Around.under_plainId PyProof.Rows.F.plain_set_update_loop _]
    show wpAny _ A.in1 (pyNext (.ref I) >>= _) _ _ s
    exact wpAny_bind (W.done s _ _ st fun s' hm => wpAny_pure (hR s' (hm.mono sub) (stay hm T)))
  | succ k ih =>
    intro i s hk hi st T hR
    have lt : i < n := by omega
    refine codeAny_builtin PyProof.Rows.F.entry_set_update_loop ?_
    rw [Around.under_plainId PyProof.Rows.F.plain_set_update_loop _]
    show wpAny _ A.in1 (pyNext (.ref I) >>= _) _ _ s
    refine wpAny_bind (W.item i s _ _ lt st fun v s' hP st' hm => ?_)
    obtain ⟨x, t, hx, rfl⟩ := hv i v hP
    show wpAny _ A.in1 (holding [Value.str x t] (setAdd S (.str x t)) >>= _) _ _ s'
    refine wpAny_bind (wpAny_holding ?_)
    unfold setAdd
    have cl := cntD_le (xs.take i)
    have tl := List.length_take_le i xs
    refine wpAny_holding (wpAny_bind ((strKind P w).pyHash (k := x) (strKind_is _ _ _ _) ?_))
    refine wpAny_setAddHashed_of (knd := strKind P w) (s := { s' with toks := s'.toks + 1 }) (strKind_is _ _ _ _) rfl (stay (s' := s') hm T) (by unfold scanBound; have : (xs.take i).length = min i xs.length := List.length_take ..; omega) fun h' sb T2 => ?_
    have e : xs.take (i + 1) = xs.take i ++ [x] := by rw [List.take_add_one, hx]; rfl
    have T3 : h'.SetOf (strKind P w) S (fun k' => decide (k' ∈ xs.take (i + 1))) (cntD (xs.take (i + 1))) := by
      refine SetOf_congr T2 (fun k' => ?_) ?_
      · rw [e]
        simp [List.mem_append, Bool.decide_or]
      · rw [e, cntD_snoc]
        by_cases m : x ∈ xs.take i
        · rw [if_pos m, if_pos (decide_eq_true m)]
        · rw [if_neg m, if_neg (by simpa using m)]
    refine wpAny_pure ⟨plainId_quiet PyProof.Rows.F.plain_set_update_loop _, ih (i + 1) _ (by omega) lt (W.frame _ s' _ _ st' (Nat.le_succ _) fun b hb o q => ?_) T3 fun s2 m2 T4 => ?_⟩
    · rw [sb.2 b fun y => hS (by rw [← y]; exact hb)]
      exact q
    · refine hR s2 (Moved.trans W.gtrans ((hm.mono sub).then_heap (Nat.le_succ _) fun b o hb q => ?_) m2) T4
      rw [sb.2 b fun y => hb (by rw [y]; exact List.mem_cons_self)]
      exact q
theorem call_set_texts {l : Addr} {items : Array Value} (ks : List Str) {Q : Value → Shared → Prop} (hh : A.handled = none) (hl : s.heap.IsTuple l items) (hit : StrsAre items.toList ks)
    (few : ks.length < 4000) (q : ∀ (h' : Heap) (tk : Nat), h'.SetOf (strKind P w) s.heap.objs.size (fun k => decide (k ∈ ks)) (cntD ks) → (∀ b o, s.heap.get? b = some o → h'.get? b = some o) → Q (.ref s.heap.objs.size) { s with heap := h', toks := tk }) :
    wpAny (model P w) A (call (.type "set") [.ref l]) Q E s := by
  have sz : items.size = ks.length := by rw [← Array.length_toList]; exact StrsAre.len_eq hit
  obtain ⟨c, tl, hmro⟩ := F.called_set.mro
  have hmade := F.called_set.made
  have hsub := F.called_set.sub
  refine wpAny_call (codeAny_of_tree ?_)
  show wpAny _ _ (callAny (.type "set") _) _ _ _
  refine wpAny_pure ⟨Code.quiet_builtin _ (by decide +kernel), codeAny_builtin F.entry_type_call ?_⟩
  rw [Around.under_plain (weight_type_call_type "set" [.ref l] []) rfl]
  have h1 := F.called_set.notType
  have h2 := F.called_set.canCreate
  have hct := F.typeCall_set_1 (.ref l)
  repeat (any_goals (first | assumption | wp_step))
  refine codeAny_mono (code_set_led1 (.ref l) (E := E) (Q₁ := fun obj s₁ => obj = .ref s.heap.objs.size ∧ s₁ = { s with heap := s.heap.push (newSetObj w) }) ⟨rfl, rfl⟩) fun r s₁ hr => ?_
  cases r with
  | error e => exact hr
  | ok fl =>
    cases fl with
    | ret obj =>
      obtain ⟨rfl, rfl⟩ := hr
      have hS : (s.heap.push (newSetObj w)).get? s.heap.objs.size = some (newSetObj w) := Heap.get?_push_size _ rfl
      have hT : Shared.TypeIs { s with heap := s.heap.push (newSetObj w) } (.ref s.heap.objs.size) "set" := ⟨_, hS, rfl⟩
      have hli := F.called_set.init.lookup
      have hbi := F.called_set.init.bind (.ref s.heap.objs.size)
      repeat (any_goals (first | assumption | wp_step))
      refine codeAny_mono (codeAny_call_builtin (R := wants (fun r s₂ => r = .none ∧ ∃ h' tk, s₂ = { s with heap := h', toks := tk } ∧ h'.SetOf (strKind P w) s.heap.objs.size (fun k => decide (k ∈ ks)) (cntD ks) ∧
          (∀ b o, s.heap.get? b = some o → h'.get? b = some o)) E) F.called_set.init.plain F.entry_set_init (check_set_init_1 hT ?_)) fun r₂ s₂ hr₂ => ?_
      · obtain ⟨ol, hol, hcl, nl, hdl⟩ := hl
        obtain ⟨ocls, odict, odata, oslots⟩ := ol
        simp only at hcl hdl
        subst hcl; subst hdl
        have hol' : (s.heap.push (newSetObj w)).get? l = some { cls := .type "tuple", dict := odict, data := .seq items nl, slots := oslots } := Heap.get?_push_of_some _ hol
        have hsls := F.sub_tuple_set
        have hslf := F.sub_tuple_frozenset
        have hne : (Value.type "tuple" == Value.type "dict") = false := by decide
        have hl1 : (s.heap.push (newSetObj w)).IsTuple l items := ⟨_, hol', rfl, nl, rfl⟩
        unfold Builtin.«set.__init__» noKeywords Builtin.Frozenset.updateFrom
        generalize hPI : pyIter = PI
        wp_walk
        subst hPI
        refine wpAny_pyIter_tuple hl1 (wpAny_bind (wpAny_runValue ?_))
        have ll : l < s.heap.objs.size := Heap.lt_size hol
        have z1 : (s.heap.push (newSetObj w)).objs.size = s.heap.objs.size + 1 := Heap.size_push ..
        have lI : l ≠ (s.heap.push (newSetObj w)).objs.size := by
          rw [z1]
          exact Nat.ne_of_lt (Nat.lt_succ_of_lt ll)
        have out : s.heap.objs.size ∉ [(s.heap.push (newSetObj w)).objs.size, l] := fun m => by
          rcases List.mem_cons.mp m with e | m
          · exact absurd (e.trans z1) (Nat.ne_of_lt (Nat.lt_succ_self _))
          · exact absurd (List.mem_singleton.mp m) (Nat.ne_of_gt ll)
        refine sset_loop ((Walks.tuple (by simp [hh] : A.in1.in1.in1.handled = none) _ l lI items).toS) s.heap.objs.size out ks sz.symm few (fun i v hv => ?_) (items.size - 0) 0 _ (by omega) (Nat.zero_le _)
          ⟨⟨_, Heap.get?_push_size _ rfl, rfl, rfl⟩, (hl1.push _)⟩ ?_ ?_
        · exact strs_nth hit i v (by rw [Array.getElem?_toList]; exact hv)
        · exact SetOf_congr ((setObjOf_fresh (knd := strKind P w) _).setOf (Heap.get?_push_of_some _ hS) (by unfold scanBound; omega)) (fun _ => by simp) rfl
        · intro s' mv T
          obtain ⟨h', g2, d', tk', os'⟩ := s'
          obtain rfl : g2 = s.gens := mv.gens
          obtain rfl : d' = s.drawn := mv.drawn
          obtain rfl : os' = s.os := mv.os
          show wpAny _ _ _ _ _ _
          refine wpAny_pure ?_
          show wpAny _ _ (ret Value.none) _ _ _
          rw [show ks.take items.size = ks by rw [sz]; exact List.take_length] at T
          refine wpAny_pure ⟨rfl, h', tk', rfl, T, fun b o e => ?_⟩
          have hb := Heap.lt_size e
          exact mv.heap b o (fun m => by
            rcases List.mem_cons.mp m with e' | m
            · exact absurd e' (Nat.ne_of_lt hb)
            · have e2 := List.mem_singleton.mp m
              rw [e2, z1] at hb
              exact absurd hb (Nat.not_lt.mpr (Nat.le_succ _))) (Heap.get?_push_of_some _ (Heap.get?_push_of_some _ e))
      · cases r₂ with
        | error e => exact hr₂
        | ok fl₂ =>
          cases fl₂ with
          | ret r =>
            obtain ⟨rfl, h', tk, rfl, T, kp⟩ := hr₂
            repeat (any_goals (first | assumption | wp_step))
            exact q _ _ T kp
          | _ => exact hr₂.elim
    | _ => exact hr.elim
end
section
variable {X : Cx} {pn : Option Addr} {Γ : Gam} {c : Nat} {K : PySem.W.Frag} {ta : TE} {xs : List Str}
def tLenTexts (K : PySem.W.Frag) (ta : TE) : TE := fun σ H Q => ta σ H fun x H1 => ∃ (l : Addr) (xs : List Str), x = .ref l ∧ SqT K H1 l (xs.map V.str) ∧ xs.length < 4000 ∧ Q (.int (cntD xs : Nat)) H1
theorem pe_lenTexts {a : Expr} {p p2 q pos : Pos} (hc : X.calm = true) (hg : Gl X "len") (hm : X.mg "len" = none) (hg2 : Gl X "set") (hm2 : X.mg "set" = none) (ha : PE X a ta)
    (na : starEach [a] X.env = (false, eval a X.env) :: starEach [] X.env := by rfl) : PE X (.Call (.Name "len" p) [.Call (.Name "set" p2) [a] [] q] [] pos) (tLenTexts X.K ta) := by
  refine ⟨fun pins s σ H Q I h => ?_⟩
  refine Call_ (ld_blt I hg hm boot_len (PyProof.Rows.callWith_builtin1 (PyProof.Rows.args_cons ?_ rfl) rfl rfl))
  refine Call_ (ld_blt I hg2 hm2 boot_set (PyProof.Rows.callWith_type1 (PyProof.Rows.args_cons (thn (ha.run pins s σ H _ I h) fun v s1 ⟨x, H1, I1, r1, l, xs, ex, hq, few, k⟩ => PyProof.Rows.args_nil ?_) na) na rfl))
  subst ex
  obtain rfl : v = Value.ref l := r1
  obtain ⟨its, r, pl, _⟩ := I1.tuple hq
  refine call_set_texts xs (I1.ok.hd hc) (show s1.heap.IsTuple l its.toArray from pl) (by simpa using strsAre_of r) few fun h' tk T kp => PyProof.Rows.args_nil ?_
  obtain ⟨o, es, ep, t, ho, ex, hd, _, _, _, hf, hn⟩ := T
  have cl := cntD_le xs
  exact call_len_set ho ex hd hf (by rw [hn]; omega) ⟨.int (cntD xs : Nat), H1, (I1.kept (t' := tk) kp).tok _, ⟨_, by rw [hn]⟩, k⟩
theorem ev_lenTexts (h : Ev pn ta Γ c (mT (xs.map mS))) (few : xs.length < 4000) : Ev pn (tLenTexts K ta) Γ c (mI (cntD xs : Nat)) := .mk fun {G H σ n} E l Q q =>
  h.run E l _ fun v G1 H1 n1 k1 p1 l1 ⟨a, vs, ev, ha, zz⟩ => by
    rw [zip_strs zz] at ha
    exact ⟨a, xs, ev, SqT.of (k1.gh.x ha), few, q _ G1 H1 n1 k1 p1 l1 rfl⟩
end
end Ev

set_option Elab.async false
set_option linter.all false
set_option maxRecDepth 100000
set_option maxHeartbeats 4000000
/-! x not in a tuple of texts, x any data. -/
namespace Ev
open PySem PySem.Spec PySem.SeqAt
open AutoSeq1 (wpAny_loadPart')
open MeetsSeq
theorem str_eq_declines_dict (b : Str) (u : Tok) (l : Addr) (c : Value) (es : Array DictEntry) (ep : Nat) (dd : Option Addr) (sl : Array (Option Value)) :
    Meets (Builtin.«str.__eq__» ⟨[.str b u, .ref l], []⟩) (fun _ R s => s.heap.get? l = some { cls := c, dict := dd, data := .dict es ep, slots := sl } ∧ R (.ok (.ret .notImplemented)) s) :=
  .of_wp fun prog w A R s h => by obtain ⟨hp, g, d, tk, os⟩ := s; obtain ⟨hl, h⟩ := h; wp_walk using wpAny_loadPart' hl, wpAny_load hl; exact ⟨_, rfl, h⟩
theorem dict_eq_declines_str (b : Str) (u : Tok) (l : Addr) (es : Array DictEntry) (ep : Nat) (dd : Option Addr) (sl : Array (Option Value)) :
    Meets (Builtin.«dict.__eq__» ⟨[.ref l, .str b u], []⟩) (fun _ R s => s.heap.get? l = some { cls := .type "dict", dict := dd, data := .dict es ep, slots := sl } ∧ R (.ok (.ret .notImplemented)) s) :=
  .of_wp fun prog w A R s h => by obtain ⟨hp, g, d, tk, os⟩ := s; obtain ⟨hl, h⟩ := h; have f1 := F.sub_str_dict; wp_walk using wpAny_loadPart' hl, wpAny_load hl; exact ⟨_, rfl, h⟩
section
variable {A : Around} {s : Shared}
theorem rcAt_str_dict {l : Addr} {o : Obj} {es : Array DictEntry} {ep : Nat} (b : Str) (u : Tok) (ho : s.heap.get? l = some o) (hc : o.cls = .type "dict") (hd : o.data = .dict es ep) (hu : A.units < cLine) : RcAt A s (.str b u) (.ref l) false := fun prog w E Q h => by
  obtain ⟨cls, dd, data, sl⟩ := o
  simp only at hc hd
  subst hc hd
  exact rc_eq_decline_or (k := false) (typeIs_str s b u) ⟨_, ho, rfl⟩ (by decide) F.sub_dict_str F.slot_str_eq F.slot_dict_eq_refl
    (fun _ hq => call_meets F.slot_str_eq (typeIs_str s b u) F.entry_str_eq (F.args_str_eq_2 _ _) (str_eq_declines_dict b u l (.type "dict") es ep dd sl) ⟨ho, hq⟩)
    (fun _ hq => call_meets F.slot_dict_eq_refl ⟨_, ho, rfl⟩ F.entry_dict_eq (F.args_dict_eq_2 _ _) (dict_eq_declines_str b u l es ep dd sl) ⟨ho, hq⟩)
    (fun _ hq => wpAny_of_eq (rfl : isSame (.str b u) (.ref l) = pure false) hq) (.inr hu) h
theorem eqAt_str_dict {l : Addr} {o : Obj} {es : Array DictEntry} {ep : Nat} (b : Str) (u : Tok) (ho : s.heap.get? l = some o) (hc : o.cls = .type "dict") (hd : o.data = .dict es ep) (hu : A.units < cLine) : EqAt A s (.str b u) (.ref l) false := fun prog w E Q h => by
  unfold eqBool
  refine wpAny_holding ?_
  refine wpAny_ite_split (fun hab => absurd (eq_of_beq hab) nofun) (fun _ => ?_)
  exact wpAny_bind (rcAt_str_dict b u ho hc hd hu prog w E _ (wpAny_truthy_bool h))
end
open L2 PyProof.Rows
variable [z : Tz]
/-- no text -/
def Oth (K : PySem.W.Frag) (H : Hp) (x : V) : Prop := x = .non ∨ (∃ b, x = .bl b) ∨ (∃ i, x = .int i) ∨ ∃ a, x = .ref a ∧ ((∃ vs, SqL K H a vs) ∨ (∃ vs, SqT K H a vs) ∨ ∃ kvs, Rd H a (.dK kvs))
def rNotInT (K : PySem.W.Frag) : R2 := fun x y H Q => ∃ (b : Addr) (ss : List Str), y = .ref b ∧ SqT K H b (ss.map V.str) ∧ ((∃ s, x = .str s ∧ Q (.bl (!decide (s ∈ ss))) H) ∨ (Oth K H x ∧ Q (.bl true) H))
theorem oth_eq {X : Cx} {pins : List (Addr × Obj)} {σ : L2.St} {H : Hp} {s : Shared} {A : Around} {x : V} {v : Value} (hu : A.units < cLine) (I : Inv X pins σ H s) (o : Oth X.K H x) (r : RelV x v) (b : Str) (u : Tok) : EqAt A s (.str b u) v false := by
  rcases o with rfl | ⟨k, rfl⟩ | ⟨i, rfl⟩ | ⟨a, rfl, q⟩
  · cases r; exact EqAt.str_none b u
  · cases r; exact EqAt.str_bool b u k
  · obtain ⟨t, rfl⟩ := r; exact EqAt.str_int b u i t
  · cases r
    rcases q with ⟨vs, q⟩ | ⟨vs, q⟩ | ⟨kvs, q⟩
    · obtain ⟨its, rv, p1, _⟩ := I.list q
      exact EqAt.str_list b u p1.isList hu
    · obtain ⟨its, rv, p1, _⟩ := I.tuple q
      exact EqAt.str_tuple (items := its.toArray) b u p1 hu
    · obtain ⟨_, _, vs, kv, o, es, ep, ho, hx, hd, _, pr, _⟩ := dk_rd I.hok q
      exact eqAt_str_dict b u ho hx.1 hd hu
theorem op_notInT {X : Cx} {K : PySem.W.Frag} (hu : X.A.units + 64 < cLine) (hK : X.K = K := by rfl) : OpR X (compareOp .NotIn) (rNotInT K) := by
  subst hK
  intro pins s σ H x y v u Q I rx ry h
  obtain ⟨b, ss, rfl, hb, q⟩ := h
  obtain rfl : u = Value.ref b := ry
  obtain ⟨its, rv, p1, _⟩ := I.tuple hb
  have hu1 : X.A.in1.units < cLine := by show X.A.units + 1 < cLine; omega
  have sa : StrsAre its ss := strsAre_of rv
  rcases q with ⟨t, rfl, q⟩ | ⟨o, q⟩
  · obtain ⟨tk, rfl⟩ := rx
    refine notIn_tupleAt (fun y => match y with | .str a _ => a == t | _ => false) (show s.heap.IsTuple b its.toArray from p1) (fun y hy => ?_) ?_
    · have hy : y ∈ its := by simpa using hy
      obtain ⟨i, hi⟩ := List.getElem?_of_mem hy
      obtain ⟨a, u, _, rfl⟩ := strs_nth sa i y hi
      exact EqAt.str_str a u t tk
    · refine ⟨.bl (!decide (t ∈ ss)), H, I, ?_, q⟩
      have : ∀ {its : List Value} {ss : List Str}, StrsAre its ss → (its.any (fun y => match y with | .str a _ => a == t | _ => false)) = decide (t ∈ ss) := by
        intro its ss sa
        induction sa with
        | nil => rfl
        | cons x u r ih =>
          rw [List.any_cons, ih]
          by_cases e : x = t
          · subst e; simp
          · have e' : ¬ t = x := fun z => e z.symm
            simp [e, e']
      show Value.bool _ = Value.bool _
      rw [← this sa, List.any_toArray]
  · refine notIn_tupleAt (fun _ => false) (show s.heap.IsTuple b its.toArray from p1) (fun y hy => ?_) ?_
    · have hy : y ∈ its := by simpa using hy
      obtain ⟨i, hi⟩ := List.getElem?_of_mem hy
      obtain ⟨a, u, _, rfl⟩ := strs_nth sa i y hi
      exact oth_eq hu1 I o rx a u
    · refine ⟨.bl true, H, I, ?_, q⟩
      show Value.bool _ = Value.bool _
      simp
section
variable {pn : Option Addr} {Γ : Gam} {c : Nat} {K : PySem.W.Frag} {ss : List Str} {d : PyData}
theorem oth_dat {G H : Hp} (e : Sm G H) {v : V} (h : (mDat d).pr G v) (n : isStrD d = false) : Oth K H v := by
  cases d with
  | none => simp only [mDat] at h; exact .inl h
  | bool b => simp only [mDat] at h; exact .inr (.inl ⟨b, h⟩)
  | int i => simp only [mDat] at h; exact .inr (.inr (.inl ⟨i, h⟩))
  | str x => cases n
  | list ds => simp only [mDat] at h; obtain ⟨a, vs, rfl, ha, _⟩ := h; exact .inr (.inr (.inr ⟨a, rfl, .inl ⟨vs, SqL.of (e.x ha)⟩⟩))
  | tuple ds => simp only [mDat] at h; obtain ⟨a, vs, rfl, ha, _⟩ := h; exact .inr (.inr (.inr ⟨a, rfl, .inr (.inl ⟨vs, SqT.of (e.x ha)⟩)⟩))
  | dict ds => simp only [mDat] at h; obtain ⟨a, kvs, rfl, ha, _⟩ := h; exact .inr (.inr (.inr ⟨a, rfl, .inr (.inr ⟨kvs, e.rd2 ha⟩)⟩))
/-- whether it is one of these texts -/
def inS (ss : List Str) : PyData → Bool
  | .str x => decide (x ∈ ss)
  | _ => false
theorem rv_notInT : RV (rNotInT K) (mDat d) (mT (ss.map mS)) (mV (.bl (!inS ss d))) := .mk fun {G H x y} e h1 h2 Q q => by
  obtain ⟨b, vs, rfl, hb, zz⟩ := h2
  rw [zip_strs zz] at hb
  refine ⟨b, ss, rfl, SqT.of (e.x hb), ?_⟩
  cases hs : isStrD d with
  | false =>
    refine .inr ⟨oth_dat e h1 hs, q _ G H (.refl e) ?_⟩
    show _ = _
    cases d <;> first | rfl | cases hs
  | true =>
    obtain ⟨t, rfl⟩ := isStrD_of hs
    simp only [mDat] at h1
    exact .inl ⟨t, h1, q _ G H (.refl e) rfl⟩
end
end Ev

set_option Elab.async false
set_option linter.all false
set_option maxRecDepth 100000
set_option maxHeartbeats 4000000
/-! zip of two lists, or of two tuples, walked by one plain name: the pairs stay with whoever keeps them. -/
namespace Ev
open PySem
section
variable {prog : Program} {w : World} {A : Around} {E : Value → Shared → Prop} {s : Shared}
abbrev zipO (own : Value) (f : Bool) (TI TO : Addr) : Obj := { cls := .type "zip", dict := none, data := .fields #[own, .bool f, .bool false, .ref TI, .ref TO], slots := #[] }
/-- an iterator over a list (false) or a tuple (true) -/
def ItAt : Bool → Heap → Addr → Addr → Nat → Prop
  | false, h, it, l, i => h.IsListIter it l i
  | true, h, it, l, i => h.IsTupleIter it l i
def SqAt : Bool → Heap → Addr → Array Value → Prop
  | false, h, l, xs => h.IsList l xs
  | true, h, l, xs => h.IsTuple l xs
theorem ItAt.mv {b : Bool} {h h' : Heap} {it l : Addr} {i : Nat} (x : ItAt b h it l i) (k : ∀ o, h.get? it = some o → h'.get? it = some o) : ItAt b h' it l i := by
  cases b <;> (obtain ⟨o, e, r⟩ := x; exact ⟨o, k o e, r⟩)
theorem SqAt.mv {b : Bool} {h h' : Heap} {l : Addr} {xs : Array Value} (x : SqAt b h l xs) (k : ∀ o, h.get? l = some o → h'.get? l = some o) : SqAt b h' l xs := by
  cases b <;> (obtain ⟨o, e, r⟩ := x; exact ⟨o, k o e, r⟩)
theorem it_item {b : Bool} {it l : Addr} {i : Nat} {xs : Array Value} {x : Value} {Q : Value → Shared → Prop} (h1 : ItAt b s.heap it l i) (h2 : SqAt b s.heap l xs) (hx : xs[i]? = some x)
    (hQ : ∀ h', ItAt b h' it l (i + 1) → Heap.SameBut it s.heap h' → Q x { s with heap := h' }) : wpAny (model prog w) A (Builtin.SmallTypes.nextOf (.ref it)) Q E s := by
  cases b with
  | false => exact wpAny_nextOf_list_item h1 h2 hx hQ
  | true => exact RZ.nextOf_tuple_item h1 h2 hx hQ
theorem it_end {b : Bool} {it l : Addr} {i : Nat} {xs : Array Value} {Q : Value → Shared → Prop} (hh : A.handled = none) (h1 : ItAt b s.heap it l i) (h2 : SqAt b s.heap l xs) (hx : xs[i]? = none)
    (hE : ∀ h' e, Heap.ExtBut it s.heap h' → (∃ o, h'.get? e = some o ∧ o.cls = .type "StopIteration") → E (.ref e) { s with heap := h' }) : wpAny (model prog w) A (Builtin.SmallTypes.nextOf (.ref it)) Q E s := by
  cases b with
  | false => exact wpAny_nextOf_list_end hh h1 h2 hx hE
  | true => exact RZ.nextOf_tuple_end hh h1 h2 hx hE
/-- all that a zip stands on -/
structure ZS (b : Bool) (z TI TO i1 i2 l1 l2 : Addr) (own : Value) (f : Bool) (k1 k2 : Nat) (xs ys : Array Value) (h : Heap) : Prop where
  zz : h.get? z = some (zipO own f TI TO)
  ti : IsPair h TI (.ref i1) (.ref i2)
  to : ∃ u v, IsPair h TO u v
  c1 : ItAt b h i1 l1 k1
  c2 : ItAt b h i2 l2 k2
  q1 : SqAt b h l1 xs
  q2 : SqAt b h l2 ys
section
variable {b f f' : Bool} {z TI TO i1 i2 l1 l2 : Addr} {own own' : Value} {k1 k2 k' : Nat} {xs ys : Array Value} {h h' : Heap}
theorem ZS.atZ (D : ZipApart z TI TO i1 i2 l1 l2) (S : ZS b z TI TO i1 i2 l1 l2 own f k1 k2 xs ys h) (e : h'.get? z = some (zipO own' f' TI TO)) (k : Heap.SameBut z h h') : ZS b z TI TO i1 i2 l1 l2 own' f' k1 k2 xs ys h' := by
  obtain ⟨u, v, to⟩ := S.to
  exact ⟨e, (k.2 _ D.TIz).trans S.ti, ⟨u, v, (k.2 _ D.TOz).trans to⟩, S.c1.mv fun o x => (k.2 _ D.i1z).trans x, S.c2.mv fun o x => (k.2 _ D.i2z).trans x, S.q1.mv fun o x => (k.2 _ D.l1z).trans x, S.q2.mv fun o x => (k.2 _ D.l2z).trans x⟩
theorem ZS.at1 (D : ZipApart z TI TO i1 i2 l1 l2) (S : ZS b z TI TO i1 i2 l1 l2 own f k1 k2 xs ys h) (e : ItAt b h' i1 l1 k') (k : Heap.SameBut i1 h h') : ZS b z TI TO i1 i2 l1 l2 own f k' k2 xs ys h' := by
  obtain ⟨u, v, to⟩ := S.to
  exact ⟨(k.2 _ D.i1z.symm).trans S.zz, (k.2 _ D.TIi1).trans S.ti, ⟨u, v, (k.2 _ D.TOi1).trans to⟩, e, S.c2.mv fun o x => (k.2 _ D.i12.symm).trans x, S.q1.mv fun o x => (k.2 _ D.l1i1).trans x, S.q2.mv fun o x => (k.2 _ D.l2i1).trans x⟩
theorem ZS.at2 (D : ZipApart z TI TO i1 i2 l1 l2) (S : ZS b z TI TO i1 i2 l1 l2 own f k1 k2 xs ys h) (e : ItAt b h' i2 l2 k') (k : Heap.SameBut i2 h h') : ZS b z TI TO i1 i2 l1 l2 own f k1 k' xs ys h' := by
  obtain ⟨u, v, to⟩ := S.to
  exact ⟨(k.2 _ D.i2z.symm).trans S.zz, (k.2 _ D.TIi2).trans S.ti, ⟨u, v, (k.2 _ D.TOi2).trans to⟩, S.c1.mv fun o x => (k.2 _ D.i12).trans x, e, S.q1.mv fun o x => (k.2 _ D.l1i2).trans x, S.q2.mv fun o x => (k.2 _ D.l2i2).trans x⟩
theorem ZS.atO (D : ZipApart z TI TO i1 i2 l1 l2) (S : ZS b z TI TO i1 i2 l1 l2 own f k1 k2 xs ys h) {u v : Value} (e : IsPair h' TO u v) (k : Heap.SameBut TO h h') : ZS b z TI TO i1 i2 l1 l2 own f k1 k2 xs ys h' :=
  ⟨(k.2 _ D.TOz.symm).trans S.zz, (k.2 _ D.TITO).trans S.ti, ⟨u, v, e⟩, S.c1.mv fun o x => (k.2 _ D.TOi1.symm).trans x, S.c2.mv fun o x => (k.2 _ D.TOi2.symm).trans x, S.q1.mv fun o x => (k.2 _ D.l1TO).trans x, S.q2.mv fun o x => (k.2 _ D.l2TO).trans x⟩
theorem ZS.more (S : ZS b z TI TO i1 i2 l1 l2 own f k1 k2 xs ys h) (k : ∀ c o, h.get? c = some o → h'.get? c = some o) : ZS b z TI TO i1 i2 l1 l2 own f k1 k2 xs ys h' := by
  obtain ⟨u, v, to⟩ := S.to
  exact ⟨k _ _ S.zz, k _ _ S.ti, ⟨u, v, k _ _ to⟩, S.c1.mv (k _), S.c2.mv (k _), S.q1.mv (k _), S.q2.mv (k _)⟩
end
/-- the tuple that is out, if one is -/
def OutOk (own : Value) : Prop := own = .none ∨ ∃ T : Addr, own = rawInt T
theorem zip_free {z TI TO : Addr} {own : Value} {f : Bool} {Q : Bool → Shared → Prop} (hz : s.heap.get? z = some (zipO own f TI TO)) (ho : OutOk own)
    (h : ∀ r f' h', h'.get? z = some (zipO own f' TI TO) → Heap.SameBut z s.heap h' → Q r { s with heap := h' }) : wpAny (model prog w) A (Builtin.SmallTypes.ownedTupleIsFree (.ref z)) Q E s := by
  unfold Builtin.SmallTypes.ownedTupleIsFree
  rcases ho with rfl | ⟨T, rfl⟩
  · exact wpAny_bind (wpAny_field hz rfl (x := .none) rfl (wpAny_pure (h true f s.heap hz (Heap.SameBut.refl _ _))))
  · refine wpAny_bind (wpAny_field hz rfl (x := rawInt T) rfl ?_)
    show wpAny _ _ (loadIfAlive ((T : Int).toNat) >>= _) _ _ _
    have look : ∀ (q : Option Obj → Shared → Prop), q (s.heap.get? T) s → wpAny (model prog w) A (loadIfAlive T) q E s := fun q y => by
      exact fun _ _ _ => y
    refine wpAny_bind (look _ ?_)
    cases e : s.heap.get? T with
    | none =>
      simp only [Option.isNone_none, if_true]
      exact wpAny_pure (h true f s.heap hz (Heap.SameBut.refl _ _))
    | some o =>
      simp only [Option.isNone_some, Bool.false_eq_true, if_false]
      refine wpAny_bind (wpAny_field hz rfl (x := .bool f) rfl ?_)
      cases f with
      | true => exact wpAny_pure (h false true s.heap hz (Heap.SameBut.refl _ _))
      | false => exact wpAny_bind (wpAny_setField_rec hz (by simp) fun h1 hz1 hs1 => wpAny_pure (h false true h1 hz1 hs1))
/-- one turn -/
theorem zip_turn {b : Bool} {z TI TO i1 i2 l1 l2 : Addr} {own : Value} {f : Bool} {k1 k2 : Nat} {xs ys : Array Value} {x y : Value} {Q : Value → Shared → Prop} (D : ZipApart z TI TO i1 i2 l1 l2) (S : ZS b z TI TO i1 i2 l1 l2 own f k1 k2 xs ys s.heap) (ho : OutOk own)
    (hx : xs[k1]? = some x) (hy : ys[k2]? = some y)
    (hQ : ∀ own' f' h', OutOk own' → ZS b z TI TO i1 i2 l1 l2 own' f' (k1 + 1) (k2 + 1) xs ys h' → IsPair h' s.heap.objs.size x y → h'.objs.size = s.heap.objs.size + 1 → (∀ c o, c ≠ z → c ≠ TO → c ≠ i1 → c ≠ i2 → s.heap.get? c = some o → h'.get? c = some o) → Q (.ref s.heap.objs.size) { s with heap := h' }) :
    wpAny (model prog w) A (Builtin.«zip.__next__» ⟨[.ref z], []⟩) (fun fin s' => ∃ v, fin = .done (.ret v) ∧ Q v s') E s := by
  show wpAny _ _ (field (.ref z) 2 >>= _) _ _ _
  refine wpAny_bind (wpAny_field S.zz rfl (x := .bool false) rfl ?_)
  show wpAny _ _ (field (.ref z) 3 >>= _) _ _ _
  refine wpAny_bind (wpAny_field S.zz rfl (x := .ref TI) rfl (wpAny_bind (wpAny_seqItems S.ti rfl ?_)))
  show wpAny _ _ (Builtin.SmallTypes.ownedTupleIsFree (.ref z) >>= _) _ _ _
  refine wpAny_bind (zip_free S.zz ho fun r f1 g1 z1 m1 => ?_)
  have S1 := S.atZ D z1 m1
  have n1 := m1.1
  have t1 : ∀ c o, c ≠ z → s.heap.get? c = some o → g1.get? c = some o := fun c o d e => (m1.2 c d).trans e
  cases r with
  | true =>
    simp only [if_true]
    refine wpAny_bind (wpAny_rule (wpAny_bind (wpAny_field S1.zz rfl (x := .ref TO) rfl (wpAny_bind (wpAny_setField_rec S1.zz (by simp) fun g2 z2 m2 => ?_)))))
    have S2 : ZS b z TI TO i1 i2 l1 l2 .ellipsis f1 k1 k2 xs ys g2 := S1.atZ D z2 m2
    refine wpAny_bind ?_
    simp only [List.zipIdx_cons, List.zipIdx_nil, List.forIn_cons, List.forIn_nil]
    refine wpAny_bind (wpAny_bind (wpAny_onRaise ?_))
    show wpAny _ _ (Builtin.SmallTypes.nextOf (.ref i1) >>= _) _ _ _
    refine wpAny_bind (it_item (s := { s with heap := g2 }) S2.c1 S2.q1 hx fun g3 c3 m3 => wpAny_pure ?_)
    have S3 := S2.at1 D c3 m3
    obtain ⟨u, v, to3⟩ := S3.to
    refine wpAny_bind (wpAny_seqItems to3 rfl (wpAny_bind (wpAny_updateSeq_pair to3 fun g4 to4 m4 => ?_)))
    replace to4 : IsPair g4 TO x v := to4
    have S4 := S3.atO D to4 m4
    refine wpAny_bind (wpAny_letGo (wpAny_pure ?_))
    refine wpAny_bind (wpAny_bind (wpAny_onRaise ?_))
    show wpAny _ _ (Builtin.SmallTypes.nextOf (.ref i2) >>= _) _ _ _
    refine wpAny_bind (it_item (s := { s with heap := g4 }) S4.c2 S4.q2 hy fun g5 c5 m5 => wpAny_pure ?_)
    have S5 := S4.at2 D c5 m5
    have to5 : IsPair g5 TO x v := (m5.2 _ D.TOi2).trans to4
    refine wpAny_bind (wpAny_seqItems to5 rfl (wpAny_bind (wpAny_updateSeq_pair to5 fun g6 to6 m6 => ?_)))
    replace to6 : IsPair g6 TO x y := to6
    have S6 := S5.atO D to6 m6
    refine wpAny_bind (wpAny_letGo (wpAny_pure (wpAny_pure ?_)))
    refine wpAny_bind (wpAny_seqItems to6 rfl (wpAny_bind (wpAny_newTuple ?_)))
    have sz : g6.objs.size = s.heap.objs.size := by rw [m6.1, m5.1, m4.1, m3.1, m2.1, n1]
    show wpAny _ _ (Builtin.SmallTypes.ownedTupleHandOut (.ref z) (.ref g6.objs.size) >>= _) _ _ _
    refine wpAny_bind ?_
    unfold Builtin.SmallTypes.ownedTupleHandOut
    have S7 : ZS b z TI TO i1 i2 l1 l2 .ellipsis f1 (k1 + 1) (k2 + 1) xs ys (g6.push { cls := .type "tuple", data := .seq #[x, y] }) := S6.more fun c o e => Heap.get?_push_of_some _ e
    refine wpAny_bind (wpAny_setField_rec S7.zz (by simp) fun g8 z8 m8 => ?_)
    have S8 : ZS b z TI TO i1 i2 l1 l2 (rawInt g6.objs.size) f1 (k1 + 1) (k2 + 1) xs ys g8 := S7.atZ D z8 m8
    refine wpAny_setField_rec S8.zz (by simp) fun g9 z9 m9 => ?_
    have S9 : ZS b z TI TO i1 i2 l1 l2 (rawInt g6.objs.size) false (k1 + 1) (k2 + 1) xs ys g9 := S8.atZ D z9 m9
    have zl : z ≠ g6.objs.size := Nat.ne_of_lt (Heap.lt_size S6.zz)
    have np : IsPair g9 g6.objs.size x y := (m9.2 _ zl.symm).trans ((m8.2 _ zl.symm).trans (Heap.get?_push_size _ rfl))
    have n9 : g9.objs.size = g6.objs.size + 1 := by rw [m9.1, m8.1, Heap.size_push]
    rw [sz] at S9 np n9
    refine wpAny_pure ⟨_, rfl, ?_⟩
    show Q (.ref g6.objs.size) _
    rw [sz]
    refine hQ _ _ g9 (.inr ⟨_, rfl⟩) S9 np n9 fun c o d1 d2 d3 d4 e => ?_
    have e6 : g6.get? c = some o := (m6.2 _ d2).trans ((m5.2 _ d4).trans ((m4.2 _ d2).trans ((m3.2 _ d3).trans ((m2.2 _ d1).trans (t1 c o d1 e)))))
    exact (m9.2 _ d1).trans ((m8.2 _ d1).trans (Heap.get?_push_of_some _ e6))
  | false =>
    simp only [Bool.false_eq_true, if_false]
    refine wpAny_bind ?_
    rw [← Array.forIn_toList]
    simp only [List.forIn_cons, List.forIn_nil]
    refine wpAny_bind (wpAny_bind (wpAny_holding ?_))
    show wpAny _ _ (Builtin.SmallTypes.nextOf (.ref i1) >>= _) _ _ _
    refine wpAny_bind (it_item (s := { s with heap := g1 }) S1.c1 S1.q1 hx fun g3 c3 m3 => wpAny_pure (wpAny_pure ?_))
    have S3 := S1.at1 D c3 m3
    refine wpAny_bind (wpAny_bind (wpAny_holding ?_))
    show wpAny _ _ (Builtin.SmallTypes.nextOf (.ref i2) >>= _) _ _ _
    refine wpAny_bind (it_item (s := { s with heap := g3 }) S3.c2 S3.q2 hy fun g5 c5 m5 => wpAny_pure (wpAny_pure (wpAny_pure ?_)))
    have S5 := S3.at2 D c5 m5
    show wpAny _ _ (newTuple [x, y] >>= _) _ _ _
    refine wpAny_bind (wpAny_newTuple (wpAny_pure ⟨_, rfl, ?_⟩))
    have sz : g5.objs.size = s.heap.objs.size := by rw [m5.1, m3.1, n1]
    show Q (.ref g5.objs.size) _
    have np : IsPair (g5.push { cls := .type "tuple", data := .seq #[x, y] }) g5.objs.size x y := Heap.get?_push_size _ rfl
    have n9 : (g5.push { cls := .type "tuple", data := .seq #[x, y] }).objs.size = g5.objs.size + 1 := Heap.size_push ..
    rw [sz] at np n9 ⊢
    refine hQ _ _ _ ho (S5.more fun c o e => Heap.get?_push_of_some _ e) np n9 fun c o d1 d2 d3 d4 e => ?_
    exact Heap.get?_push_of_some _ ((m5.2 _ d4).trans ((m3.2 _ d3).trans (t1 c o d1 e)))
theorem zip_stop {b : Bool} {z TI TO i1 i2 l1 l2 : Addr} {own : Value} {f : Bool} {k1 k2 : Nat} {xs ys : Array Value} {Q : Fin → Shared → Prop} (hh : A.handled = none) (D : ZipApart z TI TO i1 i2 l1 l2) (S : ZS b z TI TO i1 i2 l1 l2 own f k1 k2 xs ys s.heap) (ho : OutOk own)
    (hend : xs[k1]? = none ∨ ys[k2]? = none)
    (hE : ∀ h' e, (∀ c o, c ≠ z → c ≠ TO → c ≠ i1 → c ≠ i2 → s.heap.get? c = some o → h'.get? c = some o) → (∃ o, h'.get? e = some o ∧ o.cls = .type "StopIteration") → E (.ref e) { s with heap := h' }) :
    wpAny (model prog w) A (Builtin.«zip.__next__» ⟨[.ref z], []⟩) Q E s := by
  show wpAny _ _ (field (.ref z) 2 >>= _) _ _ _
  refine wpAny_bind (wpAny_field S.zz rfl (x := .bool false) rfl ?_)
  show wpAny _ _ (field (.ref z) 3 >>= _) _ _ _
  refine wpAny_bind (wpAny_field S.zz rfl (x := .ref TI) rfl (wpAny_bind (wpAny_seqItems S.ti rfl ?_)))
  show wpAny _ _ (Builtin.SmallTypes.ownedTupleIsFree (.ref z) >>= _) _ _ _
  refine wpAny_bind (zip_free S.zz ho fun r f1 g1 z1 m1 => ?_)
  have S1 := S.atZ D z1 m1
  have t1 : ∀ c o, c ≠ z → s.heap.get? c = some o → g1.get? c = some o := fun c o d e => (m1.2 c d).trans e
  cases r with
  | true =>
    simp only [if_true]
    refine wpAny_bind (wpAny_rule (wpAny_bind (wpAny_field S1.zz rfl (x := .ref TO) rfl (wpAny_bind (wpAny_setField_rec S1.zz (by simp) fun g2 z2 m2 => ?_)))))
    have S2 : ZS b z TI TO i1 i2 l1 l2 .ellipsis f1 k1 k2 xs ys g2 := S1.atZ D z2 m2
    have t2 : ∀ c o, c ≠ z → s.heap.get? c = some o → g2.get? c = some o := fun c o d e => (m2.2 c d).trans (t1 c o d e)
    refine wpAny_bind ?_
    simp only [List.zipIdx_cons, List.zipIdx_nil, List.forIn_cons, List.forIn_nil]
    refine wpAny_bind (wpAny_bind (wpAny_onRaise ?_))
    show wpAny _ _ (Builtin.SmallTypes.nextOf (.ref i1) >>= _) _ _ _
    cases hx : xs[k1]? with
    | none =>
      refine wpAny_bind (it_end (s := { s with heap := g2 }) hh S2.c1 S2.q1 hx fun g3 e m3 he => ?_)
      obtain ⟨oe, hoe, hce⟩ := he
      have z3 := m3 _ _ D.i1z.symm S2.zz
      have ez : e ≠ z := fun q => by
        rw [q, z3] at hoe
        cases hoe
        simp at hce
      refine wpAny_setField_rec z3 (by simp) fun g4 _ m4 => hE g4 e (fun c o d1 _ d3 _ q => (m4.2 _ d1).trans (m3 _ _ d3 (t2 c o d1 q))) ⟨oe, (m4.2 _ ez).trans hoe, hce⟩
    | some x =>
      have hy : ys[k2]? = none := hend.resolve_left fun q => by rw [hx] at q; cases q
      refine wpAny_bind (it_item (s := { s with heap := g2 }) S2.c1 S2.q1 hx fun g3 c3 m3 => wpAny_pure ?_)
      have S3 := S2.at1 D c3 m3
      obtain ⟨u, v, to3⟩ := S3.to
      refine wpAny_bind (wpAny_seqItems to3 rfl (wpAny_bind (wpAny_updateSeq_pair to3 fun g4 to4 m4 => ?_)))
      replace to4 : IsPair g4 TO x v := to4
      have S4 := S3.atO D to4 m4
      refine wpAny_bind (wpAny_letGo (wpAny_pure ?_))
      refine wpAny_bind (wpAny_bind (wpAny_onRaise ?_))
      show wpAny _ _ (Builtin.SmallTypes.nextOf (.ref i2) >>= _) _ _ _
      refine wpAny_bind (it_end (s := { s with heap := g4 }) hh S4.c2 S4.q2 hy fun g5 e m5 he => ?_)
      obtain ⟨oe, hoe, hce⟩ := he
      have z5 := m5 _ _ D.i2z.symm S4.zz
      have ez : e ≠ z := fun q => by
        rw [q, z5] at hoe
        cases hoe
        simp at hce
      refine wpAny_setField_rec z5 (by simp) fun g6 _ m6 => hE g6 e (fun c o d1 d2 d3 d4 q => (m6.2 _ d1).trans (m5 _ _ d4 ((m4.2 _ d2).trans ((m3.2 _ d3).trans (t2 c o d1 q))))) ⟨oe, (m6.2 _ ez).trans hoe, hce⟩
  | false =>
    simp only [Bool.false_eq_true, if_false]
    refine wpAny_bind ?_
    rw [← Array.forIn_toList]
    simp only [List.forIn_cons, List.forIn_nil]
    refine wpAny_bind (wpAny_bind (wpAny_holding ?_))
    show wpAny _ _ (Builtin.SmallTypes.nextOf (.ref i1) >>= _) _ _ _
    cases hx : xs[k1]? with
    | none => exact wpAny_bind (it_end (s := { s with heap := g1 }) hh S1.c1 S1.q1 hx fun g3 e m3 he => hE g3 e (fun c o d1 _ d3 _ q => m3 _ _ d3 (t1 c o d1 q)) he)
    | some x =>
      have hy : ys[k2]? = none := hend.resolve_left fun q => by rw [hx] at q; cases q
      refine wpAny_bind (it_item (s := { s with heap := g1 }) S1.c1 S1.q1 hx fun g3 c3 m3 => wpAny_pure (wpAny_pure ?_))
      have S3 := S1.at1 D c3 m3
      refine wpAny_bind (wpAny_bind (wpAny_holding ?_))
      show wpAny _ _ (Builtin.SmallTypes.nextOf (.ref i2) >>= _) _ _ _
      exact wpAny_bind (it_end (s := { s with heap := g3 }) hh S3.c2 S3.q2 hy fun g5 e m5 he => hE g5 e (fun c o d1 _ d3 d4 q => m5 _ _ d4 ((m3.2 _ d3).trans (t1 c o d1 q))) he)
theorem zip_next {b : Bool} {z TI TO i1 i2 l1 l2 : Addr} {own : Value} {f : Bool} {k1 k2 : Nat} {xs ys : Array Value} {x y : Value} {Q : Option Value → Shared → Prop} (D : ZipApart z TI TO i1 i2 l1 l2) (S : ZS b z TI TO i1 i2 l1 l2 own f k1 k2 xs ys s.heap) (ho : OutOk own)
    (hx : xs[k1]? = some x) (hy : ys[k2]? = some y)
    (hQ : ∀ own' f' h', OutOk own' → ZS b z TI TO i1 i2 l1 l2 own' f' (k1 + 1) (k2 + 1) xs ys h' → IsPair h' s.heap.objs.size x y → h'.objs.size = s.heap.objs.size + 1 → (∀ c o, c ≠ z → c ≠ TO → c ≠ i1 → c ≠ i2 → s.heap.get? c = some o → h'.get? c = some o) → Q (some (.ref s.heap.objs.size)) { s with heap := h' }) :
    wpAny (model prog w) A (pyNext (.ref z)) Q E s := by
  have ty : s.TypeIs (.ref z) "zip" := ⟨_, S.zz, rfl⟩
  unfold pyNext
  refine wpAny_bind (wpAny_attempt (wpAny_callSpecial?_slot (name := Str.ofString "__next__") ty F.slot_zip_next (wpAny_call_entry F.slot_zip_next ty F.entry_zip_next ?_ (F.args_zip_next_1 _))))
  exact zip_turn D S ho hx hy fun own' f' h' a1 a2 a3 a4 a5 => wpAny_pure (hQ own' f' h' a1 a2 a3 a4 a5)
theorem zip_over {b : Bool} {z TI TO i1 i2 l1 l2 : Addr} {own : Value} {f : Bool} {k1 k2 : Nat} {xs ys : Array Value} {Q : Option Value → Shared → Prop} (hh : A.handled = none) (D : ZipApart z TI TO i1 i2 l1 l2) (S : ZS b z TI TO i1 i2 l1 l2 own f k1 k2 xs ys s.heap) (ho : OutOk own)
    (hend : xs[k1]? = none ∨ ys[k2]? = none) (hQ : ∀ h', (∀ c o, c ≠ z → c ≠ TO → c ≠ i1 → c ≠ i2 → s.heap.get? c = some o → h'.get? c = some o) → Q none { s with heap := h' }) : wpAny (model prog w) A (pyNext (.ref z)) Q E s := by
  have ty : s.TypeIs (.ref z) "zip" := ⟨_, S.zz, rfl⟩
  unfold pyNext
  refine wpAny_bind (wpAny_attempt (wpAny_callSpecial?_slot (name := Str.ofString "__next__") ty F.slot_zip_next (wpAny_call_entry F.slot_zip_next ty F.entry_zip_next (zip_stop hh D S ho hend fun h' e hk ⟨o, h1, h2⟩ => ?_) (F.args_zip_next_1 _))))
  exact wpAny_bind (wpAny_isInstance (T := "StopIteration") (b := true) ⟨o, h1, h2⟩ isSubtype_stop (wpAny_pure (hQ _ hk)))
end
end Ev

set_option Elab.async false
set_option linter.all false
set_option maxRecDepth 100000
set_option maxHeartbeats 4000000
/-! .. as a walk of the layer. -/
namespace Ev
open PySem PySem.Spec PyProof.Rows L2
variable [z : Tz]
/-- what the zip's own objects are at turn i -/
def ZTn (b : Bool) (z TI TO i1 i2 l1 l2 : Addr) (i : Nat) (h : Heap) : Prop := ∃ own f, OutOk own ∧ h.get? z = some (zipO own f TI TO) ∧ IsPair h TI (.ref i1) (.ref i2) ∧ (∃ u v, IsPair h TO u v) ∧ ItAt b h i1 l1 i ∧ ItAt b h i2 l2 i
theorem ItAt.obj {b : Bool} {h : Heap} {it l : Addr} {i : Nat} (x : ItAt b h it l i) : ∃ o, h.get? it = some o ∧ ∀ v, o.data ≠ .cell v := by
  cases b <;> (obtain ⟨o, e, _, d⟩ := x; exact ⟨o, e, fun v q => by rw [d] at q; cases q⟩)
section
variable {P : Program} {w : World} {K : PySem.W.Frag} {b : Bool} {z' TI TO i1 i2 l1 l2 : Addr}
theorem ztn_obj {i : Nat} {h : Heap} (st : ZTn b z' TI TO i1 i2 l1 l2 i h) : ∀ c ∈ [z', TI, TO, i1, i2], ∃ o, h.get? c = some o ∧ ∀ v, o.data ≠ .cell v := by
  obtain ⟨own, f, _, hz, hI, ⟨u, v, hO⟩, h1, h2⟩ := st
  intro c hc
  simp only [List.mem_cons, List.not_mem_nil, or_false] at hc
  rcases hc with rfl | rfl | rfl | rfl | rfl
  · exact ⟨_, hz, fun v q => nomatch q⟩
  · exact ⟨_, hI, fun v q => nomatch q⟩
  · exact ⟨_, hO, fun v q => nomatch q⟩
  · exact h1.obj
  · exact h2.obj
theorem ztn_keep {i : Nat} {h h' : Heap} (st : ZTn b z' TI TO i1 i2 l1 l2 i h) (k : ∀ c ∈ [z', TI, TO, i1, i2], ∀ o, h.get? c = some o → h'.get? c = some o) : ZTn b z' TI TO i1 i2 l1 l2 i h' := by
  obtain ⟨own, f, ok, hz, hI, ⟨u, v, hO⟩, h1, h2⟩ := st
  exact ⟨own, f, ok, k z' (by simp) _ hz, k TI (by simp) _ hI, ⟨u, v, k TO (by simp) _ hO⟩, h1.mv fun o => k i1 (by simp) o, h2.mv fun o => k i2 (by simp) o⟩
theorem ztn_item {x : Str} {p : Pos} (D : ZipApart z' TI TO i1 i2 l1 l2) {X : Cx} {i : Nat} {pins : List (Addr × Obj)} {s : Shared} {σ : L2.St} {H : Hp} {E : Value → Shared → Prop} {its its2 : List Value} {y y2 : V} {u u2 : Value} (I : Inv X pins σ H s)
    (hf : ∀ c ∈ [z', TI, TO, i1, i2], FpOk X pins H c) (st : ZTn b z' TI TO i1 i2 l1 l2 i s.heap) (q1 : SqAt b s.heap l1 its.toArray) (q2 : SqAt b s.heap l2 its2.toArray) (hu : its[i]? = some u) (hu2 : its2[i]? = some u2) (ru : RelV y u) (ru2 : RelV y2 u2) :
    wpAny (model X.prog X.w) X.A (pyNext (.ref z')) (fun r s1 => ∃ v, r = some v ∧ wpAny (model X.prog X.w) X.A (letOwnedTupleGo (.Name x p) (.ref z') v)
      (fun _ s2 => ∃ (t : V) (H' : Hp), Inv X pins σ H' s2 ∧ RelV t v ∧ (∃ T, t = .ref T ∧ H T = none ∧ H' = upd H T (.tup [y, y2])) ∧ ZTn b z' TI TO i1 i2 l1 l2 (i + 1) s2.heap ∧ ∀ c ∈ [z', TI, TO, i1, i2], H' c = none) E s1) E s := by
  have there := ztn_obj st
  obtain ⟨own, f, ok, hz, hI, hO, h1, h2⟩ := st
  refine zip_next D ⟨hz, hI, hO, h1, h2, q1, q2⟩ ok (x := u) (y := u2) (by simpa using hu) (by simpa using hu2) fun own' f' h' ok' S np sz kp => ?_
  refine ⟨_, rfl, wpAny_pure ?_⟩
  have new : ObjOk X.prog X.w (upd H s.heap.objs.size (.tup [y, y2])) h' s.heap.objs.size (.tup [y, y2]) := ⟨by show 2 ≤ sizeLine; decide, [u, u2], .cons ru (.cons ru2 .nil), ⟨_, np, rfl, _, rfl⟩⟩
  have I1 : Inv X pins σ (upd H s.heap.objs.size (.tup [y, y2])) { s with heap := h' } :=
    I.turnedNew (t' := s.toks) (ch := [z', TI, TO, i1, i2]) (fun c o hb q => kp c o (fun e => hb (by simp [e])) (fun e => hb (by simp [e])) (fun e => hb (by simp [e])) (fun e => hb (by simp [e])) q) hf (Nat.le_refl _) new
  refine ⟨.ref s.heap.objs.size, _, I1, rfl, ⟨_, rfl, I.hok.fresh (Nat.le_refl _), rfl⟩, ⟨own', f', ok', S.zz, S.ti, S.to, S.c1, S.c2⟩, fun c hc => ?_⟩
  obtain ⟨o, e, _⟩ := there c hc
  rw [upd_ne (Nat.ne_of_lt (Heap.lt_size e))]
  exact (hf c hc).1
theorem ztn_done (D : ZipApart z' TI TO i1 i2 l1 l2) {X : Cx} {i : Nat} {pins : List (Addr × Obj)} {s : Shared} {σ : L2.St} {H : Hp} {E : Value → Shared → Prop} {its its2 : List Value} (hc : X.calm = true) (I : Inv X pins σ H s)
    (hf : ∀ c ∈ [z', TI, TO, i1, i2], FpOk X pins H c) (st : ZTn b z' TI TO i1 i2 l1 l2 i s.heap) (q1 : SqAt b s.heap l1 its.toArray) (q2 : SqAt b s.heap l2 its2.toArray) (he : its.length ≤ i ∨ its2.length ≤ i) :
    wpAny (model X.prog X.w) X.A (pyNext (.ref z')) (fun r s1 => r = none ∧ Inv X pins σ H s1) E s := by
  obtain ⟨own, f, ok, hz, hI, hO, h1, h2⟩ := st
  refine zip_over (I.ok.hd hc) D ⟨hz, hI, hO, h1, h2, q1, q2⟩ ok (he.imp (fun q => by simp; omega) fun q => by simp; omega) fun h' kp => ⟨rfl, ?_⟩
  exact I.turnedL (t' := s.toks) (ch := [z', TI, TO, i1, i2]) (fun c o hb q => kp c o (fun e => hb (by simp [e])) (fun e => hb (by simp [e])) (fun e => hb (by simp [e])) (fun e => hb (by simp [e])) q) hf
theorem zip_self {A : Around} {i : Nat} {s : Shared} {Q E : Value → Shared → Prop} (st : ZTn b z' TI TO i1 i2 l1 l2 i s.heap) (h : Q (.ref z') s) : wpAny (model P w) A (pyIter (.ref z')) Q E s := by
  obtain ⟨own, f, _, hz, _⟩ := st
  have ty : s.TypeIs (.ref z') "zip" := ⟨_, hz, rfl⟩
  refine wpAny_pyIter_slot ty F.slot_zip_iter (wpAny_call_entry F.slot_zip_iter ty F.entry_zip_iter ?_ (F.args_zip_iter_1 _))
  exact wpAny_pure ⟨_, rfl, "zip", _, ty, F.slot_zip_next.lookup, h⟩
theorem turn_zipNL {x : Str} {p : Pos} (D : ZipApart z' TI TO i1 i2 l1 l2) : Turn P w K (.Name x p) (Itz K l1 l2) [z', TI, TO, i1, i2] z' (ZTn false z' TI TO i1 i2 l1 l2) where
  mem := by simp
  obj := fun i h st => ztn_obj st
  keep := fun i h h' st k => ztn_keep st k
  item := by
    rintro X rfl rfl rfl hc i pins s σ H E I hf st ⟨xs, ys, y, y2, g1, g2, e1, e2⟩
    obtain ⟨its, rv, p1, _⟩ := I.list g1
    obtain ⟨its2, rv2, p2, _⟩ := I.list g2
    obtain ⟨u, hu, ru⟩ := rv.get e1
    obtain ⟨u2, hu2, ru2⟩ := rv2.get e2
    refine wpAny_mono (ztn_item (x := x) (p := p) D I hf st (show SqAt false s.heap l1 its.toArray from p1.isList) (show SqAt false s.heap l2 its2.toArray from p2.isList) hu hu2 ru ru2) (fun r s1 ⟨v, ev, k⟩ => ⟨v, ev, wpAny_mono k (fun _ s2 ⟨t, H', J, rt, ⟨T, et, hT, eH⟩, r⟩ => ⟨t, H', J, rt, ⟨T, y, y2, et, hT, eH, fun l hl => ?_, fun l hl => ?_⟩, r⟩) fun _ _ q => q⟩) fun _ _ q => q
    · rw [I.list_inj hl g1]; exact e1
    · rw [I.list_inj hl g2]; exact e2
  done := by
    rintro X rfl rfl rfl hc i pins s σ H E I hf st ⟨xs, ys, g1, g2, he⟩
    obtain ⟨its, rv, p1, _⟩ := I.list g1
    obtain ⟨its2, rv2, p2, _⟩ := I.list g2
    have l1 := rv.length
    have l2 := rv2.length
    exact ztn_done D hc I hf st (show SqAt false s.heap _ its.toArray from p1.isList) (show SqAt false s.heap _ its2.toArray from p2.isList) (by omega)
  self := fun A i s Q E st h => by
    exact zip_self st h
theorem turn_zipNT {x : Str} {p : Pos} (D : ZipApart z' TI TO i1 i2 l1 l2) : Turn P w K (.Name x p) (RZ.ItzT K l1 l2) [z', TI, TO, i1, i2] z' (ZTn true z' TI TO i1 i2 l1 l2) where
  mem := by simp
  obj := fun i h st => ztn_obj st
  keep := fun i h h' st k => ztn_keep st k
  item := by
    rintro X rfl rfl rfl hc i pins s σ H E I hf st ⟨xs, ys, y, y2, g1, g2, e1, e2⟩
    obtain ⟨its, rv, p1, _⟩ := I.tuple g1
    obtain ⟨its2, rv2, p2, _⟩ := I.tuple g2
    obtain ⟨u, hu, ru⟩ := rv.get e1
    obtain ⟨u2, hu2, ru2⟩ := rv2.get e2
    refine wpAny_mono (ztn_item (x := x) (p := p) D I hf st (show SqAt true s.heap l1 its.toArray from p1) (show SqAt true s.heap l2 its2.toArray from p2) hu hu2 ru ru2) (fun r s1 ⟨v, ev, k⟩ => ⟨v, ev, wpAny_mono k (fun _ s2 ⟨t, H', J, rt, ⟨T, et, hT, eH⟩, r⟩ => ⟨t, H', J, rt, ⟨T, y, y2, et, hT, eH, fun l hl => ?_, fun l hl => ?_⟩, r⟩) fun _ _ q => q⟩) fun _ _ q => q
    · rw [I.tuple_inj hl g1]; exact e1
    · rw [I.tuple_inj hl g2]; exact e2
  done := by
    rintro X rfl rfl rfl hc i pins s σ H E I hf st ⟨xs, ys, g1, g2, he⟩
    obtain ⟨its, rv, p1, _⟩ := I.tuple g1
    obtain ⟨its2, rv2, p2, _⟩ := I.tuple g2
    have l1 := rv.length
    have l2 := rv2.length
    exact ztn_done D hc I hf st (show SqAt true s.heap _ its.toArray from p1) (show SqAt true s.heap _ its2.toArray from p2) (by omega)
  self := fun A i s Q E st h => zip_self st h
end
/-- x over zip(a, b) -/
theorem pi_zipN {X : Cx} {e e2 : Expr} {ta : TA} {x : Str} {p pos q : Pos} (hg : Gl X "zip") (hm : X.mg "zip" = none) (ha : PA X [e, e2] ta)
    (h1 : starEach [e, e2] X.env = (false, eval e X.env) :: starEach [e2] X.env := by rfl) (h2 : (backTo pos (starEach [e2] X.env)).any (·.1) = false := by rfl) :
    PI X (.Name x q) (.Call (.Name "zip" p) [e, e2] [] pos) (RZ.iZipA X.K ta) := by
  refine ⟨fun pins s σ H R I h => Call_ (ld_blt I hg hm PyProof.Rows.boot_zip (PyProof.Rows.callWith_type1 (thn (ha.run pos pins s σ H _ I h) fun us s1 ⟨vs, H1, I1, r1, a, b, xs, ys, ev, q1⟩ => ?_) h1 h2))⟩
  subst ev
  obtain ⟨u1, us, rfl, ra, r2⟩ : ∃ u1 us', us = u1 :: us' ∧ RelV (.ref a) u1 ∧ Vals [.ref b] us' := by
    cases r1 with
    | cons r rr => exact ⟨_, _, rfl, r, rr⟩
  obtain ⟨u2, rfl, rb⟩ := vals1 r2
  obtain rfl : u1 = Value.ref a := ra
  obtain rfl : u2 = Value.ref b := rb
  let n := s1.heap.objs.size
  have five : ∀ c ∈ [n + 4, n + 2, n + 3, n, n + 1], n ≤ c := fun c hc => by
    simp only [List.mem_cons, List.not_mem_nil, or_false] at hc
    omega
  have fp : ∀ c ∈ [n + 4, n + 2, n + 3, n, n + 1], FpOk X pins H1 c := fun c hc => I1.fpOk (five c hc) (I1.hok.fresh (five c hc))
  rcases q1 with ⟨g1, g2, k⟩ | ⟨g1, g2, k⟩
  · obtain ⟨its, rv, p1, _⟩ := I1.list g1
    obtain ⟨its2, rv2, p2, _⟩ := I1.list g2
    refine call_zip_2 p1.isList p2.isList fun h' hz hTI hTO c1 c2 _ kp => wpAny_pyIter_zip hz ?_
    exact ⟨n + 4, [n + 4, n + 2, n + 3, n, n + 1], _, _, H1, rfl, I1.kept (t' := s1.toks) kp, turn_zipNL (PySem.W.ktu_apart n a b p1.lt p2.lt), ⟨_, _, .inl rfl, hz, hTI, ⟨_, _, hTO⟩, c1, c2⟩, fp, k⟩
  · obtain ⟨its, rv, p1, _⟩ := I1.tuple g1
    obtain ⟨its2, rv2, p2, _⟩ := I1.tuple g2
    obtain ⟨o1, e1, _⟩ := id p1
    obtain ⟨o2, e2, _⟩ := id p2
    refine RZ.call_zipT (show s1.heap.IsTuple a its.toArray from p1) (show s1.heap.IsTuple b its2.toArray from p2) fun h' hz hTI hTO c1 c2 _ kp => wpAny_pyIter_zip hz ?_
    exact ⟨n + 4, [n + 4, n + 2, n + 3, n, n + 1], _, _, H1, rfl, I1.kept (t' := s1.toks) kp, turn_zipNT (PySem.W.ktu_apart n a b (Heap.lt_size e1) (Heap.lt_size e2)), ⟨_, _, .inl rfl, hz, hTI, ⟨_, _, hTO⟩, c1, c2⟩, fp, k⟩
/-! ### what the pairs stand for -/
section
variable {pn : Option Addr} {Γ : Gam} {c : Nat} {ta : TA} {K : PySem.W.Frag} {Ps Qs : List MP}
def zipPs (Ps Qs : List MP) : List MP := List.zipWith (fun P Q => mT [P, Q]) Ps Qs
theorem zipPs_get {i : Nat} {M : MP} (h : (zipPs Ps Qs)[i]? = some M) : ∃ P Q, Ps[i]? = some P ∧ Qs[i]? = some Q ∧ M = mT [P, Q] := by
  unfold zipPs at h
  rw [List.getElem?_zipWith] at h
  cases e1 : Ps[i]? with
  | none => rw [e1] at h; cases h
  | some P =>
    cases e2 : Qs[i]? with
    | none => rw [e1, e2] at h; cases h
    | some Q =>
      rw [e1, e2] at h
      cases h
      exact ⟨P, Q, rfl, rfl, rfl⟩
theorem its_zipL {G0 : Hp} {a b : Addr} {vs ws : List V} (ha : G0 a = some (.lst vs)) (hb : G0 b = some (.lst ws)) (z1 : Zip G0 Ps vs) (z2 : Zip G0 Qs ws) : Its (Itz K a b) G0 (zipPs Ps Qs) := by
  have e1 := z1.len
  have e2 := z2.len
  have el : (zipPs Ps Qs).length = min Ps.length Qs.length := List.length_zipWith ..
  refine ⟨fun {G H i} s k hi => ?_, fun {G H i x H' P} s k hP hy => ?_, fun {G H i} s k hi => ?_⟩
  · exact ⟨vs, ws, vs[i]'(by omega), ws[i]'(by omega), SqL.of (k.x (s _ _ ha)), SqL.of (k.x (s _ _ hb)), List.getElem?_eq_getElem _, List.getElem?_eq_getElem _⟩
  · obtain ⟨T, y, y2, rfl, hT, rfl, f1, f2⟩ := hy
    obtain ⟨P1, P2, g1, g2, rfl⟩ := zipPs_get hP
    obtain ⟨v1, hv1, p1⟩ := (z1.mono s).get g1
    obtain ⟨v2, hv2, p2⟩ := (z2.mono s).get g2
    obtain rfl : y = v1 := Option.some.inj ((f1 vs (SqL.of (k.x (s _ _ ha)))).symm.trans hv1)
    obtain rfl : y2 = v2 := Option.some.inj ((f2 ws (SqL.of (k.x (s _ _ hb)))).symm.trans hv2)
    have st := Stp.new (o := .tup [y, y2]) k hT
    exact ⟨_, st, T, [y, y2], rfl, upd_same, P1.mono st.gg p1, P2.mono st.gg p2, trivial⟩
  · exact ⟨vs, ws, SqL.of (k.x (s _ _ ha)), SqL.of (k.x (s _ _ hb)), by omega⟩
theorem its_zipT {G0 : Hp} {a b : Addr} {vs ws : List V} (ha : G0 a = some (.tup vs)) (hb : G0 b = some (.tup ws)) (z1 : Zip G0 Ps vs) (z2 : Zip G0 Qs ws) : Its (RZ.ItzT K a b) G0 (zipPs Ps Qs) := by
  have e1 := z1.len
  have e2 := z2.len
  have el : (zipPs Ps Qs).length = min Ps.length Qs.length := List.length_zipWith ..
  refine ⟨fun {G H i} s k hi => ?_, fun {G H i x H' P} s k hP hy => ?_, fun {G H i} s k hi => ?_⟩
  · exact ⟨vs, ws, vs[i]'(by omega), ws[i]'(by omega), SqT.of (k.x (s _ _ ha)), SqT.of (k.x (s _ _ hb)), List.getElem?_eq_getElem _, List.getElem?_eq_getElem _⟩
  · obtain ⟨T, y, y2, rfl, hT, rfl, f1, f2⟩ := hy
    obtain ⟨P1, P2, g1, g2, rfl⟩ := zipPs_get hP
    obtain ⟨v1, hv1, p1⟩ := (z1.mono s).get g1
    obtain ⟨v2, hv2, p2⟩ := (z2.mono s).get g2
    obtain rfl : y = v1 := Option.some.inj ((f1 vs (SqT.of (k.x (s _ _ ha)))).symm.trans hv1)
    obtain rfl : y2 = v2 := Option.some.inj ((f2 ws (SqT.of (k.x (s _ _ hb)))).symm.trans hv2)
    have st := Stp.new (o := .tup [y, y2]) k hT
    exact ⟨_, st, T, [y, y2], rfl, upd_same, P1.mono st.gg p1, P2.mono st.gg p2, trivial⟩
  · exact ⟨vs, ws, SqT.of (k.x (s _ _ ha)), SqT.of (k.x (s _ _ hb)), by omega⟩
theorem ei_zipL (h : EvA pn ta Γ c [mL Ps, mL Qs]) : EvI pn (RZ.iZipA K ta) Γ c (· = zipPs Ps Qs) := .mk fun {G H σ n} E l R r =>
  h.run E l _ fun vs G' H' n' k p ln zz => by
    obtain ⟨v, u, rfl, ⟨a, ws, rfl, ha, z1⟩, b, xs, rfl, hb, z2⟩ := zip2 zz
    exact ⟨a, b, ws, xs, rfl, .inl ⟨SqL.of (k.gh.x ha), SqL.of (k.gh.x hb), r _ G' H' n' _ k p ln rfl (its_zipL ha hb z1 z2)⟩⟩
theorem ei_zipT (h : EvA pn ta Γ c [mT Ps, mT Qs]) : EvI pn (RZ.iZipA K ta) Γ c (· = zipPs Ps Qs) := .mk fun {G H σ n} E l R r =>
  h.run E l _ fun vs G' H' n' k p ln zz => by
    obtain ⟨v, u, rfl, ⟨a, ws, rfl, ha, z1⟩, b, xs, rfl, hb, z2⟩ := zip2 zz
    exact ⟨a, b, ws, xs, rfl, .inr ⟨SqT.of (k.gh.x ha), SqT.of (k.gh.x hb), r _ G' H' n' _ k p ln rfl (its_zipT ha hb z1 z2)⟩⟩
end
end Ev

set_option Elab.async false
set_option linter.all false
set_option maxRecDepth 100000
set_option maxHeartbeats 4000000
/-! Chains and rings looked at, of any data. -/
namespace Ev
open PySem PySem.Spec PyProof.Rows L2
variable [z : Tz]
section
variable {pn : Option Addr} {Γ : Gam} {c1 c2 : Nat} {te : TE} {t : TA} {K : PySem.W.Frag} {Ps Qs : List MP}
theorem ea_star (h : Ev pn te Γ c1 (mT Ps)) (hr : EvA pn t Γ c2 Qs) : EvA pn (StX.tStar K te t) Γ (c1 + c2) (Ps ++ Qs) := .mk fun E l Q q =>
  h.run E (by omega) _ fun x G1 H1 n1 k1 p1 l1 ⟨a, vs, ex, ha, zz⟩ => ⟨a, vs, ex, .inl (SqT.of (k1.gh.x ha)), hr.run (E.step k1 p1) (by omega) _ fun ys G2 H2 n2 k2 p2 l2 s2 => q (vs ++ ys) G2 H2 n2 (k1.trans0 k2) p2 (by omega) ((zz.mono k2.gg).app s2)⟩
end
/-- or, the first one surely true -/
theorem et_orT {pn : Option Addr} {Γ : Gam} {c : Nat} {t u : TT} {P : Bool → Prop} (h : EvT pn t Γ c P) (hn : P false → False) : EvT pn (tOr t u) Γ c (· = true) := .mk fun E l Q q =>
  h.run E l _ fun b G' H' n' k p ln hb => by
    cases b with
    | true => rw [if_pos rfl]; exact q true G' H' n' k p ln rfl
    | false => exact (hn hb).elim
/-- each is a pair with the next one -/
def lnk (ps : List (Str × Str)) (ds : List PyData) : Bool := ((ds.zip (ds.drop 1)).map fun p => inP ps p.1 p.2).all id
theorem lnk_nil {ps : List (Str × Str)} : lnk ps [] = true := rfl
theorem lnk_one {ps : List (Str × Str)} {a : PyData} : lnk ps [a] = true := rfl
theorem lnk_cons {ps : List (Str × Str)} {a b : PyData} {ds : List PyData} : lnk ps (a :: b :: ds) = (inP ps a b && lnk ps (b :: ds)) := by
  unfold lnk
  simp
theorem inP_true {ps : List (Str × Str)} {a b : PyData} (h : inP ps a b = true) : ∃ x y, a = .str x ∧ b = .str y ∧ (x, y) ∈ ps := by
  cases a <;> first | cases h | skip
  cases b <;> first | cases h | skip
  exact ⟨_, _, rfl, rfl, of_decide_eq_true h⟩
theorem zipPs_dat (ds es : List PyData) : zipPs (ds.map mDat) (es.map mDat) = (ds.zip es).map fun p => mT [mDat p.1, mDat p.2] := by
  unfold zipPs
  rw [List.zipWith_map, List.zip, List.map_zipWith]
noncomputable abbrev spLk (C : Addr) : Sp := SpF (α := Ord × List PyData) (fun x => [mOrd C x.1, mT (x.2.map mDat)]) (fun x => x.2.length ≤ 1000) (fun x => mV (.bl (lnk x.1.ps x.2)))
/-- the weight of a chain -/
def wtC (o : Ord) : PyData → Option Int
  | .tuple ds => if ds.isEmpty = false ∧ lnk o.ps ds = true ∧ inS o.xs (ds.headD .none) = true then some ((ds.map fun d => o.wd (keyS d)).sum) else none
  | _ => none
/-- whether it is a ring -/
def rgC (ps : List (Str × Str)) : PyData → Bool
  | .tuple ds => decide (2 ≤ ds.length) && (lnk ps (ds ++ [ds.headD .none]) && decide (cntD (ds.map keyS) = ds.length))
  | _ => false
theorem wtC_tup {o : Ord} {ds : List PyData} : wtC o (.tuple ds) = if ds.isEmpty = false ∧ lnk o.ps ds = true ∧ inS o.xs (ds.headD .none) = true then some ((ds.map fun d => o.wd (keyS d)).sum) else none := rfl
theorem rgC_tup {ps : List (Str × Str)} {ds : List PyData} : rgC ps (.tuple ds) = (decide (2 ≤ ds.length) && (lnk ps (ds ++ [ds.headD .none]) && decide (cntD (ds.map keyS) = ds.length))) := rfl
theorem at_zero {α : Type} {x : α} {xs : List α} : atI (x :: xs) 0 = some x := by
  obtain ⟨y, _, h, e⟩ := atI_lt (xs := x :: xs) (d := 0) (by omega) (by simp)
  cases e
  exact h
def mO : Option Int → MP
  | some i => mI i
  | none => mV .non
def lenD : PyData → Nat
  | .tuple ds => ds.length
  | _ => 0
noncomputable abbrev spCw (C : Addr) : Sp := SpF (α := Ord × PyData) (fun x => [mOrd C x.1, mDat x.2]) (fun x => x.1.Ok ∧ lenD x.2 ≤ 500) (fun x => mO (wtC x.1 x.2))
noncomputable abbrev spRg (C : Addr) : Sp := SpF (α := Ord × PyData) (fun x => [mOrd C x.1, mDat x.2]) (fun x => x.1.Ok ∧ lenD x.2 ≤ 500) (fun x => mV (.bl (rgC x.1.ps x.2)))
section
variable {ps : List (Str × Str)} {xs : List Str}
theorem lnk_all (mem : ∀ p ∈ ps, p.1 ∈ xs ∧ p.2 ∈ xs) : ∀ {r : List PyData} {a : PyData}, lnk ps (a :: r) = true → inS xs a = true → ∃ ss : List Str, a :: r = ss.map PyData.str ∧ ∀ s ∈ ss, s ∈ xs
  | [], a, _, ha => by
    cases a <;> first | cases ha | skip
    exact ⟨[_], rfl, fun s m => by rw [List.mem_singleton.mp m]; exact of_decide_eq_true ha⟩
  | b :: r, a, h, ha => by
    rw [lnk_cons, Bool.and_eq_true] at h
    obtain ⟨x, y, rfl, rfl, m⟩ := inP_true h.1
    obtain ⟨ss, e, k⟩ := lnk_all mem h.2 (show decide (y ∈ xs) = true from decide_eq_true (mem _ m).2)
    refine ⟨x :: ss, by rw [List.map_cons, e], fun s ms => ?_⟩
    rcases List.mem_cons.mp ms with rfl | ms
    · exact (mem _ m).1
    · exact k s ms
theorem lnk_snoc : ∀ {ds : List PyData} {z' : PyData}, lnk ps (ds ++ [z']) = true → ∃ ss : List Str, ds = ss.map PyData.str
  | [], _, _ => ⟨[], rfl⟩
  | [a], z', h => by
    rw [show [a] ++ [z'] = a :: z' :: [] from rfl, lnk_cons, Bool.and_eq_true] at h
    obtain ⟨x, y, rfl, _, _⟩ := inP_true h.1
    exact ⟨[x], rfl⟩
  | a :: b :: r, z', h => by
    rw [show (a :: b :: r) ++ [z'] = a :: b :: (r ++ [z']) from rfl, lnk_cons, Bool.and_eq_true] at h
    obtain ⟨x, y, rfl, _, _⟩ := inP_true h.1
    obtain ⟨ss, e⟩ := lnk_snoc (ds := b :: r) h.2
    exact ⟨x :: ss, by rw [List.map_cons, e]⟩
theorem map_str (ss : List Str) : (ss.map PyData.str).map mDat = ss.map mS := by
  rw [List.map_map]
  exact List.map_congr_left fun s _ => by simp only [Function.comp, mDat]
theorem map_key (ss : List Str) : (ss.map PyData.str).map keyS = ss := by
  rw [List.map_map]
  exact List.map_id' ss
end
section
variable {K : PySem.W.Frag} {C : Addr} {o : Ord} {ds : List PyData} {d : PyData}
theorem sx_lk (few : ds.length ≤ 1000) :
    Sx none (tRet (tCB (rAll K) (tCons (tLc (RZ.iZipA K (tCons (tVar 1) (tCons (tSl (rSlA K) (tVar 1) (tPart (tC (.int 1))) tNoPart) tNil))) (gName 2) tYes (tOp (rHas C (spCt C) false) (tVar 2) (tVar 0)) [2]) tNil))) [.im (mOrd C o), .im (mT (ds.map mDat)), .no] 0 (endO (mV (.bl (lnk o.ps ds)))) := by
  have hi : EvI none (RZ.iZipA K (tCons (tVar 1) (tCons (tSl (rSlA K) (tVar 1) (tPart (tC (.int 1))) tNoPart) tNil))) [.im (mOrd C o), .im (mT (ds.map mDat)), .no] 0 (· = (ds.zip (ds.drop 1)).map fun p => mT [mDat p.1, mDat p.2]) := by
    have h := ei_zipT (K := K) (ea_cons (ev_var (i := 1) (Γ := [.im (mOrd C o), .im (mT (ds.map mDat)), .no]) (S := mT (ds.map mDat)) (pn := none) rfl) (ea_cons (ev_slT (K := K) (ev_var (i := 1) (S := mT (ds.map mDat)) rfl) (eo_some (ev_c (v := .int 1))) eo_none) ea_nil))
    rw [show (1 : Int) = ((1 : Nat) : Int) from rfl, cutA_drop, ← List.map_drop, zipPs_dat] at h
    exact h
  have hl : (ds.zip (ds.drop 1)).length ≤ 100000 := by rw [List.length_zip]; omega
  exact x_ret (c1 := 0) (Ev.mono (ev_cb (ea_cons (ev_of_en1 (en_lcM (xs := ds.zip (ds.drop 1)) (R := fun p => mT [mDat p.1, mDat p.2]) (f := fun p => inP o.ps p.1 p.2) (R' := fun b => mV (.bl b)) (ce := 0) hi hl
    fun p _ => ⟨_, _, gx_name, by decide, Ev.mono (ev_has (C := C) (fs := o.fs) (no := false) (⟨o, p.1, p.2⟩ : ArgCt) (ev_var (i := 2) rfl) (ev_var (i := 0) rfl) rfl trivial) (fun G v h => by rw [show v = _ from h]; show V.bl _ = V.bl _; rw [Bool.bne_false]) (by decide)⟩)) ea_nil) rc_all) (fun G v h => h) (by simp))
abbrev mTupD (ds : List PyData) : MP := mDat (.tuple ds)
theorem dat_tup : mDat (.tuple ds) = mT (ds.map mDat) := by simp only [mDat]; rw [mDats_map]
theorem ev_dt {pn : Option Addr} {Γ : Gam} {i : Nat} (h : Γ[i]? = some (.im (mDat (.tuple ds)))) : Ev pn (tVar i) Γ 0 (mT (ds.map mDat)) := by rw [← dat_tup]; exact ev_var h
theorem isTup_no (h : isTupD d = false) : wtC o d = none ∧ rgC o.ps d = false := by
  cases d <;> first | exact ⟨rfl, rfl⟩ | cases h
theorem sx_cw (ok : o.Ok) (few : lenD d ≤ 500) :
    Sx none (tSeq (tIfS (tOr (tNot (tB (tCB (rIsi K) (tCons (tVar 1) (tCons (tC (.ty "tuple")) tNil))))) (tOr (tTest (tOp (rEmpT K) (tVar 1) (tTup tNil))) (tNot (tB (tCall (spLk C) [] E0 (tCons (tVar 0) (tCons (tVar 1) tNil))))))) (tRet (tC .non)) tNext)
      (tSeq (tIfS (tTest (tOp (rNotInT K) (tOp (rIxT K) (tVar 1) (tC (.int 0))) (tProp C (spMb C) [] E0 (tVar 0)))) (tRet (tC .non)) tNext)
      (tSeq (tAsg (tProp C (spWd C) [] E0 (tVar 0)) (gName 2))
        (tRet (tCB (rSum K) (tCons (tLc (iTup K (tVar 1)) (gName 3) tYes (tDGet (tVar 2) (tVar 3)) [3]) tNil))))))
      [.im (mOrd C o), .im (mDat d), .no, .no] 0 (endO (mO (wtC o d))) := by
  by_cases ht : isTupD d = true
  · obtain ⟨ds, rfl⟩ : ∃ ds, d = .tuple ds := by cases d <;> first | exact ⟨_, rfl⟩ | cases ht
    have few : ds.length ≤ 500 := few
    refine x_guard (c2 := 0) (c3 := 0) (et_or (et_not (et_BV (ev_cb (ea_cons (ev_var (i := 1) rfl) (ea_cons ev_c ea_nil)) (rc_isTup (d := .tuple ds))))) fun _ => et_or (et_testV (ev_op (ev_dt (i := 1) rfl) (ev_tup ea_nil) rv_empT)) fun _ => et_not (et_BV (ev_callF (o, ds) (ea_cons (ev_var (i := 0) rfl) (ea_cons (ev_dt (i := 1) rfl) ea_nil)) (by show ds.length ≤ 1000; omega)))) (fun hT => ?_) (fun hF => ?_)
    · have hn : wtC o (.tuple ds) = none := by
        rw [wtC_tup, if_neg]
        rintro ⟨h1, h2, h3⟩
        rcases hT with ⟨_, h | ⟨_, h⟩⟩ | ⟨h, _⟩
        · cases h
        · rcases h with ⟨_, h | ⟨_, h⟩⟩ | ⟨h, _⟩
          · rw [List.isEmpty_map] at h
            rw [← h] at h1; cases h1
          · rw [← h] at h2; cases h2
          · cases h
        · cases h
      rw [hn]
      exact x_ret (c1 := 0) ev_c
    · have hy : ds.isEmpty = false ∧ lnk o.ps ds = true := by
        rcases hF with ⟨h, _⟩ | ⟨_, _, h⟩
        · cases h
        · rcases h with ⟨h, _⟩ | ⟨_, h1, h2⟩
          · cases h
          · rw [List.isEmpty_map] at h1
            exact ⟨h1.symm, h2.symm⟩
      obtain ⟨a, r, rfl⟩ : ∃ a r, ds = a :: r := by
        cases ds with
        | nil => cases hy.1
        | cons a r => exact ⟨a, r, rfl⟩
      refine x_guard (c2 := 0) (c3 := 0) (et_testV (ev_op (ev_op (ev_dt (i := 1) rfl) ev_c (rv_ixT (P := mDat a) at_zero)) (ev_prop (α := Ord) o (ev_var (i := 0) rfl) rfl trivial) rv_notInT)) (fun hT => ?_) (fun hF => ?_)
      · have hn : wtC o (.tuple (a :: r)) = none := by
          rw [wtC_tup, if_neg]
          rintro ⟨h1, h2, h3⟩
          have h3 : inS o.xs a = true := h3
          rw [h3] at hT
          cases hT
        rw [hn]
        exact x_ret (c1 := 0) ev_c
      · have ha : inS o.xs a = true := by
          cases h : inS o.xs a with
          | true => rfl
          | false => rw [h] at hF; cases hF
        obtain ⟨ss, es, ms⟩ := lnk_all ok.mem hy.2 ha
        have hw : wtC o (.tuple (a :: r)) = some ((ss.map o.wd).sum) := by
          rw [wtC_tup, if_pos ⟨hy.1, hy.2, ha⟩, es]
          congr 2
          rw [List.map_map]
          rfl
        rw [hw]
        have nd := ok.nx
        have fw := ok.few
        have hl : ss.length = (a :: r).length := by rw [es, List.length_map]
        refine x_let (c1 := 0) (i := 2) (S := mWts o.xs o.wd) (ev_prop (α := Ord) o (ev_var (i := 0) rfl) rfl ⟨nd, fw⟩) ?_
        have h1 : Ev none (tVar 1) [.im (mOrd C o), .im (mDat (.tuple (a :: r))), .im (mWts o.xs o.wd), .no] 0 (mT (ss.map mS)) := by
          have e : mT ((a :: r).map mDat) = mT (ss.map mS) := by rw [es, map_str]
          rw [← e]
          exact ev_dt (i := 1) rfl
        exact x_ret (c1 := 0) (Ev.mono (ev_cb (ea_cons (ev_of_en1 (en_lcM (xs := ss) (R := mS) (f := o.wd) (R' := mI) (ce := 0) (ei_tup h1) (by omega) fun s m => ⟨_, _, gx_name, by decide, ev_dgetF (f := fun s => mI (o.wd s)) (ev_var (i := 2) rfl) (ev_var (i := 3) rfl) (ms s m)⟩)) ea_nil) rc_sum) (fun G v h => h) (by simp))
  · have ht : isTupD d = false := by cases h : isTupD d with
      | true => exact absurd h ht
      | false => rfl
    rw [(isTup_no (o := o) ht).1]
    refine x_guard (c1 := 0) (c2 := 0) (c3 := 0) (P := fun b => b = true) (et_orT (et_not (et_BV (ev_cb (ea_cons (ev_var (i := 1) rfl) (ea_cons ev_c ea_nil)) (rc_isTup (d := d))))) fun h => ?_) (fun _ => x_ret (c1 := 0) ev_c) (fun h => nomatch h)
    rw [ht] at h
    cases h
theorem sx_rg (few : lenD d ≤ 500) :
    Sx none (tSeq (tIfS (tOr (tNot (tB (tCB (rIsi K) (tCons (tVar 1) (tCons (tC (.ty "tuple")) tNil))))) (tTest (tOp (rI0 fun i j => V.bl (decide (i < j))) (tCB (rLenX K) (tCons (tVar 1) tNil)) (tC (V.int 2))))) (tRet (tC (V.bl false))) tNext)
      (tRet (tAndV (tCall (spLk C) [] E0 (tCons (tVar 0) (tCons (tTup (StX.tStar K (tVar 1) (tCons (tOp (rIxT K) (tVar 1) (tC (V.int 0))) tNil))) tNil))) (tOp rEq (tLenTexts K (tVar 1)) (tCB (rLenX K) (tCons (tVar 1) tNil))))))
      [.im (mOrd C o), .im (mDat d)] 0 (endO (mV (.bl (rgC o.ps d)))) := by
  by_cases ht : isTupD d = true
  · obtain ⟨ds, rfl⟩ : ∃ ds, d = .tuple ds := by cases d <;> first | exact ⟨_, rfl⟩ | cases ht
    have few : ds.length ≤ 500 := few
    refine x_guard (c2 := 0) (c3 := 0) (et_or (et_not (et_BV (ev_cb (ea_cons (ev_var (i := 1) rfl) (ea_cons ev_c ea_nil)) (rc_isTup (d := .tuple ds))))) fun _ => et_testV (ev_op (ev_cb (ea_cons (ev_dt (i := 1) rfl) ea_nil) rc_lenT) ev_c rv_I0)) (fun hT => ?_) (fun hF => ?_)
    · have hn : rgC o.ps (.tuple ds) = false := by
        have : ¬ 2 ≤ ds.length := by
          rcases hT with ⟨_, h | ⟨_, h⟩⟩ | ⟨h, _⟩
          · cases h
          · have := of_decide_eq_true h.symm
            rw [List.length_map] at this
            omega
          · cases h
        rw [rgC_tup, decide_eq_false this]
        rfl
      rw [hn]
      exact x_ret (c1 := 0) ev_c
    · have hl : 2 ≤ ds.length := by
        rcases hF with ⟨h, _⟩ | ⟨_, _, h⟩
        · cases h
        · have := of_decide_eq_false h.symm
          rw [List.length_map] at this
          omega
      obtain ⟨a, r, rfl⟩ : ∃ a r, ds = a :: r := by
        cases ds with
        | nil => simp at hl
        | cons a r => exact ⟨a, r, rfl⟩
      rw [rgC_tup, decide_eq_true hl, Bool.true_and]
      have hc : Ev none (tCall (spLk C) [] E0 (tCons (tVar 0) (tCons (tTup (StX.tStar K (tVar 1) (tCons (tOp (rIxT K) (tVar 1) (tC (V.int 0))) tNil))) tNil))) [.im (mOrd C o), .im (mDat (.tuple (a :: r)))] 0 (mV (.bl (lnk o.ps ((a :: r) ++ [a])))) := by
        refine Ev.mono (ev_callF (o, (a :: r) ++ [a]) (ea_cons (ev_var (i := 0) rfl) (ea_cons (S := mT (((a :: r) ++ [a]).map mDat)) (by
          rw [List.map_append]
          exact ev_tup (ea_star (ev_dt (i := 1) rfl) (ea_cons (ev_op (ev_dt (i := 1) rfl) ev_c (rv_ixT (P := mDat a) at_zero)) ea_nil)) (by simp at few ⊢; omega)) ea_nil)) (by show ((a :: r) ++ [a]).length ≤ 1000; simp at few ⊢; omega)) (fun G v h => h) (by simp)
      refine x_ret (c1 := 0) (ev_andB (c1 := 0) (c2 := 0) hc fun hk => ?_)
      obtain ⟨ss, es⟩ := lnk_snoc hk
      have h1 : Ev none (tVar 1) [.im (mOrd C o), .im (mDat (.tuple (a :: r)))] 0 (mT (ss.map mS)) := by
        have e : mT ((a :: r).map mDat) = mT (ss.map mS) := by rw [es, map_str]
        rw [← e]
        exact ev_dt (i := 1) rfl
      have hlen : ss.length = (a :: r).length := by rw [es, List.length_map]
      have := ev_op (ev_lenTexts (K := K) h1 (by rw [hlen]; omega)) (ev_cb (ea_cons h1 ea_nil) (rc_lenT (K := K))) rv_eqI
      refine Ev.mono this (fun G v h => ?_) (by simp)
      rw [show v = _ from h]
      show V.bl _ = V.bl _
      rw [es, map_key, List.length_map, List.length_map]
      congr 1
      simp only [decide_eq_decide]
      omega
  · have ht : isTupD d = false := by cases h : isTupD d with
      | true => exact absurd h ht
      | false => rfl
    rw [(isTup_no (o := o) ht).2]
    refine x_guard (c1 := 0) (c2 := 0) (c3 := 0) (P := fun b => b = true) (et_orT (et_not (et_BV (ev_cb (ea_cons (ev_var (i := 1) rfl) (ea_cons ev_c ea_nil)) (rc_isTup (d := d))))) fun h => ?_) (fun _ => x_ret (c1 := 0) ev_c) (fun h => nomatch h)
    rw [ht] at h
    cases h
end
end Ev

set_option Elab.async false
set_option linter.all false
set_option maxRecDepth 100000
set_option maxHeartbeats 4000000
namespace Ev
open PySem PySem.Spec L2
variable [z : Tz]
section
variable {P : Program} {w : World} {K : PySem.W.Frag} {mg : Str → Option Value} {base : Heap}
abbrev sLk : Stmt := topS 2
theorem scLk : FnScope ["order", "items", "pair"] ["order", "items"] (defScope sLk) := ⟨rfl, rfl, rfl, by decide +kernel, rfl, by decide +kernel, by decide +kernel⟩

theorem ok_Lk {f : Addr} {fd : FuncData} {k : Nat} (F : Fun K "are_linked" "are_linked" sLk f fd) (T : Bo mg) (C : Addr)
    (Ta : mg "all" = none) (Tz : mg "zip" = none) (G_contains : Fh P w K mg base k C ["self", "pair"] (spCt C)) : GnOk P w K mg base CX0 (k + 1) f fd ["order", "items"] (spLk C) := by
  refine okG F scLk (fun vs H Q E h => h.len fun _ => rfl) (fun cdv A outer s H vs Q E hc hr h => ?_)
  have hu := hu_of hr
  refine ⟨_, (pss_one (ps_ret (pe_callB (cr_all rfl) (by rfl) Ta (by decide +kernel) (pa_cons (pe_lc (own := [("pair", 2)]) rfl scLk.nd (pi_zipN (by rfl) Tz (pa_cons (pv 1) (pa_cons (pe_slice sl_tupA (pv 1) (po_some pe_int) po_none) pa_nil))) (blkOk_by (N := ["order", "items", "pair"]) (sc := defScope sLk) (by decide +kernel)) (fun _ _ _ _ _ => (pg_name (i := 2) scLk.nd rfl (.inl rfl))) (fun _ _ _ _ _ => pts_nil) (fun _ _ _ _ _ => (pe_cmpR (op_fh G_contains hc (hr.mono (by omega))) (pv 2) (pv 0) (by rfl)))) pa_nil)))), fn_F h fun x hx => ?_⟩
  exact sx_lk hx
abbrev sCw : Stmt := topS 3
theorem scCw : FnScope ["order", "value", "widths", "item"] ["order", "value"] (defScope sCw) := ⟨rfl, rfl, rfl, by decide +kernel, rfl, by decide +kernel, by decide +kernel⟩

theorem ok_Cw {f : Addr} {fd : FuncData} {k : Nat} (F : Fun K "chain_weight" "chain_weight" sCw f fd) (T : Bo mg) (C : Addr)
    (Ts : mg "sum" = none) (G_are_linked : Fd P w K mg base k "are_linked" ["order", "items"] (spLk C)) (G_members : Fq P w K mg base k C "members" ["self"] (spMb C)) (G_widths : Fq P w K mg base k C "widths" ["self"] (spWd C)) : GnOk P w K mg base CX0 (k + 2) f fd ["order", "value"] (spCw C) := by
  refine okG F scCw (fun vs H Q E h => h.len fun _ => rfl) (fun cdv A outer s H vs Q E hc hr h => ?_)
  have hu := hu_of hr
  refine ⟨_, (pss_cons (ps_if (PW.pt (pw_or (pt_not (pt_val (pe_callB call_isi (by rfl) T.isinstance (by decide +kernel) (pa_cons (pv 1) (pa_cons (pe_bltn (v := .ty "tuple") (by rfl) T.tuple (by decide +kernel) rfl) pa_nil))))) (pw_or (pt_cmpR (op_empT hr.units) (pv 1) (pe_tup pa_nil) (nomark _)) (pw_or1 (pt_not (pt_val (pe_fd G_are_linked hc (hr.mono (by omega)) (pa_cons (pv 0) (pa_cons (pv 1) pa_nil)))))))))
        (pss_one (ps_ret pe_non))
        pss_nil)
      (pss_cons (ps_if (pt_cmpR (op_notInT hr.units) (pe_ix (ix_tupK (K := K)) (pv 1) pe_int (fun _ _ => rfl)) (pe_fq (pv 0) G_members hc (hr.mono (by omega))) (by rfl))
        (pss_one (ps_ret pe_non))
        pss_nil)
      (pss_cons (ps_set (i := 2) scCw.nd rfl (.inr rfl) (pe_fq (pv 0) G_widths hc (hr.mono (by omega))))
      (pss_one (ps_ret (pe_callB (cr_sum rfl) (by rfl) Ts (by decide +kernel) (pa_cons (pe_lc (own := [("item", 3)]) rfl scCw.nd (pi_tup (pv 1)) (blkOk_by (N := ["order", "value", "widths", "item"]) (sc := defScope sCw) (by decide +kernel)) (fun _ _ _ _ _ => (pg_name (i := 3) scCw.nd rfl (.inl rfl))) (fun _ _ _ _ _ => pts_nil) (fun _ _ _ _ _ => (pe_dget hu (pv 2) (pv 3) (fun _ _ => rfl)))) pa_nil))))))), fn_F h fun x hx => ?_⟩
  exact sx_cw hx.1 hx.2
abbrev sRg : Stmt := topS 4
theorem scRg : FnScope ["order", "value"] ["order", "value"] (defScope sRg) := ⟨rfl, rfl, rfl, by decide +kernel, rfl, by decide +kernel, by decide +kernel⟩

theorem ok_Rg {f : Addr} {fd : FuncData} {k : Nat} (F : Fun K "shows_ring" "shows_ring" sRg f fd) (T : Bo mg) (C : Addr)
    (G_are_linked : Fd P w K mg base k "are_linked" ["order", "items"] (spLk C)) : GnOk P w K mg base CX0 (k + 1) f fd ["order", "value"] (spRg C) := by
  refine okG F scRg (fun vs H Q E h => h.len fun _ => rfl) (fun cdv A outer s H vs Q E hc hr h => ?_)
  have hu := hu_of hr
  refine ⟨_, (pss_cons (ps_if (PW.pt (pw_or (pt_not (pt_val (pe_callB call_isi (by rfl) T.isinstance (by decide +kernel) (pa_cons (pv 1) (pa_cons (pe_bltn (v := .ty "tuple") (by rfl) T.tuple (by decide +kernel) rfl) pa_nil))))) (pw_or1 (pt_cmpR op_lt (pe_callB (call_lenK (K := K)) (by rfl) T.len (PySem.boot_len) (pa_cons (pv 1) pa_nil)) pe_int (nomark _)))))
        (pss_one (ps_ret pe_bl))
        pss_nil)
      (pss_one (ps_ret (pe_and (pe_fd G_are_linked hc (hr.mono (by omega)) (pa_cons (pv 0) (pa_cons (pe_tup (StX.pa_star (pv 1) (pa_cons (pe_ix (ix_tupK (K := K)) (pv 1) pe_int (fun _ _ => rfl)) pa_nil))) pa_nil))) (pe_one (pe_cmpR op_eq (pe_lenTexts rfl (by rfl) T.len (by rfl) T.set (pv 1)) (pe_callB (call_lenK (K := K)) (by rfl) T.len (PySem.boot_len) (pa_cons (pv 1) pa_nil)) (nomark _))))))), fn_F h fun x hx => ?_⟩
  exact sx_rg hx.2
end
end Ev

set_option Elab.async false
set_option linter.all false
set_option maxRecDepth 100000
set_option maxHeartbeats 4000000
/-! The maker of an order, its second argument any source of pairs, or the default of the def. -/
namespace Ev
open PySem PySem.Spec PyProof.Rows L2
variable [z : Tz]
section
variable {K : PySem.W.Frag} {C a : Addr} {x : ArgO}
theorem sx_oinitS (S0 : MP) (hx : OkArg x) (hi : ∀ {Γ : Gam}, Γ[2]? = some (.im S0) → EvI none (iOr (iList K (tVar 2)) (iTup K (tVar 2))) Γ 0 (· = x.qs.map mPair)) (hsort : ∀ {Γ : Gam}, Γ[2]? = some (.im S0) → Ev none (tSortSet K (tVar 2)) Γ 0 (mL ((sortP x.qs).map mPair))) (cl : Cls K C) (na : ∀ f ∈ ordF, NoAttr K C f) :
    Sx none (tSeq (tFor (iOr (iList K (tVar 2)) (iTup K (tVar 2))) (gName 3) (tFor (iTup K (tVar 3)) (gName 4) (tIfS (tNot (tB (tCall spAm [] E0 (tCons (tVar 4) (tCons (tVar 1) tNil))))) tNever tNext)))
      (tSeq (sFld K (tVar 0) (tDcP false (iList K (tCB rSortedDk (tCons (tVar 1) tNil))) (gName 4) tYes (tVar 4) (tDGet (tVar 1) (tVar 4)) [4]) "_widths")
      (tSeq (sFld K (tVar 0) (tDcP true (iList K (tSortSet K (tVar 2))) (gName 3) tYes (tVar 3) (tC (V.bl true)) [3]) "_pairs")
      (tSeq (sFld K (tVar 0) (tCall spLn [] E0 (tCons (tFld K (tVar 0) "_widths") (tCons (tFld K (tVar 0) "_pairs") tNil))) "_uppers")
      (tSeq (sFld K (tVar 0) (tCall spLn [] E0 (tCons (tFld K (tVar 0) "_widths") (tCons (tLc (iKeys (tFld K (tVar 0) "_pairs")) (gTup K 2 (gCons (gName 7) (gCons (gName 8) gNil))) tYes (tTup (tCons (tVar 8) (tCons (tVar 7) tNil))) [7, 8]) tNil))) "_lowers")
      (tSeq (tAsg (tCall spRk [] E0 (tCons (tFld K (tVar 0) "_lowers") (tCons (tFld K (tVar 0) "_uppers") tNil))) (gName 5))
      (tSeq (sFld K (tVar 0) (tCall spRb [] E0 (tCons (tFld K (tVar 0) "_lowers") (tCons (tVar 5) tNil))) "_ring")
      (tSeq (tAsg (tIf (tTest (tOp rIsN (tFld K (tVar 0) "_ring") (tC V.non))) (tVar 5) (tLst tNil)) (gName 6))
      (tSeq (sFld K (tVar 0) (tCall spWa [] E0 (tCons (tFld K (tVar 0) "_widths") (tCons (tFld K (tVar 0) "_uppers") (tCons (tRevL K (tVar 6)) tNil)))) "_up")
        (sFld K (tVar 0) (tCall spWa [] E0 (tCons (tFld K (tVar 0) "_widths") (tCons (tFld K (tVar 0) "_lowers") (tCons (tVar 6) tNil)))) "_down"))))))))))
      [.own (oOb C a []), .im x.SW, .im S0, .no, .no, .no, .no, .no, .no] 0 (initO C a (Ord.make x.ws x.qs).fs) := by
  have few := hx.few
  have fewp := hx.fewp
  have ok := Ord.make_ok hx
  have din : DIn x.SW (nmW x.ws) := by
    rcases hx.wsrc with h | h
    · rw [h]; exact din_Dk
    · rw [h]; exact din_F
  have hso : ∀ {Γ : Gam}, Γ[1]? = some (.im x.SW) → Ev none (tCB rSortedDk (tCons (tVar 1) tNil)) Γ 0 (mStrs (sortS (nmW x.ws))) := fun {Γ} e => by
    rcases hx.wsrc with h | h
    · exact Ev.mono (ev_cb (ea_cons (ev_var (S := mDk x.ws) (by rw [e, h])) ea_nil) (rc_sortedDk (by omega))) (fun G v h => mAsc_of h) (Nat.le_refl _)
    · exact Ev.mono (ev_cb (ea_cons (ev_var (S := mWts (nmW x.ws) (vlW x.ws)) (by rw [e, h])) ea_nil) (rc_sortedF (by rw [List.length_map]; omega))) (fun G v h => mAsc_of h) (Nat.le_refl _)
  have hge : ∀ {Γ : Gam} {ty : TE} {s : Str}, Γ[1]? = some (.im x.SW) → Ev none ty Γ 0 (mS s) → s ∈ nmW x.ws → Ev none (tDGet (tVar 1) ty) Γ 0 (mI (vlW x.ws s)) := fun {Γ ty s} e hy ms => by
    rcases hx.wsrc with h | h
    · exact ev_dget (c1 := 0) (c2 := 0) (ev_var (S := mDk x.ws) (by rw [e, h])) hy (look_val ms)
    · exact ev_dgetF (c1 := 0) (c2 := 0) (f := fun s => mI (vlW x.ws s)) (ev_var (S := mWts (nmW x.ws) (vlW x.ws)) (by rw [e, h])) hy ms
  have W := ok.web
  refine x_seq (c1 := 0) (fun Γ' => ∃ s3 s4, Γ' = [.own (oOb C a []), .im x.SW, .im S0, s3, s4, .no, .no, .no, .no])
    (Sx.more (sx_forL (xs := x.qs) (R := mPair) (hi rfl) 0 (fun _ Γ' => ∃ s3 s4, Γ' = [.own (oOb C a []), .im x.SW, .im S0, s3, s4, .no, .no, .no, .no]) ⟨_, _, rfl⟩ (fun pre p post Γ' hs hI => ?_) fun Γ' h => h) (by omega)) (fun Γ' hI => ?_)
  · obtain ⟨s3, s4, rfl⟩ := hI
    have mp := hx.mem p (by rw [hs]; simp)
    refine ⟨_, _, gx_name, ?_⟩
    show Sx none _ [.own (oOb C a []), .im x.SW, .im S0, .im (mPair p), s4, .no, .no, .no, .no] 0 _
    refine Sx.more (sx_forL (xs := [p.1, p.2]) (R := mS) (ei_tup (ev_var (i := 3) rfl)) 0 (fun _ Γ' => ∃ s4, Γ' = [.own (oOb C a []), .im x.SW, .im S0, .im (mPair p), s4, .no, .no, .no, .no]) ⟨_, rfl⟩ (fun pre s post Γ' hs hI => ?_) fun Γ' ⟨s4, e⟩ => ⟨_, s4, e⟩) (by simp)
    obtain ⟨s4, rfl⟩ := hI
    have ms : s ∈ nmW x.ws := by
      have : s ∈ [p.1, p.2] := by rw [hs]; simp
      simp only [List.mem_cons, List.not_mem_nil, or_false] at this
      rcases this with rfl | rfl
      · exact mp.1
      · exact mp.2
    refine ⟨_, _, gx_name, ?_⟩
    show Sx none _ [.own (oOb C a []), .im x.SW, .im S0, .im (mPair p), .im (mS s), .no, .no, .no, .no] 0 _
    refine x_if (et_not (et_BV (ev_callF (s, x.SW, nmW x.ws) (ea_cons (ev_var rfl) (ea_cons (ev_var rfl) ea_nil)) din))) (fun hT => ?_) (fun _ => x_next ⟨_, rfl⟩)
    simp [ms] at hT
  obtain ⟨s3, s4, rfl⟩ := hI
  have nd1 : (sortS (nmW x.ws)).Nodup := ok.nx
  have len1 : (sortS (nmW x.ws)).length < 64 := ok.few
  have hW : ∀ {s : Str}, s ∈ sortS (nmW x.ws) → s ∈ nmW x.ws := fun m => (sortS_perm _).mem_iff.mp m
  refine x_fld (i := 0) (c1 := 0) (S := mWts (sortS (nmW x.ws)) (vlW x.ws)) (fs := []) rfl (Ev.mono (ev_dcF (ys := sortS (nmW x.ws)) (R := mS) (kf := id) (f := fun s => mI (vlW x.ws s)) (ei_list (hso rfl)) (by omega) (by rw [List.map_id]; exact nd1) fun s ms => ⟨_, _, gx_name, (by decide), ev_var rfl, hge rfl (ev_var rfl) (hW ms)⟩) (fun G v h => by rw [List.map_id] at h; exact h) (by simp)) cl (na _ (by decide)) (by decide) rfl ?_
  refine x_fld (i := 0) (c1 := 0) (S := mDT (sortP x.qs)) (fs := [("_widths", mWts (sortS (nmW x.ws)) (vlW x.ws))]) rfl (Ev.mono (ev_dcT (ei_list (hsort rfl)) (by have := ok.fewp; show (sortP x.qs).length ≤ _; have : (sortP x.qs).length < 64 := ok.fewp; omega) ok.np fun p mp => ⟨_, _, gx_name, (by decide), ev_var rfl, ev_c⟩) (fun G v h => h) (by simp)) cl (na _ (by decide)) (by simp) rfl ?_
  exact sx_oinit2 ok cl na
end
section
variable {pn : Option Addr} {Γ : Gam} {c : Nat} {te : TE} {tr : TA} {K : PySem.W.Frag} {d0 : Addr} {Ps : List MP}
theorem ei_tup0 (h : Ev pn te Γ c (mV (.ref d0))) (t : ∀ H, SqT K H d0 []) : EvI pn (iTup K te) Γ c (· = []) := .mk fun E l R r =>
  h.run E l _ fun v G' H' n' k p ln e => ⟨d0, e, ⟨[], t H'⟩, r _ G' H' n' [] k p ln rfl ⟨fun {G H i} s k hi => absurd hi (by simp), fun {G H i x H' P} s k hP hy => by simp at hP, fun {G H i} s k hi => ⟨[], t _, by simp⟩⟩⟩
theorem ev_sort0 (h : Ev pn te Γ c (mV (.ref d0))) (t : ∀ H, SqT K H d0 []) : Ev pn (tSortSet K te) Γ c (mL []) := .mk fun {G H σ n} E l Q q =>
  h.run E l _ fun v G1 H1 n1 k1 p1 l1 e => ⟨d0, [], e, .inr (t H1), (fun p m => nomatch m), by decide, fun L p sub _ _ _ hp => by
    have eL : L = [] := by
      cases L with
      | nil => rfl
      | cons r L => exact absurd (sub r (List.mem_cons_self ..)) (by simp)
    subst eL
    have k := Stp.new (o := .lst []) k1.gh hp
    obtain ⟨k4, p4⟩ := k.pure p1
    exact q (.ref p) _ _ n1 (k1.trans0 k4) p4 l1 ⟨p, [], rfl, upd_same, trivial⟩⟩
abbrev ord0 : Ord := Ord.make [] []
/-- the maker of an order without items, the default standing for the pairs -/
noncomputable abbrev spOI0 (C d0 : Addr) : Sp := SpI (α := Unit) C (fun _ => [mDk [], mV (.ref d0)]) (fun _ => True) (fun _ => ord0.fs)
def tApp (t : TA) (dvs : List V) : TA := fun σ H Q => t σ H fun vs H1 => Q (vs ++ dvs) H1
theorem ea_app {dvs : List V} (h : EvA pn tr Γ c Ps) : EvA pn (tApp tr dvs) Γ c (Ps ++ dvs.map mV) := .mk fun {G H σ n} E l Q q =>
  h.run E l _ fun vs G1 H1 n1 k1 p1 l1 zz => q (vs ++ dvs) G1 H1 n1 k1 p1 l1 (zz.app (by
    clear h q zz
    induction dvs with
    | nil => trivial
    | cons v vs ih => exact ⟨rfl, ih⟩))
theorem make_app {C : Addr} {sp : Sp} {dvs : List V} {E : XK} {t : TA} : tMake C sp dvs E t = tMake C sp [] E (tApp t dvs) := by
  funext σ H Q
  unfold tMake tApp
  simp only [List.append_nil]
theorem ev_makeD {α : Type} {C : Addr} {ar : α → List MP} {pre : α → Prop} {fs : α → List (Str × MP)} {E : XK} {dvs : List V} (x : α) (ha : EvA pn tr Γ c Ps) (har : ar x = Ps ++ dvs.map mV) (hp : pre x) : Ev pn (tMake C (SpI C ar pre fs) dvs E tr) Γ c (mOb C (fs x)) := by
  rw [make_app]
  exact ev_make x (by rw [har]; exact ea_app ha) hp
end
section
variable {K : PySem.W.Frag} {C a d0 : Addr}
theorem sortP_nil : sortP [] = [] := List.eq_nil_of_length_eq_zero (Nat.le_zero.mp (length_sortP []))
def sx_oinit0 (t : ∀ H, SqT K H d0 []) (cl : Cls K C) (na : ∀ f ∈ ordF, NoAttr K C f) := sx_oinitS (K := K) (C := C) (a := a) (x := ⟨[], [], mDk [], mL []⟩) (mV (.ref d0)) ⟨.inl rfl, .inl rfl, List.nodup_nil, by decide, by decide, fun p m => nomatch m⟩ (fun e => ei_or2 (ei_tup0 (ev_var e) t)) (fun e => by show Ev _ _ _ _ (mL ((sortP []).map mPair)); rw [sortP_nil]; exact ev_sort0 (ev_var e) t) cl na
structure McD (P : Program) (w : World) (K : PySem.W.Frag) (mg : Str → Option Value) (base : Heap) (k : Nat) (x : Str) (C : Addr) (ps : List Str) (dvs : List V) (sp : Sp) : Prop where
  ex : ∃ f fd ds, mg x = some (.ref C) ∧ Mk K C f ∧ Binds K fd ps ds ∧ Vals dvs ds ∧ GnOk P w K mg base CX0 k f fd ps sp
theorem pe_mcD {X : Cx} {k : Nat} {x : Str} {C : Addr} {ps : List Str} {dvs : List V} {sp : Sp} {e : Expr} {es : List Expr} {t : TA} {p pos : Pos} (G : McD X.prog X.w X.K X.mg X.base k x C ps dvs sp) (hc : Calm X.A) (hr : Room (k + 1) X.A) (ha : PA X (e :: es) t)
    (hg : Gl X x := by rfl) (hdb : (x == ("__debug__" : Str)) = false := by decide)
    (he : starEach (e :: es) X.env = (false, eval e X.env) :: starEach es X.env := by rfl) (hpl : (backTo pos (starEach es X.env)).any (·.1) = false := by rfl) :
    PE X (.Call (.Name x p) (e :: es) [] pos) (tMake C sp dvs E0 t) := by
  obtain ⟨f, fd, ds, h1, h2, h3, h4, h5⟩ := G.ex
  exact pe_makeG h2 h5 hc hr hg h1 h3 h4 pass0 ha hdb he hpl
end
end Ev

set_option Elab.async false
set_option linter.all false
set_option maxRecDepth 100000
set_option maxHeartbeats 4000000
namespace Ev
open PySem PySem.Spec L2
variable [z : Tz]
section
variable {P : Program} {w : World} {K : PySem.W.Frag} {mg : Str → Option Value} {base : Heap}

theorem ok_init0 {f : Addr} {fd : FuncData} {k : Nat} {dvs : List V} (F : FunD K "__init__" "Order.__init__" (defArgs sO_init) (defBody sO_init) (defScope sO_init) dvs [] f fd) (T : Bo mg) (C d0 : Addr) (t0 : ∀ H, SqT K H d0 []) (cl : Cls K C) (na : ∀ f ∈ ordF, NoAttr K C f)
    (G_is_among : Fd P w K mg base k "is_among" ["value", "widths"] spAm) (G_links_of : Fd P w K mg base k "links_of" ["items", "pairs"] spLn) (G_ranked : Fd P w K mg base k "ranked" ["lowers", "uppers"] spRk)
    (G_ring_beside : Fd P w K mg base k "ring_beside" ["lowers", "ranks"] spRb) (G_weights_along : Fd P w K mg base k "weights_along" ["widths", "links", "row"] spWa) :
    GnOk P w K mg base CX0 (k + 1) f fd ["self", "widths", "pairs"] (spOI0 C d0) := by
  refine okGD F scO_init (fun vs H Q E h => h.len fun _ => rfl) (fun cdv A outer s H vs Q E hc hr h => ?_)
  have hu := hu_of hr
  exact ⟨_, (pss_cons (ps_for PassesOwn.never rfl (pi_or (pi_list (pv 2)) (pi_tup (pv 2))) (pg_name (i := 3) scO_init.nd rfl (.inl rfl))
        (pss_one (ps_for PassesOwn.never rfl (pi_tup (pv 3)) (pg_name (i := 4) scO_init.nd rfl (.inl rfl))
        (pss_one (ps_if (pt_not (pt_val (pe_fd G_is_among hc (hr.mono (by omega)) (pa_cons (pv 4) (pa_cons (pv 1) pa_nil)))))
        (pss_one ps_never)
        pss_nil)))))
      (pss_cons (ps_fld (pv 0) (pe_dcP (b := false) (own := [("item", 4)]) hr.units rfl scO_init.nd (pi_list (pe_callB (call_sortedD rfl) (by rfl) T.sorted (by decide +kernel) (pa_cons (pv 1) pa_nil))) (blkOk_by (N := ["self", "widths", "pairs", "pair", "item", "ranks", "row", "lower", "upper"]) (sc := defScope sO_init) (by decide +kernel)) (fun _ _ _ _ _ => (pg_name (i := 4) scO_init.nd rfl (.inl rfl))) (fun _ _ _ _ _ => pts_nil) (fun _ _ _ _ _ => (pv 4)) (fun _ _ _ _ _ => (pe_dget hu (pv 1) (pv 4) (fun _ _ => rfl)))) rfl)
      (pss_cons (ps_fld (pv 0) (pe_dcP (b := true) (own := [("pair", 3)]) hr.units rfl scO_init.nd (pi_list (pe_sortSet rfl hr.units (by rfl) T.sorted (by rfl) T.set (pv 2))) (blkOk_by (N := ["self", "widths", "pairs", "pair", "item", "ranks", "row", "lower", "upper"]) (sc := defScope sO_init) (by decide +kernel)) (fun _ _ _ _ _ => (pg_name (i := 3) scO_init.nd rfl (.inl rfl))) (fun _ _ _ _ _ => pts_nil) (fun _ _ _ _ _ => (pv 3)) (fun _ _ _ _ _ => pe_bl)) rfl)
      (pss_cons (ps_fld (pv 0) (pe_fd G_links_of hc (hr.mono (by omega)) (pa_cons (pe_fld (pv 0) rfl) (pa_cons (pe_fld (pv 0) rfl) pa_nil))) rfl)
      (pss_cons (ps_fld (pv 0) (pe_fd G_links_of hc (hr.mono (by omega)) (pa_cons (pe_fld (pv 0) rfl) (pa_cons (pe_lc (own := [("lower", 7), ("upper", 8)]) rfl scO_init.nd (pi_keys (pe_fld (pv 0) rfl)) (blkOk_by (N := ["self", "widths", "pairs", "pair", "item", "ranks", "row", "lower", "upper"]) (sc := defScope sO_init) (by decide +kernel)) (fun _ _ _ _ _ => (pg_tupK (K := K) (n := 2) rfl rfl rfl (pgs_cons (pg_name (i := 7) scO_init.nd rfl (.inl rfl)) (pgs_cons (pg_name (i := 8) scO_init.nd rfl (.inl rfl)) pgs_nil)))) (fun _ _ _ _ _ => pts_nil) (fun _ _ _ _ _ => (pe_tup (pa_cons (pv 8) (pa_cons (pv 7) pa_nil))))) pa_nil))) rfl)
      (pss_cons (ps_set (i := 5) scO_init.nd rfl (.inl rfl) (pe_fd G_ranked hc (hr.mono (by omega)) (pa_cons (pe_fld (pv 0) rfl) (pa_cons (pe_fld (pv 0) rfl) pa_nil))))
      (pss_cons (ps_fld (pv 0) (pe_fd G_ring_beside hc (hr.mono (by omega)) (pa_cons (pe_fld (pv 0) rfl) (pa_cons (pv 5) pa_nil))) rfl)
      (pss_cons (ps_set (i := 6) scO_init.nd rfl (.inl rfl) (pe_ifExp (pt_cmpR op_isN1 (pe_fld (pv 0) rfl) pe_non (nomark _)) (pv 5) (pe_lst pa_nil)))
      (pss_cons (ps_fld (pv 0) (pe_fd G_weights_along hc (hr.mono (by omega)) (pa_cons (pe_fld (pv 0) rfl) (pa_cons (pe_fld (pv 0) rfl) (pa_cons (pe_revL (pv 6)) pa_nil)))) rfl)
      (pss_one (ps_fld (pv 0) (pe_fd G_weights_along hc (hr.mono (by omega)) (pa_cons (pe_fld (pv 0) rfl) (pa_cons (pe_fld (pv 0) rfl) (pa_cons (pv 6) pa_nil)))) rfl))))))))))), fn_init h fun x a hx => sx_oinit0 t0 cl na⟩
end
end Ev

set_option Elab.async false
set_option linter.all false
set_option maxRecDepth 100000
set_option maxHeartbeats 4000000
/-! xs != [], whatever stands in it; pairs of texts in lists of such; an item of one's own list. -/
namespace Ev
open PySem PySem.Spec PyProof.Rows L2
variable [z : Tz]
def rNeEL (K : PySem.W.Frag) : R2 := fun x y H Q => ∃ (a b : Addr) (vs : List V), x = .ref a ∧ y = .ref b ∧ SqL K H a vs ∧ SqL K H b [] ∧ Q (.bl (!vs.isEmpty)) H
section
variable {X : Cx} {K : PySem.W.Frag}
theorem op_neEL (hu : X.A.units + 64 < cLine) (hK : X.K = K := by rfl) : OpR X (compareOp .NotEq) (rNeEL K) := by
  subst hK
  intro pins s σ H x y v u Q I rx ry h
  obtain ⟨a, b, vs, rfl, rfl, ha, hb, q⟩ := h
  obtain rfl : v = Value.ref a := rx
  obtain rfl : u = Value.ref b := ry
  obtain ⟨its, rv, p1, _⟩ := I.list ha
  obtain ⟨its2, rv2, p2, _⟩ := I.list hb
  cases rv2
  have l := rv.length
  have hu1 : X.A.units < cLine := by omega
  cases vs with
  | nil =>
    cases its with
    | nil =>
      have k := SeqAt.RcNeAt.lists (A := X.A) (e := fun _ => true) p1.isList p2.isList rfl hu1 (fun j h1 h2 => absurd h2 (by simp))
      exact k X.prog X.w _ _ ⟨.bl false, H, I, rfl, q⟩
    | cons _ _ => cases l
  | cons w ws =>
    cases its with
    | nil => cases l
    | cons y ys =>
      have k := SeqAt.RcNeAt.lists_lengths (A := X.A) p1.isList p2.isList (by simp) hu1
      exact k X.prog X.w _ _ ⟨.bl true, H, I, rfl, q⟩
theorem op_inDK (hu : X.A.units + 70 < cLine) (h : X.K = K := by rfl) : OpR X (compareOp .In) (rInD K) := h ▸ op_inD (by omega)
theorem op_notInDK (hu : X.A.units + 70 < cLine) (h : X.K = K := by rfl) : OpR X (compareOp .NotIn) (rNotInD K) := h ▸ op_notInD (by omega)
end
section
variable {pn : Option Addr} {Γ : Gam} {c c1 c2 : Nat} {te : TE} {K : PySem.W.Frag} {Ps : List MP}
theorem rv_neEL : RV (rNeEL K) (mL Ps) (mL []) (mV (.bl (!Ps.isEmpty))) := .mk fun {G H x y} e h1 h2 Q q => by
  obtain ⟨a, vs, rfl, ha, z1⟩ := h1
  obtain ⟨b, ws, rfl, hb, z2⟩ := h2
  have e2 : ws = [] := by cases ws with
    | nil => rfl
    | cons _ _ => exact z2.elim
  subst e2
  refine ⟨a, b, vs, rfl, rfl, SqL.of (e.x ha), SqL.of (e.x hb), q _ G H (.refl e) ?_⟩
  show _ = _
  cases vs with
  | nil => cases Ps with
    | nil => rfl
    | cons _ _ => exact z1.elim
  | cons _ _ => cases Ps with
    | nil => exact z1.elim
    | cons _ _ => rfl
abbrev dP (p : Str × Str) : PyData := .tuple [.str p.1, .str p.2]
def okP (p : Str × Str) : Prop := PyData.strOk p.1 = true ∧ PyData.strOk p.2 = true
theorem any_pairs (ts : List (Str × Str)) (p : Str × Str) : ((ts.map dP).any fun z => PyData.eqv z (dP p)) = decide (p ∈ ts) := by
  induction ts with
  | nil => rfl
  | cons t ts ih =>
    rw [List.map_cons, List.any_cons, ih]
    by_cases e : p = t
    · subst e; simp [PyData.eqv, PyData.eqvAll]
    · have : PyData.eqv (dP t) (dP p) = false := by
        cases h : PyData.eqv (dP t) (dP p) with
        | false => rfl
        | true =>
          simp only [dP, PyData.eqv, PyData.eqvAll, Bool.and_eq_true, Bool.and_true, beq_iff_eq] at h
          exact absurd (Prod.ext h.1.symm h.2.symm) e
      rw [this]
      simp [e]
theorem sh_pair {p : Str × Str} (h : okP p) : SeqAt.shaped (dP p) = true := by
  have : PyData.canLay0 (dP p) = true := by simp [PyData.canLay0, PyData.canLayAll0, h.1, h.2]
  simp only [SeqAt.shaped, this, Bool.true_and]
  exact decide_eq_true (by simp [PyData.depth, PyData.depthAll])
theorem rv_inPs {ts : List (Str × Str)} {p : Str × Str} (hp : okP p) (ht : ∀ t ∈ ts, okP t) : RV (rInD K) (mPair p) (mTold ts) (mV (.bl (decide (p ∈ ts)))) := .mk fun {G H x y} e h1 h2 Q q => by
  refine ⟨_, _, hd_pair p e h1, hd_lst (hds_map hd_pair ts) e h2, sh_pair hp, sh_pairs ht, ?_⟩
  rw [show (List.map (fun p : Str × Str => PyData.tuple [PyData.str p.fst, PyData.str p.snd]) ts) = ts.map dP from rfl, show PyData.tuple [PyData.str p.1, PyData.str p.2] = dP p from rfl, any_pairs]
  exact q _ G H (.refl e) rfl
theorem rv_notInPs {ts : List (Str × Str)} {p : Str × Str} (hp : okP p) (ht : ∀ t ∈ ts, okP t) : RV (rNotInD K) (mPair p) (mTold ts) (mV (.bl (!decide (p ∈ ts)))) := .mk fun {G H x y} e h1 h2 Q q => by
  refine ⟨_, _, hd_pair p e h1, hd_lst (hds_map hd_pair ts) e h2, sh_pair hp, sh_pairs ht, ?_⟩
  rw [show (List.map (fun p : Str × Str => PyData.tuple [PyData.str p.fst, PyData.str p.snd]) ts) = ts.map dP from rfl, show PyData.tuple [PyData.str p.1, PyData.str p.2] = dP p from rfl, any_pairs]
  exact q _ G H (.refl e) rfl
end
end Ev

set_option Elab.async false
set_option linter.all false
set_option maxRecDepth 100000
set_option maxHeartbeats 4000000
/-! What the law says of chains and rings. -/
namespace Ev
open PySem PySem.Spec PyProof.Rows L2
variable [z : Tz]
structure ArgL where
  d : PyData
  ss : List Str
  f : Str → Int
  ts : List (Str × Str)
structure OkL (x : ArgL) : Prop where
  few : lenD x.d ≤ 500
  nd : x.ss.Nodup
  fews : x.ss.length < 60
  fewt : x.ts.length < 60
  str : ∀ s ∈ x.ss, PyData.strOk s = true
  mem : ∀ p ∈ x.ts, p.1 ∈ x.ss ∧ p.2 ∈ x.ss
  bd : ∀ s ∈ x.ss, 1 ≤ x.f s ∧ x.f s ≤ 128
  okd : okK x.d = true
  shd : x.d.showable = true
  dpt : x.d.depth ≤ 64
  len : x.d.shown.length ≤ 100000
/-- the law's weight -/
def wtL (x : ArgL) : Option Int := match x.d with
  | .tuple ds => if ds.isEmpty = false ∧ ds.all (inS x.ss) = true ∧ lnk x.ts ds = true then some ((ds.map fun d => x.f (keyS d)).sum) else none
  | _ => none
def rgL (x : ArgL) : Bool := rgC x.ts x.d
abbrev arL (x : ArgL) : List MP := [mDat x.d, mWts x.ss x.f, mTold x.ts]
abbrev spLw : Sp := SpF arL OkL (fun x => mO (wtL x))
abbrev spLr : Sp := SpF arL OkL (fun x => mV (.bl (rgL x)))
noncomputable abbrev spLi (C : Addr) : Sp := SpF (α := ArgL) (fun x => mOrd C (Ord.make (x.ss.map fun s => (s, x.f s)) x.ts) :: arL x) OkL (fun _ => mV (.bl true))
abbrev ofL (x : ArgL) : List (Str × Int) := x.ss.map fun s => (s, x.f s)
theorem nm_ofL (x : ArgL) : nmW (ofL x) = x.ss := by
  show (x.ss.map fun s => (s, x.f s)).map (·.1) = x.ss
  rw [List.map_map]
  exact List.map_id' _
theorem look_pairs {f : Str → Int} {s : Str} : ∀ {ss : List Str}, s ∈ ss → look (ss.map fun s => (s, f s)) s = some (f s)
  | t :: ss, m => by
    unfold look
    by_cases e : t = s
    · subst e; simp [List.find?_cons]
    · have m' : s ∈ ss := (List.mem_cons.mp m).elim (fun z => absurd z.symm e) id
      have ih := look_pairs (f := f) m'
      unfold look at ih
      simp only [List.map_cons, List.find?_cons, e, decide_false]
      exact ih
theorem vl_ofL {x : ArgL} {s : Str} (h : s ∈ x.ss) : vlW (ofL x) s = x.f s := by
  unfold vlW
  rw [look_pairs h]
  rfl
theorem lnk_congr {ps qs : List (Str × Str)} (h : ∀ p, p ∈ ps ↔ p ∈ qs) (ds : List PyData) : lnk ps ds = lnk qs ds := by
  have : ∀ a b, inP ps a b = inP qs a b := fun a b => by
    cases a <;> cases b <;> first | rfl | skip
    show decide _ = decide _
    exact decide_eq_decide.mpr (h _)
  unfold lnk
  congr 1
  exact List.map_congr_left fun p _ => this _ _
theorem inS_congr {xs ys : List Str} (h : ∀ s, s ∈ xs ↔ s ∈ ys) (d : PyData) : inS xs d = inS ys d := by
  cases d <;> first | rfl | skip
  exact decide_eq_decide.mpr (h _)
theorem all_inS {xs : List Str} : ∀ {ds : List PyData}, ds.all (inS xs) = true ↔ ∃ us : List Str, ds = us.map PyData.str ∧ ∀ u ∈ us, u ∈ xs
  | [] => ⟨fun _ => ⟨[], rfl, fun _ m => nomatch m⟩, fun _ => rfl⟩
  | d :: ds => by
    rw [List.all_cons, Bool.and_eq_true, all_inS (ds := ds)]
    constructor
    · rintro ⟨h, us, rfl, k⟩
      cases d <;> first | cases h | skip
      refine ⟨_ :: us, rfl, fun u m => ?_⟩
      rcases List.mem_cons.mp m with rfl | m
      · exact of_decide_eq_true h
      · exact k u m
    · rintro ⟨us, e, k⟩
      cases us with
      | nil => cases e
      | cons u us =>
        injection e with e1 e2
        subst e1
        exact ⟨decide_eq_true (k u (List.mem_cons_self ..)), us, e2, fun v m => k v (List.mem_cons_of_mem _ m)⟩
section
variable {x : ArgL}
theorem OkL.arg (h : OkL x) : OkArg ⟨ofL x, x.ts, mWts (nmW (ofL x)) (vlW (ofL x)), mTold x.ts⟩ :=
  ⟨.inr rfl, .inl rfl, by rw [nm_ofL]; exact h.nd, by show (List.map _ _).length < 60; rw [List.length_map]; exact h.fews, h.fewt, fun p m => by rw [nm_ofL]; exact h.mem p m⟩
theorem OkL.ok (h : OkL x) : (Ord.make (ofL x) x.ts).Ok := Ord.make_ok h.arg
theorem make_xs (s : Str) : s ∈ (Ord.make (ofL x) x.ts).xs ↔ s ∈ x.ss := by
  show s ∈ sortS (nmW (ofL x)) ↔ _
  rw [(sortS_perm _).mem_iff, nm_ofL]
theorem make_ps (p : Str × Str) : p ∈ (Ord.make (ofL x) x.ts).ps ↔ p ∈ x.ts := mem_sortP
theorem wt_eq (h : OkL x) : wtC (Ord.make (ofL x) x.ts) x.d = wtL x := by
  obtain ⟨d, ss, f, ts⟩ := x
  cases d <;> first | rfl | skip
  rename_i ds
  show (if _ then _ else _) = if _ then _ else _
  have key : (ds.isEmpty = false ∧ lnk (Ord.make (ofL ⟨.tuple ds, ss, f, ts⟩) ts).ps ds = true ∧ inS (Ord.make (ofL ⟨.tuple ds, ss, f, ts⟩) ts).xs (ds.headD .none) = true) ↔ (ds.isEmpty = false ∧ ds.all (inS ss) = true ∧ lnk ts ds = true) := by
    rw [lnk_congr (fun p => make_ps (x := ⟨.tuple ds, ss, f, ts⟩) p), inS_congr (fun s => make_xs (x := ⟨.tuple ds, ss, f, ts⟩) s)]
    cases ds with
    | nil => constructor <;> (rintro ⟨q, _⟩; cases q)
    | cons a r =>
      constructor
      · rintro ⟨h1, h2, h3⟩
        exact ⟨h1, all_inS.mpr (lnk_all h.mem h2 h3), h2⟩
      · rintro ⟨h1, h2, h3⟩
        rw [List.all_cons, Bool.and_eq_true] at h2
        exact ⟨h1, h3, h2.1⟩
  by_cases c : (ds.isEmpty = false ∧ ds.all (inS ss) = true ∧ lnk ts ds = true)
  · rw [if_pos (key.mpr c), if_pos c]
    obtain ⟨us, rfl, k⟩ := all_inS.mp c.2.1
    congr 2
    rw [List.map_map, List.map_map]
    exact List.map_congr_left fun u m => vl_ofL (x := ⟨.tuple _, ss, f, ts⟩) (k u m)
  · rw [if_neg fun y => c (key.mp y), if_neg c]
theorem rg_eq : rgC (Ord.make (ofL x) x.ts).ps x.d = rgL x := by
  obtain ⟨d, ss, f, ts⟩ := x
  unfold rgL
  cases d <;> first | rfl | skip
  rename_i ds
  rw [rgC_tup, rgC_tup, lnk_congr (fun p => make_ps (x := ⟨.tuple ds, ss, f, ts⟩) p)]
end
/-- the pairs of neighbours -/
def nbr (us : List Str) : List (Str × Str) := us.zip (us.drop 1)
theorem lnk_us {ts : List (Str × Str)} (us : List Str) : lnk ts (us.map PyData.str) = ((nbr us).filter fun p => !decide (p ∈ ts)).isEmpty := by
  unfold lnk nbr
  rw [← List.map_drop, List.zip_map, List.map_map, Bool.eq_iff_iff, List.isEmpty_iff, List.filter_eq_nil_iff, List.all_eq_true]
  constructor
  · intro h p m
    have := h _ (List.mem_map_of_mem m)
    have : decide ((p.1, p.2) ∈ ts) = true := this
    rw [show (p.1, p.2) = p from rfl] at this
    simp [of_decide_eq_true this]
  · intro h b mb
    obtain ⟨p, mp, rfl⟩ := List.mem_map.mp mb
    have := h p mp
    show decide ((p.1, p.2) ∈ ts) = true
    rw [show (p.1, p.2) = p from rfl]
    simpa using this
theorem lnk_last {ts : List (Str × Str)} {u : Str} {h : PyData} : ∀ us : List Str, lnk ts ((us ++ [u]).map PyData.str ++ [h]) = (lnk ts ((us ++ [u]).map PyData.str) && inP ts (.str u) h)
  | [] => by
    show lnk ts (.str u :: h :: []) = _
    rw [lnk_cons]
    show (_ && true) = (true && _)
    rw [Bool.and_true, Bool.true_and]
  | a :: us => by
    obtain ⟨b, r, e⟩ : ∃ b r, us ++ [u] = b :: r := by
      cases us with
      | nil => exact ⟨_, _, rfl⟩
      | cons b r => exact ⟨_, _, rfl⟩
    have ih := lnk_last (ts := ts) (u := u) (h := h) us
    rw [List.cons_append, e, List.map_cons, List.map_cons, List.cons_append, List.cons_append, lnk_cons, lnk_cons, Bool.and_assoc]
    rw [e, List.map_cons, List.cons_append] at ih
    rw [ih]
end Ev

set_option Elab.async false
set_option linter.all false
set_option maxRecDepth 100000
set_option maxHeartbeats 4000000
/-! The law's own look at chains and rings. -/
namespace Ev
open PySem PySem.Spec PyProof.Rows L2
variable [z : Tz]
section
variable {K : PySem.W.Frag} {C : Addr} {x : ArgL}
theorem filt_all {ss : List Str} (ds : List PyData) : (((ds.filter fun d => !inS ss d).map id).map mDat).isEmpty = ds.all (inS ss) := by
  rw [List.isEmpty_map, List.isEmpty_map, Bool.eq_iff_iff, List.isEmpty_iff, List.filter_eq_nil_iff, List.all_eq_true]
  exact ⟨fun h d m => by have := h d m; simpa using this, fun h d m => by simp [h d m]⟩
/-- not a text, or not among these -/
theorem et_notS {pn : Option Addr} {Γ : Gam} {i j : Nat} {d : PyData} {ss : List Str} {f : Str → Int} (hi : Γ[i]? = some (.im (mDat d))) (hj : Γ[j]? = some (.im (mWts ss f))) :
    EvT pn (tOr (tNot (tB (tCB (rIsi K) (tCons (tVar i) (tCons (tC (.ty "str")) tNil))))) (tB (tDNotIn (tVar i) (tVar j)))) Γ 0 (· = !inS ss d) := by
  cases hs : isStrD d with
  | false =>
    refine EvT.mono (et_orT (P := fun b => (!b) = isStrD d) (et_not (et_BV (ev_cb (ea_cons (ev_var hi) (ea_cons ev_c ea_nil)) rc_isStr))) fun h => ?_) (fun b h => ?_)
    · rw [hs] at h; cases h
    · rw [h]
      cases d <;> first | rfl | cases hs
  | true =>
    obtain ⟨t, rfl⟩ := isStrD_of hs
    refine EvT.mono (et_or (et_not (et_BV (ev_cb (ea_cons (ev_var hi) (ea_cons ev_c ea_nil)) rc_isStr))) fun _ => et_BV (ev_notInF (ev_var (S := mS t) (by rw [hi]; simp only [mDat])) (ev_var hj))) (fun b h => ?_) (Nat.le_refl _)
    rcases h with ⟨rfl, h | ⟨_, h⟩⟩ | ⟨rfl, _, h⟩
    · cases h
    · exact h
    · exact h
theorem ei_nbr {pn : Option Addr} {Γ : Gam} {us : List Str} (h : Ev pn (tVar 0) Γ 0 (mT (us.map mS))) : EvI pn (RZ.iZipA K (tCons (tVar 0) (tCons (tSl (rSlA K) (tVar 0) (tPart (tC (.int 1))) tNoPart) tNil))) Γ 0 (· = (nbr us).map mPair) := by
  have k := ei_zipT (K := K) (ea_cons h (ea_cons (ev_slT (K := K) h (eo_some (ev_c (v := .int 1))) eo_none) ea_nil))
  rw [show (1 : Int) = ((1 : Nat) : Int) from rfl, cutA_drop, ← List.map_drop] at k
  have e : zipPs (us.map mS) ((us.drop 1).map mS) = (nbr us).map mPair := by
    unfold zipPs nbr
    rw [List.zipWith_map, List.zip, List.map_zipWith]
    rfl
  rw [e] at k
  exact k
theorem nbr_mem {us : List Str} {p : Str × Str} (h : p ∈ nbr us) : p.1 ∈ us ∧ p.2 ∈ us := by
  obtain ⟨h1, h2⟩ := List.of_mem_zip (show (p.1, p.2) ∈ us.zip (us.drop 1) from h)
  exact ⟨h1, List.mem_of_mem_drop h2⟩
theorem nbr_len (us : List Str) : (nbr us).length ≤ us.length := by
  unfold nbr
  rw [List.length_zip]
  omega
theorem wtL_no (h : isTupD x.d = false) : wtL x = none := by
  obtain ⟨d, ss, f, ts⟩ := x
  cases d <;> first | rfl | cases h
theorem tupD_of {d : PyData} (h : isTupD d = true) : ∃ ds, d = .tuple ds := by cases d <;> first | exact ⟨_, rfl⟩ | cases h
theorem wtL_tup {ds : List PyData} {ss : List Str} {f : Str → Int} {ts : List (Str × Str)} : wtL ⟨.tuple ds, ss, f, ts⟩ = if ds.isEmpty = false ∧ ds.all (inS ss) = true ∧ lnk ts ds = true then some ((ds.map fun d => f (keyS d)).sum) else none := rfl
theorem sx_lw (ok : OkL x) :
    Sx none (tSeq (tIfS (tOr (tNot (tB (tCB (rIsi K) (tCons (tVar 0) (tCons (tC (.ty "tuple")) tNil))))) (tTest (tOp (rEmpT K) (tVar 0) (tTup tNil)))) (tRet (tC .non)) tNext)
      (tSeq (tIfS (tTest (tOp (rNeEL K) (tLc (iTup K (tVar 0)) (gName 3) (tOr (tNot (tB (tCB (rIsi K) (tCons (tVar 3) (tCons (tC (.ty "str")) tNil))))) (tB (tDNotIn (tVar 3) (tVar 1)))) (tVar 3) [3]) (tLst tNil))) (tRet (tC .non)) tNext)
      (tSeq (tIfS (tTest (tOp (rNeEL K) (tLc (RZ.iZipA K (tCons (tVar 0) (tCons (tSl (rSlA K) (tVar 0) (tPart (tC (.int 1))) tNoPart) tNil))) (gName 4) (tTest (tOp (rNotInD K) (tVar 4) (tVar 2))) (tVar 4) [4]) (tLst tNil))) (tRet (tC .non)) tNext)
        (tRet (tCB (rSum K) (tCons (tLc (iTup K (tVar 0)) (gName 3) tYes (tDGet (tVar 1) (tVar 3)) [3]) tNil))))))
      [.im (mDat x.d), .im (mWts x.ss x.f), .im (mTold x.ts), .no, .no] 0 (endO (mO (wtL x))) := by
  obtain ⟨d, ss, f, ts⟩ := x
  by_cases ht : isTupD d = true
  · obtain ⟨ds, rfl⟩ := tupD_of ht
    have few : ds.length ≤ 500 := ok.few
    refine x_guard (c2 := 0) (c3 := 0) (et_or (et_not (et_BV (ev_cb (ea_cons (ev_var (i := 0) rfl) (ea_cons ev_c ea_nil)) (rc_isTup (d := .tuple ds))))) fun _ => et_testV (ev_op (ev_dt (i := 0) rfl) (ev_tup ea_nil) rv_empT)) (fun hT => ?_) (fun hF => ?_)
    · have hn : wtL ⟨.tuple ds, ss, f, ts⟩ = none := by
        rw [wtL_tup, if_neg]
        rintro ⟨h1, _, _⟩
        rcases hT with ⟨_, h | ⟨_, h⟩⟩ | ⟨h, _⟩
        · cases h
        · rw [List.isEmpty_map] at h
          rw [← h] at h1; cases h1
        · cases h
      rw [hn]
      exact x_ret (c1 := 0) ev_c
    · have h1 : ds.isEmpty = false := by
        rcases hF with ⟨h, _⟩ | ⟨_, _, h⟩
        · cases h
        · rw [List.isEmpty_map] at h; exact h.symm
      refine x_guard (c1 := 0) (c2 := 0) (c3 := 0) (EvT.mono (et_testV (ev_op (ev_of_en1 (en_lcL (xs := ds) (R := mDat) (R' := mDat) (f := id) (b := fun d => !inS ss d) (ct := 0) (ce := 0) (ei_tup (ev_dt (i := 0) rfl)) (by omega) fun d _ => ⟨_, _, gx_name, by decide, et_notS (i := 3) (j := 1) rfl rfl, fun _ => ev_var (i := 3) rfl⟩)) (ev_lst ea_nil) rv_neEL)) (fun b h => h) (by simp)) (fun hT => ?_) (fun hF => ?_)
      · rw [filt_all] at hT
        have hn : wtL ⟨.tuple ds, ss, f, ts⟩ = none := by
          rw [wtL_tup, if_neg]
          rintro ⟨_, h2, _⟩
          rw [h2] at hT; cases hT
        rw [hn]
        exact x_ret (c1 := 0) ev_c
      · rw [filt_all] at hF
        have h2 : ds.all (inS ss) = true := by
          cases h : ds.all (inS ss) with
          | true => rfl
          | false => rw [h] at hF; cases hF
        obtain ⟨us, rfl, ms⟩ := all_inS.mp h2
        have few : us.length ≤ 500 := by rw [List.length_map] at few; exact few
        have hv : ∀ {Γ : Gam}, Γ[0]? = some (.im (mDat (.tuple (us.map PyData.str)))) → Ev none (tVar 0) Γ 0 (mT (us.map mS)) := fun {Γ} e => by
          rw [← map_str]
          exact ev_dt e
        have okp : ∀ p ∈ ts, okP p := fun p m => ⟨ok.str _ (ok.mem p m).1, ok.str _ (ok.mem p m).2⟩
        have nl := nbr_len us
        refine x_guard (c1 := 0) (c2 := 0) (c3 := 0) (EvT.mono (et_testV (ev_op (ev_of_en1 (en_lcL (xs := nbr us) (R := mPair) (R' := mPair) (f := id) (b := fun p => !decide (p ∈ ts)) (ct := 0) (ce := 0) (ei_nbr (hv rfl)) (by omega) fun p mp => ⟨_, _, gx_name, by decide, et_testV (ev_op (ev_var (i := 4) rfl) (ev_var (i := 2) rfl) (rv_notInPs ⟨ok.str _ (ms _ (nbr_mem mp).1), ok.str _ (ms _ (nbr_mem mp).2)⟩ okp)), fun _ => ev_var (i := 4) rfl⟩)) (ev_lst ea_nil) rv_neEL)) (fun b h => h) (by simp)) (fun hT => ?_) (fun hF => ?_)
        · rw [List.isEmpty_map, List.isEmpty_map, ← lnk_us] at hT
          have hn : wtL ⟨.tuple (us.map PyData.str), ss, f, ts⟩ = none := by
            rw [wtL_tup, if_neg]
            rintro ⟨_, _, h3⟩
            rw [h3] at hT; cases hT
          rw [hn]
          exact x_ret (c1 := 0) ev_c
        · rw [List.isEmpty_map, List.isEmpty_map, ← lnk_us] at hF
          have h3 : lnk ts (us.map PyData.str) = true := by
            cases h : lnk ts (us.map PyData.str) with
            | true => rfl
            | false => rw [h] at hF; cases hF
          have hw : wtL ⟨.tuple (us.map PyData.str), ss, f, ts⟩ = some ((us.map f).sum) := by
            rw [wtL_tup, if_pos ⟨h1, h2, h3⟩, List.map_map]
            rfl
          rw [hw]
          exact x_ret (c1 := 0) (Ev.mono (ev_cb (ea_cons (ev_of_en1 (en_lcM (xs := us) (R := mS) (f := f) (R' := mI) (ce := 0) (ei_tup (hv rfl)) (by omega) fun s m => ⟨_, _, gx_name, by decide, ev_dgetF (f := fun s => mI (f s)) (ev_var (i := 1) rfl) (ev_var (i := 3) rfl) (ms s m)⟩)) ea_nil) rc_sum) (fun G v h => h) (by simp))
  · have ht : isTupD d = false := by cases h : isTupD d with
      | true => exact absurd h ht
      | false => rfl
    rw [wtL_no (x := ⟨d, ss, f, ts⟩) ht]
    refine x_guard (c1 := 0) (c2 := 0) (c3 := 0) (P := fun b => b = true) (et_orT (et_not (et_BV (ev_cb (ea_cons (ev_var (i := 0) rfl) (ea_cons ev_c ea_nil)) (rc_isTup (d := d))))) fun h => ?_) (fun _ => x_ret (c1 := 0) ev_c) (fun h => nomatch h)
    rw [ht] at h
    cases h
theorem wtL_some {i : Int} (h : wtL x = some i) : ∃ us : List Str, x.d = .tuple (us.map PyData.str) ∧ us ≠ [] ∧ (∀ u ∈ us, u ∈ x.ss) ∧ lnk x.ts (us.map PyData.str) = true := by
  obtain ⟨d, ss, f, ts⟩ := x
  by_cases ht : isTupD d = true
  · obtain ⟨ds, rfl⟩ := tupD_of ht
    rw [wtL_tup] at h
    by_cases c : ds.isEmpty = false ∧ ds.all (inS ss) = true ∧ lnk ts ds = true
    · obtain ⟨h1, h2, h3⟩ := c
      obtain ⟨us, rfl, ms⟩ := all_inS.mp h2
      refine ⟨us, rfl, fun e => ?_, ms, h3⟩
      subst e
      cases h1
    · rw [if_neg c] at h
      cases h
  · have ht : isTupD d = false := by cases h : isTupD d with
      | true => exact absurd h ht
      | false => rfl
    rw [wtL_no (x := ⟨d, ss, f, ts⟩) ht] at h
    cases h
theorem rgL_no (ok : OkL x) (h : wtL x = none) : rgL x = false := by
  obtain ⟨d, ss, f, ts⟩ := x
  cases hr : rgL ⟨d, ss, f, ts⟩ with
  | false => rfl
  | true =>
    unfold rgL at hr
    by_cases ht : isTupD d = true
    · obtain ⟨ds, rfl⟩ := tupD_of ht
      rw [show rgC _ _ = rgC ts (.tuple ds) from rfl, rgC_tup, Bool.and_eq_true, Bool.and_eq_true] at hr
      obtain ⟨hl, hk, hc⟩ := hr
      have hl := of_decide_eq_true hl
      obtain ⟨us, rfl⟩ := lnk_snoc hk
      rw [List.length_map] at hl
      obtain ⟨u, r, rfl⟩ : ∃ u r, us = u :: r := by
        cases us with
        | nil => simp at hl
        | cons u r => exact ⟨u, r, rfl⟩
      obtain ⟨v, r, rfl⟩ : ∃ v r', r = v :: r' := by
        cases r with
        | nil => simp at hl
        | cons v r => exact ⟨v, r, rfl⟩
      have hk : lnk ts (.str u :: .str v :: (r.map PyData.str ++ [.str u])) = true := hk
      have h0 : inP ts (.str u) (.str v) = true := by
        have hk := hk
        rw [lnk_cons, Bool.and_eq_true] at hk
        exact hk.1
      obtain ⟨a, b, e1, e2, m⟩ := inP_true h0
      injection e1 with e1
      subst e1
      have h3 := lnk_all (ps := ts) (xs := ss) (a := .str u) (r := .str v :: (r.map PyData.str ++ [.str u])) ok.mem hk (decide_eq_true (ok.mem _ m).1)
      obtain ⟨ws, ew, mw⟩ := h3
      have hs : ∀ w ∈ u :: v :: r, w ∈ ss := fun w m => by
        have : PyData.str w ∈ ws.map PyData.str := by
          rw [← ew]
          rcases List.mem_cons.mp m with rfl | m
          · simp
          · rcases List.mem_cons.mp m with rfl | m
            · simp
            · simp [m]
        obtain ⟨w', m', e⟩ := List.mem_map.mp this
        cases e
        exact mw _ m'
      have hk2 : lnk ts ((u :: v :: r).map PyData.str) = true := by
        obtain ⟨us', l, e⟩ : ∃ us' l, u :: v :: r = us' ++ [l] := by
          rcases List.eq_nil_or_concat (u :: v :: r) with z | ⟨q, x, z⟩
          · cases z
          · exact ⟨q, x, by rw [z, List.concat_eq_append]⟩
        have hk : lnk ts ((u :: v :: r).map PyData.str ++ [.str u]) = true := hk
        rw [e, lnk_last, Bool.and_eq_true] at hk
        rw [e]
        exact hk.1
      rw [wtL_tup, if_pos ⟨rfl, all_inS.mpr ⟨_, rfl, hs⟩, hk2⟩] at h
      cases h
    · cases d <;> first | cases hr | exact absurd rfl ht
theorem sx_lr (ok : OkL x) :
    Sx none (tSeq (tIfS (tOr (tTest (tOp rIsN (tCall spLw [] E0 (tCons (tVar 0) (tCons (tVar 1) (tCons (tVar 2) tNil)))) (tC V.non))) (tOr (tTest (tOp (rI0 fun i j => V.bl (decide (i < j))) (tCB (rLenX K) (tCons (tVar 0) tNil)) (tC (V.int 2)))) (tTest (tOp rNe (tLenTexts K (tVar 0)) (tCB (rLenX K) (tCons (tVar 0) tNil))))))
        (tRet (tC (V.bl false))) tNext)
      (tRet (tOp (rInD K) (tTup (tCons (tOp (rIxT K) (tVar 0) (tUn (rU fun i => V.int (-i)) (tC (V.int 1)))) (tCons (tOp (rIxT K) (tVar 0) (tC (V.int 0))) tNil))) (tVar 2))))
      [.im (mDat x.d), .im (mWts x.ss x.f), .im (mTold x.ts)] 0 (endO (mV (.bl (rgL x)))) := by
  have hcall : Ev none (tCall spLw [] E0 (tCons (tVar 0) (tCons (tVar 1) (tCons (tVar 2) tNil)))) [.im (mDat x.d), .im (mWts x.ss x.f), .im (mTold x.ts)] 0 (mO (wtL x)) :=
    ev_callF x (ea_cons (ev_var (i := 0) rfl) (ea_cons (ev_var (i := 1) rfl) (ea_cons (ev_var (i := 2) rfl) ea_nil))) ok
  cases hw : wtL x with
  | none =>
    rw [rgL_no ok hw]
    rw [hw] at hcall
    exact x_guard (c1 := 0) (c2 := 0) (c3 := 0) (P := fun b => b = true) (et_orT (et_testV (ev_op hcall ev_c rv_isN0)) fun h => nomatch h) (fun _ => x_ret (c1 := 0) ev_c) (fun h => nomatch h)
  | some w =>
    rw [hw] at hcall
    obtain ⟨us, ed, ne, ms, hk⟩ := wtL_some hw
    have few := ok.few
    obtain ⟨d, ss, f, ts⟩ := x
    simp only at ed hk ms few
    subst ed
    have few : us.length ≤ 500 := by
      have h : (us.map PyData.str).length ≤ 500 := few
      rw [List.length_map] at h
      exact h
    have hv : Ev none (tVar 0) [.im (mDat (.tuple (us.map PyData.str))), .im (mWts ss f), .im (mTold ts)] 0 (mT (us.map mS)) := by
      rw [← map_str]
      exact ev_dt (i := 0) rfl
    have hrg : rgL ⟨.tuple (us.map PyData.str), ss, f, ts⟩ = (decide (2 ≤ us.length) && (lnk ts ((us.map PyData.str) ++ [(us.map PyData.str).headD .none]) && decide (cntD us = us.length))) := by
      unfold rgL
      rw [show rgC _ _ = rgC ts (.tuple (us.map PyData.str)) from rfl, rgC_tup, map_key, List.length_map]
    refine x_guard (c2 := 0) (c3 := 0) (et_or (et_testV (ev_op hcall ev_c (rv_isN1 (S := mI w) fun G v h z => by rw [show v = _ from h] at z; cases z))) fun _ => et_or (et_testV (ev_op (ev_cb (ea_cons hv ea_nil) rc_lenT) ev_c rv_I0)) fun _ => et_testV (ev_op (ev_lenTexts (K := K) hv (by omega)) (ev_cb (ea_cons hv ea_nil) (rc_lenT (K := K))) rv_neI)) (fun hT => ?_) (fun hF => ?_)
    · have hn : rgL ⟨.tuple (us.map PyData.str), ss, f, ts⟩ = false := by
        rw [hrg]
        rcases hT with ⟨_, h | ⟨_, h⟩⟩ | ⟨h, _⟩
        · cases h
        · rcases h with ⟨_, h | ⟨_, h⟩⟩ | ⟨h, _⟩
          · have := of_decide_eq_true h.symm
            rw [List.length_map] at this
            rw [decide_eq_false (by omega)]
            rfl
          · rw [List.length_map] at h
            have : cntD us ≠ us.length := fun e => by rw [e] at h; simp at h
            rw [decide_eq_false this]
            simp
          · cases h
        · cases h
      rw [hn]
      exact x_ret (c1 := 0) ev_c
    · have hl : 2 ≤ us.length ∧ cntD us = us.length := by
        rcases hF with ⟨h, _⟩ | ⟨_, _, h⟩
        · cases h
        · rcases h with ⟨h, _⟩ | ⟨_, h1, h2⟩
          · cases h
          · have := of_decide_eq_false h1.symm
            rw [List.length_map] at this h2
            refine ⟨by omega, ?_⟩
            have := of_decide_eq_true (show decide _ = true by simpa using h2.symm)
            omega
      obtain ⟨us', l, e⟩ : ∃ us' l, us = us' ++ [l] := by
        rcases List.eq_nil_or_concat us with z | ⟨q, x, z⟩
        · exact absurd z ne
        · exact ⟨q, x, by rw [z, List.concat_eq_append]⟩
      obtain ⟨u, r, e2⟩ : ∃ u r, us = u :: r := by
        cases us with
        | nil => exact absurd rfl ne
        | cons u r => exact ⟨u, r, rfl⟩
      have hres : rgL ⟨.tuple (us.map PyData.str), ss, f, ts⟩ = decide ((l, u) ∈ ts) := by
        rw [hrg, decide_eq_true hl.1, decide_eq_true hl.2, Bool.true_and, Bool.and_true]
        rw [show (us.map PyData.str).headD .none = .str u by rw [e2]; rfl]
        rw [e] at hk ⊢
        rw [lnk_last, hk, Bool.true_and]
        rfl
      rw [hres]
      have okp : ∀ p ∈ ts, okP p := fun p m => ⟨ok.str _ (ok.mem p m).1, ok.str _ (ok.mem p m).2⟩
      have i1 : atI (us.map mS) (-1) = some (mS l) := by rw [e, List.map_append]; exact atI_top
      have i0 : atI (us.map mS) 0 = some (mS u) := by rw [e2]; exact at_zero
      exact x_ret (c1 := 0) (ev_op (S1 := mPair (l, u)) (ev_tup (ea_cons (ev_op hv (ev_neg ev_c) (rv_ixT i1)) (ea_cons (ev_op hv ev_c (rv_ixT i0)) ea_nil))) (ev_var (i := 2) rfl) (rv_inPs ⟨ok.str _ (ms _ (by rw [e]; simp)), ok.str _ (ms _ (by rw [e2]; simp))⟩ okp))
def dO : Option Int → PyData
  | some i => .int i
  | none => .none
theorem hd_mO : ∀ w : Option Int, HasD K (mO w) (dO w)
  | some _ => hd_int
  | none => hd_non
theorem sum_bd {f : Str → Int} : ∀ us : List Str, (∀ u ∈ us, 1 ≤ f u ∧ f u ≤ 128) → 0 ≤ (us.map f).sum ∧ (us.map f).sum ≤ 128 * us.length
  | [], _ => ⟨Int.le_refl _, by simp⟩
  | u :: us, h => by
    obtain ⟨h1, h2⟩ := sum_bd us fun v m => h v (List.mem_cons_of_mem _ m)
    have := h u (List.mem_cons_self ..)
    rw [List.map_cons, List.sum_cons, List.length_cons]
    constructor
    · omega
    · push_cast
      omega
theorem wtL_bd (ok : OkL x) {i : Int} (h : wtL x = some i) : 0 ≤ i ∧ i ≤ 64000 := by
  obtain ⟨us, ed, ne, ms, hk⟩ := wtL_some h
  have few := ok.few
  obtain ⟨d, ss, f, ts⟩ := x
  simp only at ed hk ms few
  subst ed
  have few : us.length ≤ 500 := by
    have h : (us.map PyData.str).length ≤ 500 := few
    rw [List.length_map] at h
    exact h
  have h1 : (us.map PyData.str).isEmpty = false := by cases us with
    | nil => exact absurd rfl ne
    | cons _ _ => rfl
  rw [wtL_tup, if_pos ⟨h1, all_inS.mpr ⟨_, rfl, ms⟩, hk⟩, List.map_map] at h
  have e : (us.map f).sum = i := Option.some.inj h
  obtain ⟨a, b⟩ := sum_bd (f := f) us fun u m => ok.bd u (ms u m)
  omega
theorem shO (ok : OkL x) : (dO (wtL x)).showable = true ∧ (dO (wtL x)).depth ≤ 64 ∧ (dO (wtL x)).shown.length ≤ 100000 := by
  cases h : wtL x with
  | none => exact ⟨by simp [dO, PyData.showable], by simp [dO, PyData.depth], by decide +kernel⟩
  | some i =>
    obtain ⟨a, b⟩ := wtL_bd ok h
    have hn : i.natAbs < 10 ^ 12 := by
      have : (64000 : Nat) < 10 ^ 12 := by decide
      omega
    have hn2 : i.natAbs.log2 < 1920 := by
      by_cases z : i.natAbs = 0
      · rw [z]; decide
      · have := (Nat.log2_lt z (k := 17)).mpr (by omega)
        omega
    refine ⟨?_, by simp [dO, PyData.depth], ?_⟩
    · simp only [dO, PyData.showable]
      exact decide_eq_true hn2
    · exact Nat.le_trans (PyData.shown_int_le hn) (by decide)
theorem sx_li (ok : OkL x) :
    Sx none (tSeq (tAsg (tCB (rReprQ K) (tCons (tVar 1) tNil)) (gName 4))
      (tSeq (tIfS (tTest (tOp rNe (tCB (rReprD K) (tCons (tCall (spCw C) [] E0 (tCons (tVar 0) (tCons (tVar 1) tNil))) tNil)) (tCB (rReprD K) (tCons (tCall spLw [] E0 (tCons (tVar 1) (tCons (tVar 2) (tCons (tVar 3) tNil)))) tNil)))) (tRet (tC (V.bl false))) tNext)
      (tSeq (tIfS (tTest (tOp rNe (tCB (rReprD K) (tCons (tCall (spRg C) [] E0 (tCons (tVar 0) (tCons (tVar 1) tNil))) tNil)) (tCB (rReprD K) (tCons (tCall spLr [] E0 (tCons (tVar 1) (tCons (tVar 2) (tCons (tVar 3) tNil)))) tNil)))) (tRet (tC (V.bl false))) tNext)
        (tRet (tOp rEq (tCB (rReprQ K) (tCons (tVar 1) tNil)) (tVar 4))))))
      [.im (mOrd C (Ord.make (ofL x) x.ts)), .im (mDat x.d), .im (mWts x.ss x.f), .im (mTold x.ts), .no] 0 (endO (mV (.bl true))) := by
  obtain ⟨s1, s2, s3⟩ := shO ok
  refine x_let (c1 := 0) (i := 4) (ev_reprQ (K := K) (ev_var (i := 1) rfl) ok.okd ok.shd ok.dpt ok.len) ?_
  have hw : ∀ {Γ : Gam}, Γ[0]? = some (.im (mOrd C (Ord.make (ofL x) x.ts))) → Γ[1]? = some (.im (mDat x.d)) → Ev none (tCall (spCw C) [] E0 (tCons (tVar 0) (tCons (tVar 1) tNil))) Γ 0 (mO (wtL x)) := fun {Γ} e0 e1 => by
    have k := ev_callF (pn := none) (c := 0) (E := E0) (ar := fun x : Ord × PyData => [mOrd C x.1, mDat x.2]) (pre := fun x => x.1.Ok ∧ lenD x.2 ≤ 500) (res := fun x => mO (wtC x.1 x.2)) (Ord.make (ofL x) x.ts, x.d) (ea_cons (ev_var e0) (ea_cons (ev_var e1) ea_nil)) ⟨ok.ok, ok.few⟩
    rw [wt_eq ok] at k
    exact k
  have hg : ∀ {Γ : Gam}, Γ[0]? = some (.im (mOrd C (Ord.make (ofL x) x.ts))) → Γ[1]? = some (.im (mDat x.d)) → Ev none (tCall (spRg C) [] E0 (tCons (tVar 0) (tCons (tVar 1) tNil))) Γ 0 (mV (.bl (rgL x))) := fun {Γ} e0 e1 => by
    have k := ev_callF (pn := none) (c := 0) (E := E0) (ar := fun x : Ord × PyData => [mOrd C x.1, mDat x.2]) (pre := fun x => x.1.Ok ∧ lenD x.2 ≤ 500) (res := fun x => mV (.bl (rgC x.1.ps x.2))) (Ord.make (ofL x) x.ts, x.d) (ea_cons (ev_var e0) (ea_cons (ev_var e1) ea_nil)) ⟨ok.ok, ok.few⟩
    rw [rg_eq] at k
    exact k
  have aL : ∀ {Γ : Gam}, Γ[1]? = some (.im (mDat x.d)) → Γ[2]? = some (.im (mWts x.ss x.f)) → Γ[3]? = some (.im (mTold x.ts)) → EvA none (tCons (tVar 1) (tCons (tVar 2) (tCons (tVar 3) tNil))) Γ 0 (arL x) := fun e1 e2 e3 => ea_cons (ev_var e1) (ea_cons (ev_var e2) (ea_cons (ev_var e3) ea_nil))
  refine x_guard (c1 := 0) (c2 := 0) (c3 := 0) (et_testV (ev_op (ev_cb (ea_cons (hw rfl rfl) ea_nil) (rc_repr (hd_mO _) s1 s2 s3)) (ev_cb (ea_cons (ev_callF x (aL rfl rfl rfl) ok) ea_nil) (rc_repr (hd_mO _) s1 s2 s3)) rv_neS)) (fun hT => ?_) (fun _ => ?_)
  · simp at hT
  have b1 : ∀ b : Bool, (PyData.bool b).shown.length ≤ 100000 := by decide +kernel
  refine x_guard (c1 := 0) (c2 := 0) (c3 := 0) (et_testV (ev_op (ev_cb (ea_cons (hg rfl rfl) ea_nil) (rc_repr hd_bl (by simp [PyData.showable]) (by simp [PyData.depth]) (b1 _))) (ev_cb (ea_cons (ev_callF x (aL rfl rfl rfl) ok) ea_nil) (rc_repr hd_bl (by simp [PyData.showable]) (by simp [PyData.depth]) (b1 _))) rv_neS)) (fun hT => ?_) (fun _ => ?_)
  · simp at hT
  refine x_ret (c1 := 0) (ev_op (ev_reprQ (K := K) (ev_var (i := 1) rfl) ok.okd ok.shd ok.dpt ok.len) (ev_var (i := 4) rfl) rv_eqS) (fun G v h => ?_)
  rw [decide_eq_true rfl] at h
  exact h
end
end Ev

set_option Elab.async false
set_option linter.all false
set_option maxRecDepth 100000
set_option maxHeartbeats 4000000
namespace Ev
open PySem PySem.Spec L2
variable [z : Tz]

structure Bw (mg : Str → Option Value) : Prop where
  isinstance : mg "isinstance" = none
  str : mg "str" = none
  set : mg "set" = none
  tuple : mg "tuple" = none
  len : mg "len" = none
  sum : mg "sum" = none
  zip : mg "zip" = none
  repr : mg "repr" = none
section
variable {P : Program} {w : World} {K : PySem.W.Frag} {mg : Str → Option Value} {base : Heap}
abbrev sLw : Stmt := topS 30
theorem scLw : FnScope ["thing", "wide", "told", "one", "pair"] ["thing", "wide", "told"] (defScope sLw) := ⟨rfl, rfl, rfl, by decide +kernel, rfl, by decide +kernel, by decide +kernel⟩

theorem ok_Lw {f : Addr} {fd : FuncData} {k : Nat} (F : Fun K "_law_weight" "_law_weight" sLw f fd) (T : Bw mg)
     : GnOk P w K mg base CX0 (k + 1) f fd ["thing", "wide", "told"] spLw := by
  refine okG F scLw (fun vs H Q E h => h.len fun _ => rfl) (fun cdv A outer s H vs Q E hc hr h => ?_)
  have hu := hu_of hr
  refine ⟨_, (pss_cons (ps_if (PW.pt (pw_or (pt_not (pt_val (pe_callB (call_isiX (K := K)) (by rfl) T.isinstance (by decide +kernel) (pa_cons (pv 0) (pa_cons (pe_bltn (v := .ty "tuple") (by rfl) T.tuple (by decide +kernel) rfl) pa_nil))))) (pw_or1 (pt_cmpR (op_empT hr.units) (pv 0) (pe_tup pa_nil) (nomark _)))))
        (pss_one (ps_ret pe_non))
        pss_nil)
      (pss_cons (ps_if (pt_cmpR (op_neEL (K := K) hr.units) (pe_lc (own := [("one", 3)]) rfl scLw.nd (pi_tup (pv 0)) (blkOk_by (N := ["thing", "wide", "told", "one", "pair"]) (sc := defScope sLw) (by decide +kernel)) (fun _ _ _ _ _ => (pg_name (i := 3) scLw.nd rfl (.inl rfl))) (fun _ _ _ _ _ => (pts_one (PW.pt (pw_or (pt_not (pt_val (pe_callB (call_isiX (K := K)) (by rfl) T.isinstance (by decide +kernel) (pa_cons (pv 3) (pa_cons (pe_bltn (v := .ty "str") (by rfl) T.str (by decide +kernel) rfl) pa_nil))))) (pw_or1 (pt_cmp (pc_dnotin hu (pv 3) (pv 1)) rfl)))))) (fun _ _ _ _ _ => (pv 3))) (pe_lst pa_nil) (nomark _))
        (pss_one (ps_ret pe_non))
        pss_nil)
      (pss_cons (ps_if (pt_cmpR (op_neEL (K := K) hr.units) (pe_lc (own := [("pair", 4)]) rfl scLw.nd (pi_zipN (by rfl) T.zip (pa_cons (pv 0) (pa_cons (pe_slice sl_tupA (pv 0) (po_some pe_int) po_none) pa_nil))) (blkOk_by (N := ["thing", "wide", "told", "one", "pair"]) (sc := defScope sLw) (by decide +kernel)) (fun _ _ _ _ _ => (pg_name (i := 4) scLw.nd rfl (.inl rfl))) (fun _ _ _ _ _ => (pts_one (pt_cmpR (op_notInDK (K := K) (hu70_of hr)) (pv 4) (pv 2) (by rfl)))) (fun _ _ _ _ _ => (pv 4))) (pe_lst pa_nil) (nomark _))
        (pss_one (ps_ret pe_non))
        pss_nil)
      (pss_one (ps_ret (pe_callB (cr_sum rfl) (by rfl) T.sum (by decide +kernel) (pa_cons (pe_lc (own := [("one", 3)]) rfl scLw.nd (pi_tup (pv 0)) (blkOk_by (N := ["thing", "wide", "told", "one", "pair"]) (sc := defScope sLw) (by decide +kernel)) (fun _ _ _ _ _ => (pg_name (i := 3) scLw.nd rfl (.inl rfl))) (fun _ _ _ _ _ => pts_nil) (fun _ _ _ _ _ => (pe_dget hu (pv 1) (pv 3) (fun _ _ => rfl)))) pa_nil))))))), fn_F h fun x hx => ?_⟩
  exact sx_lw hx
abbrev sLr : Stmt := topS 31
theorem scLr : FnScope ["thing", "wide", "told"] ["thing", "wide", "told"] (defScope sLr) := ⟨rfl, rfl, rfl, by decide +kernel, rfl, by decide +kernel, by decide +kernel⟩

theorem ok_Lr {f : Addr} {fd : FuncData} {k : Nat} (F : Fun K "_law_is_ring" "_law_is_ring" sLr f fd) (T : Bw mg)
    (G__law_weight : Fd P w K mg base k "_law_weight" ["thing", "wide", "told"] spLw) : GnOk P w K mg base CX0 (k + 1) f fd ["thing", "wide", "told"] spLr := by
  refine okG F scLr (fun vs H Q E h => h.len fun _ => rfl) (fun cdv A outer s H vs Q E hc hr h => ?_)
  have hu := hu_of hr
  refine ⟨_, (pss_cons (ps_if (PW.pt (pw_or (pt_cmpR op_isN1 (pe_fd G__law_weight hc (hr.mono (by omega)) (pa_cons (pv 0) (pa_cons (pv 1) (pa_cons (pv 2) pa_nil)))) pe_non (nomark _)) (pw_or (pt_cmpR op_lt (pe_callB (call_lenK (K := K)) (by rfl) T.len (PySem.boot_len) (pa_cons (pv 0) pa_nil)) pe_int (nomark _)) (pw_or1 (pt_cmpR op_ne (pe_lenTexts rfl (by rfl) T.len (by rfl) T.set (pv 0)) (pe_callB (call_lenK (K := K)) (by rfl) T.len (PySem.boot_len) (pa_cons (pv 0) pa_nil)) (nomark _))))))
        (pss_one (ps_ret pe_bl))
        pss_nil)
      (pss_one (ps_ret (pe_cmpR (op_inDK (K := K) (hu70_of hr)) (pe_tup (pa_cons (pe_ix (ix_tupK (K := K)) (pv 0) (pe_un un_neg pe_int) (fun _ _ => rfl)) (pa_cons (pe_ix (ix_tupK (K := K)) (pv 0) pe_int (fun _ _ => rfl)) pa_nil))) (pv 2) (by rfl))))), fn_F h fun x hx => ?_⟩
  exact sx_lr hx
abbrev sLi : Stmt := topS 32
theorem scLi : FnScope ["net_of", "thing", "wide", "told", "seen"] ["net_of", "thing", "wide", "told"] (defScope sLi) := ⟨rfl, rfl, rfl, by decide +kernel, rfl, by decide +kernel, by decide +kernel⟩

theorem ok_Li {f : Addr} {fd : FuncData} {k : Nat} (F : Fun K "_law_right" "_law_right" sLi f fd) (T : Bw mg)
    (C : Addr) (nsys : K.lookup sysModules = none) (G__law_weight : Fd P w K mg base k "_law_weight" ["thing", "wide", "told"] spLw) (G__law_is_ring : Fd P w K mg base k "_law_is_ring" ["thing", "wide", "told"] spLr) (G_chain_weight : Fd P w K mg base k "chain_weight" ["order", "value"] (spCw C)) (G_shows_ring : Fd P w K mg base k "shows_ring" ["order", "value"] (spRg C)) : GnOk P w K mg base CX0 (k + 1) f fd ["net_of", "thing", "wide", "told"] (spLi C) := by
  refine okG F scLi (fun vs H Q E h => h.len fun _ => rfl) (fun cdv A outer s H vs Q E hc hr h => ?_)
  have hu := hu_of hr
  refine ⟨_, (pss_cons (ps_set (i := 4) scLi.nd rfl (.inl rfl) (pe_callB (call_reprQ hc (hu70_of hr) nsys) (by rfl) T.repr (by decide +kernel) (pa_cons (pv 1) pa_nil)))
      (pss_cons (ps_if (pt_cmpR op_ne (pe_callB (call_reprD hc (hu70_of hr)) (by rfl) T.repr (by decide +kernel) (pa_cons (pe_fd G_chain_weight hc (hr.mono (by omega)) (pa_cons (pv 0) (pa_cons (pv 1) pa_nil))) pa_nil)) (pe_callB (call_reprD hc (hu70_of hr)) (by rfl) T.repr (by decide +kernel) (pa_cons (pe_fd G__law_weight hc (hr.mono (by omega)) (pa_cons (pv 1) (pa_cons (pv 2) (pa_cons (pv 3) pa_nil)))) pa_nil)) (nomark _))
        (pss_one (ps_ret pe_bl))
        pss_nil)
      (pss_cons (ps_if (pt_cmpR op_ne (pe_callB (call_reprD hc (hu70_of hr)) (by rfl) T.repr (by decide +kernel) (pa_cons (pe_fd G_shows_ring hc (hr.mono (by omega)) (pa_cons (pv 0) (pa_cons (pv 1) pa_nil))) pa_nil)) (pe_callB (call_reprD hc (hu70_of hr)) (by rfl) T.repr (by decide +kernel) (pa_cons (pe_fd G__law_is_ring hc (hr.mono (by omega)) (pa_cons (pv 1) (pa_cons (pv 2) (pa_cons (pv 3) pa_nil)))) pa_nil)) (nomark _))
        (pss_one (ps_ret pe_bl))
        pss_nil)
      (pss_one (ps_ret (pe_cmpR op_eq (pe_callB (call_reprQ hc (hu70_of hr) nsys) (by rfl) T.repr (by decide +kernel) (pa_cons (pv 1) pa_nil)) (pv 4) (nomark _))))))), fn_F h fun x hx => ?_⟩
  exact sx_li hx
end
end Ev

set_option Elab.async false
set_option linter.all false
set_option maxRecDepth 100000
set_option maxHeartbeats 4000000
/-! What is said of one's own list by cases. -/
namespace Ev
open PySem PySem.Spec PyProof.Rows L2
variable [z : Tz]
section
variable {pn : Option Addr} {Γ : Gam} {c : Nat} {ts : TS} {O : Outs} {α : Type} {Px : α → Prop}
theorem sx_exO {i : Nat} {M : MO} {R : α → MO} (hi : Γ[i]? = some (.own M)) (hM : ∀ G a o, M.pr G a o → ∃ x, Px x ∧ (R x).pr G a o) (h : ∀ x, Px x → Sx pn ts (Γ.set i (.own (R x))) c O) : Sx pn ts Γ c O := by
  refine Sx.of_env fun E => ?_
  obtain ⟨a, u, A⟩ := E.sl.own E.nd hi
  obtain ⟨x, px, hx⟩ := hM _ _ _ A.pr
  obtain ⟨h2, h3⟩ := A.say (R x) hx
  exact ⟨_, h x px, ⟨E.gh, E.pen, h2, by rw [h3]; exact E.nd⟩, h3⟩
theorem zip_snocEx {G : Hp} {R : α → MP} : ∀ {Ps : List MP} {vs : List V}, Zip G (Ps ++ [mEx Px R]) vs → ∃ x, Px x ∧ Zip G (Ps ++ [R x]) vs
  | [], [], h => h.elim
  | [], v :: vs, h => by
    obtain ⟨⟨x, px, hx⟩, t⟩ := h
    exact ⟨x, px, hx, t⟩
  | P :: Ps, [], h => h.elim
  | P :: Ps, v :: vs, h => by
    obtain ⟨h1, h2⟩ := h
    obtain ⟨x, px, t⟩ := zip_snocEx h2
    exact ⟨x, px, h1, t⟩
theorem oL_snocEx {R : α → MP} {Ps : List MP} : ∀ G a o, (oL (Ps ++ [mEx Px R])).pr G a o → ∃ x, Px x ∧ (oL (Ps ++ [R x])).pr G a o := by
  rintro G a o ⟨vs, e, zz⟩
  obtain ⟨x, px, t⟩ := zip_snocEx zz
  exact ⟨x, px, vs, e, t⟩
theorem sx_appendEx {i : Nat} {c1 : Nat} {K : PySem.W.Frag} {ta : TE} {Ps : List MP} {R : α → MP} (hi : Γ[i]? = some (.own (oL Ps))) (ha : Ev pn ta Γ c1 (mEx Px R)) (hl : Ps.length < 100000) (hn : ∀ x, Px x → O.nx (Γ.set i (.own (oL (Ps ++ [R x]))))) : Sx pn (tDrop (tBM K "list" rAppend (tVar i) (tCons ta tNil))) Γ c1 O := .mk fun {G H σ n} D E l q1 q2 q3 q4 => by
  obtain ⟨a, u, A⟩ := E.sl.own E.nd hi
  obtain ⟨vs, eu, z⟩ := A.pr
  subst eu
  refine ⟨.ref a, A.val, .inl ⟨rfl, _, SqL.of A.obj⟩, ha.run E l _ fun y G1 H1 n1 k p ln s => ?_⟩
  obtain ⟨x, px, s⟩ := s
  have A1 := A.step E hi k p
  have E1 := E.step k p
  refine ⟨a, vs, y, rfl, rfl, A1.obj, Nat.lt_of_le_of_lt (m := 100000) (by rw [z.len]; omega) (by decide), ?_⟩
  have g := go_mut (M' := oL (Ps ++ [R x])) (u' := .lst (vs ++ [y])) E1 A1 ⟨_, rfl, (z.mono k.gg).app ⟨s, trivial⟩⟩
  exact q1 _ _ _ _ _ (hn x px) (((Go.of E k ln E1 fun _ h => .inl h).trans g).more (by omega))
end
end Ev

set_option Elab.async false
set_option linter.all false
set_option maxRecDepth 100000
set_option maxHeartbeats 4000000
namespace Ev
open PySem PySem.Spec L2
variable [z : Tz]
section
variable {P : Program} {w : World} {K : PySem.W.Frag} {mg : Str → Option Value} {base : Heap}
abbrev sWalk : Stmt := topS 28
theorem scWalk : FnScope ["pen", "some", "told", "found", "turn", "ahead", "pair"] ["pen", "some", "told"] (defScope sWalk) := ⟨rfl, rfl, rfl, by decide +kernel, rfl, by decide +kernel, by decide +kernel⟩

abbrev RowOk (ss : List Str) (us : List Str) : Prop := us ≠ [] ∧ us.length ≤ 6 ∧ ∀ u ∈ us, u ∈ ss
structure ArgWk where
  ss : List Str
  ts : List (Str × Str)
structure OkWk (x : ArgWk) : Prop where
  ne : x.ss ≠ []
  few : x.ss.length ≤ 1000
  fewt : x.ts.length ≤ 1000
  mem : ∀ p ∈ x.ts, p.1 ∈ x.ss ∧ p.2 ∈ x.ss
abbrev spWalk : Sp := SpP (α := ArgWk) (fun p x => [mV (.ref p), mStrs x.ss, mTold x.ts]) OkWk (fun _ => 7) (fun x => mEx (RowOk x.ss) fun us => mT (us.map mS))
theorem ok_walk {f : Addr} {fd : FuncData} {k : Nat} (F : Fun K "_law_walk" "_law_walk" sWalk f fd) (T : Bl mg) (hrg : mg "range" = none) (htu : mg "tuple" = none) (G__law_draw : Fd P w K mg base k "_law_draw" ["pen", "many"] spDraw) : GnOk P w K mg base CX0 (k + 1) f fd ["pen", "some", "told"] spWalk := by
  refine okG F scWalk (fun vs H Q E h => SpP.len h (fun _ _ => rfl)) (fun cdv A outer s H vs Q E hc hr h => ?_)
  have hu := hu_of hr
  refine ⟨_, (pss_cons (ps_set (i := 3) scWalk.nd rfl (.inr rfl) (pe_lst (pa_cons (pe_ix (ix_listK (K := K)) (pv 1) (pe_fd G__law_draw hc (hr.mono (by omega)) (pa_cons (pv 0) (pa_cons (pe_callB (call_lenK (K := K)) (by rfl) T.len (PySem.boot_len) (pa_cons (pv 1) pa_nil)) pa_nil))) (fun _ _ => rfl)) pa_nil)))
      (pss_cons (ps_for PassesOwn.never rfl (pi_range1 (by rfl) hrg (pa_cons (pe_fd G__law_draw hc (hr.mono (by omega)) (pa_cons (pv 0) (pa_cons pe_int pa_nil))) pa_nil)) (pg_name (i := 4) scWalk.nd rfl (.inl rfl))
        (pss_cons (ps_setLc (i := 5) (own := [("pair", 6)]) rfl scWalk.nd rfl rfl (sw_true rfl rfl rfl (by decide +kernel)) (pi_list (pv 2)) (blkOk_by (N := ["pen", "some", "told", "found", "turn", "ahead", "pair"]) (sc := defScope sWalk) (by decide +kernel)) (fun _ _ _ _ _ => (pg_name (i := 6) scWalk.nd rfl (.inl rfl))) (fun _ _ _ _ _ => (pts_one (pt_cmpR op_eq (pe_ix (ix_tupK (K := K)) (pv 6) pe_int (fun _ _ => rfl)) (pe_ix (ix_listK (K := K)) (pv 3) (pe_un un_neg pe_int) (fun _ _ => rfl)) (nomark _)))) (fun _ _ _ _ _ => (pe_ix (ix_tupK (K := K)) (pv 6) pe_int (fun _ _ => rfl))))
      (pss_one (ps_if (pt_cmpR (op_neEL (K := K) hr.units) (pv 5) (pe_lst pa_nil) (nomark _))
        (pss_one (ps_expr (pe_bm PySem.F.plainAttrs_list PySem.F.slot_list_append PySem.F.type_list_append mt_append (pv 3) (pa_cons (pe_ix (ix_listK (K := K)) (pv 5) (pe_fd G__law_draw hc (hr.mono (by omega)) (pa_cons (pv 0) (pa_cons (pe_callB (call_lenK (K := K)) (by rfl) T.len (PySem.boot_len) (pa_cons (pv 5) pa_nil)) pa_nil))) (fun _ _ => rfl)) pa_nil))))
        pss_nil))))
      (pss_one (ps_ret (pe_callTy call_tuple_of (by rfl) htu (by decide +kernel) (pa_cons (pv 3) pa_nil)))))), fn_P h fun p x hx => ?_⟩
  obtain ⟨ss, ts⟩ := x
  obtain ⟨ne, few, fewt, mem⟩ := hx
  replace ne : ss ≠ [] := ne
  replace few : ss.length ≤ 1000 := few
  replace fewt : ts.length ≤ 1000 := fewt
  have hl : 0 < ss.length := List.length_pos_iff.mpr ne
  show Sx (some p) _ [.im (mV (.ref p)), .im (mStrs ss), .im (mTold ts), .no, .no, .no, .no] 7 (endO (mEx (RowOk ss) fun us => mT (us.map mS)))
  have h0 : Ev (some p) (tOp (rIxL K) (tVar 1) (tCall spDraw [] E0 (tCons (tVar 0) (tCons (tCB (rLenX K) (tCons (tVar 1) tNil)) tNil)))) [.im (mV (.ref p)), .im (mStrs ss), .im (mTold ts), .no, .no, .no, .no] 1 (mEx (· ∈ ss) mS) :=
    Ev.mono (ev_op (ev_var (i := 1) rfl) (ev_callP ((ss.length : Nat) : Int) (ea_cons (ev_var (i := 0) rfl) (ea_cons (ev_cb (ea_cons (ev_var (i := 1) rfl) ea_nil) rc_lenM) ea_nil)) ⟨by omega, by omega⟩) (rv_ixLx (xs := ss) (R := mS) fun d hd => hd)) (fun G v h => h) (by decide)
  refine x_own (i := 3) (c1 := 1) (M := oL [mEx (· ∈ ss) mS]) (en_lst (ea_cons h0 ea_nil)) ?_
  refine sx_exO (i := 3) (R := fun u => oL [mS u]) rfl (oL_snocEx (Ps := []) (R := mS)) fun u hu0 => ?_
  refine x_seq (c1 := 6) (fun Γ' => ∃ (us : List Str) (s4 s5 : Sl), Γ' = [.im (mV (.ref p)), .im (mStrs ss), .im (mTold ts), .own (oL (us.map mS)), s4, s5, .no] ∧ RowOk ss us)
    (Sx.more (sx_for (ei_rng1 (Px := fun j => 0 ≤ j ∧ j < 6) (ea_cons (Ev.mono (ev_callP (6 : Int) (ea_cons (ev_var (i := 0) rfl) (ea_cons ev_c ea_nil)) ⟨by decide, by decide⟩) ?_) ea_nil) (fun j hj => by omega)) 1 5 ?_) (by decide)) (fun Γ' hI => ?_) (by decide)
  · rintro G v ⟨d, ⟨hd0, hd1⟩, e⟩
    exact ⟨d, ⟨hd0, by omega⟩, e⟩
  · rintro Ps ⟨j, ⟨hj0, hj1⟩, rfl⟩
    have hlen : (rngPs 0 j.toNat).length = j.toNat := by unfold rngPs; simp
    refine ⟨by omega, fun i Γ' => ∃ (us : List Str) (s4 s5 : Sl), Γ' = [.im (mV (.ref p)), .im (mStrs ss), .im (mTold ts), .own (oL (us.map mS)), s4, s5, .no] ∧ us ≠ [] ∧ us.length ≤ i + 1 ∧ ∀ u ∈ us, u ∈ ss, ⟨[u], _, _, rfl, by simp, by simp, fun v m => by rw [List.mem_singleton.mp m]; exact hu0⟩, fun i P' Γ' hP hI => ?_, fun Γ' hI => ?_⟩
    · obtain ⟨us, s4, s5, rfl, une, ul, um⟩ := hI
      have hi : i < j.toNat := by
        have := (List.getElem?_eq_some_iff.mp hP).1
        omega
      obtain ⟨us', l, rfl⟩ : ∃ us' l, us = us' ++ [l] := by
        rcases List.eq_nil_or_concat us with z | ⟨q, x, z⟩
        · exact absurd z une
        · exact ⟨q, x, by rw [z, List.concat_eq_append]⟩
      refine ⟨_, _, gx_name, ?_⟩
      refine x_let (c1 := 0) (i := 5) (Ev.mono (ev_of_en1 (en_lcL (xs := ts) (R := mPair) (R' := mS) (f := fun q => q.2) (b := fun q => decide (q.1 = l)) (ct := 0) (ce := 0) (ei_list (ev_var (i := 2) rfl)) (by omega) fun q mq => ⟨_, _, gx_name, by decide, et_testV (ev_op (ev_op (ev_var (i := 6) (S := mT [mS q.1, mS q.2]) rfl) ev_c (rv_ixT (P := mS q.1) rfl)) (ev_ixOI (i := 3) (Ps := (us' ++ [l]).map mS) (P := mS l) rfl (ev_neg ev_c) (by rw [List.map_append]; exact atI_top)) rv_eqS), fun _ => ev_op (ev_var (i := 6) (S := mT [mS q.1, mS q.2]) rfl) ev_c (rv_ixT (P := mS q.2) rfl)⟩)) (fun G v h => h) (by simp)) ?_
      have hah : ∀ a ∈ ((ts.filter fun q => decide (q.1 = l)).map fun q => q.2), a ∈ ss := fun a m => by
        obtain ⟨q, mq, rfl⟩ := List.mem_map.mp m
        exact (mem q (List.mem_filter.mp mq).1).2
      have hal : ((ts.filter fun q => decide (q.1 = l)).map fun q => q.2).length ≤ 1000 := by
        rw [List.length_map]
        exact Nat.le_trans (List.length_filter_le _ _) fewt
      generalize ((ts.filter fun q => decide (q.1 = l)).map fun q => q.2) = ah at hah hal
      refine x_if (c1 := 0) (et_testV (ev_op (ev_var (i := 5) rfl) (ev_lst ea_nil) rv_neEL)) (fun hT => ?_) (fun _ => x_next ⟨_, _, _, rfl, une, by omega, um⟩)
      have hane : 0 < ah.length := by
        rw [List.isEmpty_map] at hT
        cases ah with
        | nil => cases hT
        | cons _ _ => simp
      have hul : ((us' ++ [l]).map mS).length < 100000 := by rw [List.length_map]; omega
      refine Sx.more (sx_appendEx (i := 3) (Ps := (us' ++ [l]).map mS) (Px := (· ∈ ah)) (R := mS) rfl (ev_op (ev_var (i := 5) rfl) (ev_callP ((ah.length : Nat) : Int) (ea_cons (ev_var (i := 0) rfl) (ea_cons (ev_cb (ea_cons (ev_var (i := 5) rfl) ea_nil) rc_lenM) ea_nil)) ⟨by omega, by omega⟩) (rv_ixLx (xs := ah) (R := mS) fun d hd => hd)) hul fun a ma => ⟨us' ++ [l] ++ [a], _, _, by rw [List.map_append (l₁ := us' ++ [l])]; rfl, by simp, by rw [List.length_append]; simp at ul ⊢; omega, fun v m => ?_⟩) (by decide)
      rcases List.mem_append.mp m with m | m
      · exact um v m
      · rw [List.mem_singleton.mp m]; exact hah a ma
    · obtain ⟨us, s4, s5, e, une, ul, um⟩ := hI
      exact ⟨us, s4, s5, e, une, by omega, um⟩
  · obtain ⟨us, s4, s5, rfl, row⟩ := hI
    refine sx_freeze (i := 3) rfl ?_
    exact x_ret (c1 := 0) (ev_cb (ea_cons (ev_var (i := 3) rfl) ea_nil) (rc_tupL (K := K))) fun G v hv => ⟨us, row, hv⟩
end
end Ev

set_option Elab.async false
set_option linter.all false
set_option maxRecDepth 100000
set_option maxHeartbeats 4000000
/-! t[::-1] of any tuple. -/
namespace Ev
open PySem PySem.Spec L2 PyProof.Rows HT
variable [z : Tz]
theorem adj_back (n : Nat) : Builtin.Slice.sliceAdjust none none (-1) (n : Int) = ((n : Int) - 1, -1) := by
  unfold Builtin.Slice.sliceAdjust
  simp
theorem places_back (n : Nat) : Builtin.Slice.slicePlaces ((n : Int) - 1) (-1) (-1) = n := by
  unfold Builtin.Slice.slicePlaces
  simp
  omega
theorem fm_congr {α β : Type} {f g : α → Option β} : ∀ {xs : List α}, (∀ x ∈ xs, f x = g x) → xs.filterMap f = xs.filterMap g
  | [], _ => rfl
  | x :: xs, h => by
    rw [List.filterMap_cons, List.filterMap_cons, h x (List.mem_cons_self ..), fm_congr fun y m => h y (List.mem_cons_of_mem _ m)]
theorem pick_back (its : Array Value) : ((List.range its.size).filterMap fun (k : Nat) => its[(((its.size : Int) - 1) + (k : Int) * (-1)).toNat]?).toArray = its.toList.reverse.toArray := by
  congr 1
  have : ∀ (xs : List Value), ((List.range xs.length).filterMap fun (k : Nat) => xs[(((xs.length : Int) - 1) + (k : Int) * (-1)).toNat]?) = xs.reverse := by
    intro xs
    have h : (List.range xs.length).filterMap (fun (k : Nat) => xs[(((xs.length : Int) - 1) + (k : Int) * (-1)).toNat]?) = (List.range xs.length).filterMap (fun (k : Nat) => xs.reverse[k]?) := by
      refine fm_congr fun k hk => ?_
      have hk := List.mem_range.mp hk
      rw [List.getElem?_reverse hk]
      congr 1
      omega
    rw [h]
    have e : ∀ ys : List Value, (List.range ys.length).filterMap (fun (k : Nat) => ys[k]?) = ys := by
      intro ys
      induction ys with
      | nil => rfl
      | cons y ys ih =>
        rw [List.length_cons, List.range_succ_eq_map, List.filterMap_cons]
        simp only [List.getElem?_cons_zero, List.filterMap_map]
        congr 1
    have := e xs.reverse
    rw [List.length_reverse] at this
    exact this
  have k := this its.toList
  rw [Array.length_toList] at k
  rw [← k]
  refine fm_congr fun k hk => ?_
  rw [Array.getElem?_toList]
section
variable {prog : Program} {w : World} {A : Around} {E : Value → Shared → Prop} {s : Shared}
theorem applied_backN {sl : Addr} {vs : Value} {n : Nat} {Q : Int × Int × Nat → Shared → Prop} (hs : s.heap.IsSliceOf sl .none .none vs) (ps : IsPart vs (some (-1)))
    (h : Q ((n : Int) - 1, -1, n) s) : wpAny (model prog w) A (Builtin.Slice.sliceApplied (.ref sl) (pure (n : Int))) Q E s := by
  obtain ⟨os, hos, hcs, hds⟩ := id hs
  unfold Builtin.Slice.sliceApplied Builtin.Slice.sliceFields
  refine wpAny_bind (wpAny_bind (wpAny_field hos hds (x := .none) rfl (wpAny_bind (wpAny_field hos hds (x := .none) rfl (wpAny_bind (wpAny_field hos hds (x := vs) rfl (wpAny_pure ?_)))))))
  refine wpAny_bind (slicePart_ ps ?_)
  show wpAny _ _ (if ((-1 : Int) == 0) = true then _ else _) _ _ s
  rw [if_neg (by decide)]
  refine wpAny_bind (slicePart_none (wpAny_bind (slicePart_none (wpAny_bind (wpAny_pure ?_)))))
  show wpAny _ _ (let p := Builtin.Slice.sliceAdjust none none (-1) (n : Int); pure (p.1, -1, Builtin.Slice.slicePlaces p.1 p.2 (-1))) _ _ s
  rw [adj_back]
  show wpAny _ _ (pure ((n : Int) - 1, -1, Builtin.Slice.slicePlaces ((n : Int) - 1) (-1) (-1))) _ _ s
  rw [places_back]
  exact wpAny_pure h
theorem getItem_back {t sl : Addr} {its : Array Value} {vs : Value} {Q : Value → Shared → Prop} (hsz : its.size ≤ sizeLine) (ht : IsTup s.heap t its) (hs : s.heap.IsSliceOf sl .none .none vs) (ps : IsPart vs (some (-1)))
    (h : Q (.ref s.heap.objs.size) { s with heap := s.heap.push { cls := .type "tuple", data := .seq its.toList.reverse.toArray } }) : wpAny (model prog w) A (getItem (.ref t) (.ref sl)) Q E s := by
  have htake : sizeOk (.seq its.toList.reverse.toArray) := by
    show its.toList.reverse.toArray.size ≤ sizeLine
    rw [List.size_toArray, List.length_reverse, Array.length_toList]
    exact hsz
  obtain ⟨os, hos, hcs, hds⟩ := id hs
  have hTs : s.TypeIs (.ref sl) "slice" := ⟨os, hos, hcs⟩
  unfold getItem
  try with_reducible refine wpAny_holding ?_
  first | refine wpAny_bind (wpAny_pure ?_) | skip
  refine wpAny_bind (wpAny_sequenceKey ht.typeIs (by decide) ?_)
  refine wpAny_bind (wpAny_callSpecial?_slot (name := Str.ofString "__getitem__") ht.typeIs PyProof.Rows.slot_tuple_getitem
    (wpAny_call_entry PyProof.Rows.slot_tuple_getitem ht.typeIs entry_tuple_getitem ?_ (args_tuple_getitem _ _)))
  show wpAny _ _ (Builtin.Tuple.tupleItemsOf (.ref t) >>= _) _ _ s
  refine wpAny_bind (tupleItemsOf_ ht ?_)
  refine wpAny_bind (wpAny_typeOf hTs ?_)
  rw [if_pos (by decide)]
  refine wpAny_bind (applied_backN hs ps ?_)
  show wpAny _ _ (if ((((its.size : Int) - 1) == 0) && ((-1 : Int) == 1) && its.size == its.size) = true then _ else _) _ _ s
  rw [if_neg (by simp)]
  rw [pick_back]
  first
    | exact wpAny_bind (m := Builtin.Tuple.tupleExact _) (wpAny_newObj_type (wpAny_pure ⟨_, rfl, wpAny_pure h⟩) htake)
    | exact wpAny_bind (m := Builtin.Tuple.tupleExact _) (wpAny_newObj_type (wpAny_bind (wpAny_pure (wpAny_pure ⟨_, rfl, wpAny_pure h⟩))) htake)
    | exact wpAny_bind (wpAny_bind (m := Builtin.Tuple.tupleExact _) (wpAny_newObj_type (wpAny_pure (wpAny_pure ⟨_, rfl, wpAny_pure h⟩)) htake))
    | exact wpAny_bind (wpAny_bind (m := Builtin.Tuple.tupleExact _) (wpAny_newObj_type (wpAny_pure ⟨_, rfl, wpAny_pure h⟩) htake))
end
section
variable {X : Cx}
def tRevT (K : PySem.W.Frag) (te : TE) : TE := fun σ H Q => te σ H fun x H1 => ∃ a xs, x = .ref a ∧ SqT K H1 a xs ∧ ∀ p, H1 p = none → Q (.ref p) (upd H1 p (.tup xs.reverse))
theorem pe_revT {e : Expr} {te : TE} {k : Nat} {p1 p2 p3 pos : Pos} (he : PE X e te) : PE X (.Subscript e (.Slice none none (some (.UnaryOp .USub (.Constant (.int 1) k p1) p2)) p3) pos) (tRevT X.K te) := by
  refine ⟨fun pins s σ H Q I h => ?_⟩
  refine Subscript_ (thn (he.run pins s σ H _ I h) fun v s1 ⟨x, H1, I1, r1, q1⟩ => ?_)
  obtain ⟨a, xs, ex, hx, q⟩ := q1
  subst ex
  cases r1
  have hst : PO X (some (.UnaryOp .USub (.Constant (.int 1) k p1) p2)) (tPart (tUn (rU fun i => .int (-i)) (tC (.int 1)))) := po_some (pe_un un_neg pe_int)
  refine wpAny_Slice (thn (po_none.run pins s1 σ H1 (fun o H2 => o = none ∧ H2 = H1) I1 ⟨rfl, rfl⟩) fun vl s2 ⟨l, H2, I2, pl, el, e2⟩ => ?_)
  subst el e2
  refine thn (po_none.run pins s2 σ H2 (fun o H3 => o = none ∧ H3 = H2) I2 ⟨rfl, rfl⟩) fun vu s3 ⟨u, H3, I3, pu, eu, e3⟩ => ?_
  subst eu e3
  refine thn (hst.run pins s3 σ H3 (fun o H4 => o = some (-1) ∧ H4 = H3) I3 ⟨1, rfl, -1, rfl, rfl, rfl⟩) fun vs s4 ⟨o, H4, I4, ps, eo, e4⟩ => ?_
  subst eo e4
  cases pl
  cases pu
  have I5 : Inv X pins σ H4 { s4 with heap := s4.heap.push { cls := .type "slice", data := .fields #[.none, .none, vs] } } := I4.kept (t' := s4.toks) fun b ob q => Heap.get?_push_of_some _ q
  obtain ⟨its, r, ht, hz⟩ := I5.tuple hx
  have hl := r.length
  show wpAny (model X.prog X.w) X.A (subscriptTail e (.Slice none none (some (.UnaryOp .USub (.Constant (.int 1) k p1) p2)) p3) (.ref a) (.ref s4.heap.objs.size)) (EP X pins σ Q) X.xe { s4 with heap := s4.heap.push { cls := .type "slice", data := .fields #[.none, .none, vs] } }
  refine tail_any (ops := [.ref a, .ref s4.heap.objs.size]) ht.typeIs (PyProof.Rows.slot_tuple_getitem.lookup) ?_ (by with_unfolding_all rfl)
  refine getItem_back (its := its.toArray) (by rw [List.size_toArray]; omega) ht (Heap.IsSliceOf.new _ _ _ vs) ps ?_
  refine ⟨.ref _, _, I5.laid (t' := s4.toks) (o := .tup xs.reverse) (fun b ob q => Heap.get?_push_of_some _ q) (Nat.le_refl _) ?_, rfl, q _ (I5.hok.fresh (Nat.le_refl _))⟩
  exact ⟨by rw [List.length_reverse]; exact hz, its.reverse, r.reverse, ⟨_, Heap.get?_push_size _ rfl, rfl, _, rfl⟩⟩
end
section
variable {pn : Option Addr} {Γ : Gam} {c : Nat} {te : TE} {K : PySem.W.Frag} {Ps : List MP}
theorem zip_rev {G : Hp} : ∀ {Ps : List MP} {vs : List V}, Zip G Ps vs → Zip G Ps.reverse vs.reverse
  | [], [], _ => trivial
  | P :: Ps, v :: vs, h => by
    rw [List.reverse_cons, List.reverse_cons]
    exact (zip_rev h.2).app ⟨h.1, trivial⟩
  | [], _ :: _, h => h.elim
  | _ :: _, [], h => h.elim
theorem ev_revT (h : Ev pn te Γ c (mT Ps)) : Ev pn (tRevT K te) Γ c (mT Ps.reverse) := .mk fun {G H σ n} E l Q q =>
  h.run E l _ fun x G1 H1 n1 k1 p1 l1 ⟨a, vs, ex, ha, zz⟩ => ⟨a, vs, ex, SqT.of (k1.gh.x ha), fun p hp => by
    have k := Stp.new (o := .tup vs.reverse) k1.gh hp
    obtain ⟨k4, p4⟩ := k.pure p1
    exact q (.ref p) _ _ n1 (k1.trans0 k4) p4 l1 ⟨p, vs.reverse, rfl, upd_same, (zip_rev zz).mono k.gg⟩⟩
end
end Ev

set_option Elab.async false
set_option linter.all false
set_option maxRecDepth 100000
set_option maxHeartbeats 4000000
/-! Things of any kind: dicts written out, tuples many times, how long their texts are. -/
namespace Ev
open PySem PySem.Spec PyProof.Rows L2
variable [z : Tz]
theorem dat_lst {ds : List PyData} : mDat (.list ds) = mL (ds.map mDat) := by simp only [mDat]; rw [mDats_map]
theorem dat_strs (us : List Str) : mDat (.tuple (us.map .str)) = mT (us.map mS) := by rw [dat_tup, map_str]
section
variable {pn : Option Addr} {Γ : Gam} {c : Nat} {te : TE} {K : PySem.W.Frag} {Ps : List MP}
def rListOf (K : PySem.W.Frag) : List V → Hp → VK → Prop := fun xs H Q => ∃ p ys, xs = [.ref p] ∧ (SqL K H p ys ∨ SqT K H p ys) ∧ ∀ l, H l = none → Q (.ref l) (upd H l (.lst ys))
theorem rc_listT : RC (rListOf K) [mT Ps] (mL Ps) := .mk fun {G H vs} e zz Q q => by
  obtain ⟨v, rfl, a, ws, rfl, ha, z'⟩ := zip1 zz
  refine ⟨a, ws, rfl, .inr (SqT.of (e.x ha)), fun l hl => ?_⟩
  have k := Stp.new (o := .lst ws) e hl
  exact q (.ref l) _ _ k ⟨l, ws, rfl, upd_same, z'.mono k.gg⟩
theorem rv_rep2 {P : MP} : RV (rRepT K) (mT [P]) (mI 2) (mT [P, P]) := .mk fun {G H x y} e h1 h2 Q q => by
  obtain ⟨a, vs, rfl, ha, zz⟩ := h1
  obtain ⟨v, rfl, hv⟩ := zip1 zz
  obtain rfl : y = .int 2 := h2
  refine ⟨a, 2, [v], rfl, rfl, SqT.of (e.x ha), by simp, by decide, by decide, by simp, fun p hp => ?_⟩
  have k := Stp.new (o := .tup [v, v]) e hp
  exact q (.ref p) _ _ k ⟨p, [v, v], rfl, upd_same, P.mono k.gg hv, P.mono k.gg hv, trivial⟩
theorem ev_dnew : Ev pn tDNewK Γ c (mDat (.dict [])) := .mk fun {G H σ n} E l Q q => fun p hp => by
  have k := Stp.new (o := .dK []) E.gh hp
  obtain ⟨k4, p4⟩ := k.pure E.pen
  exact q (.ref p) _ _ n k4 p4 (by omega) ⟨p, [], rfl, .inl upd_same, trivial⟩
theorem ev_disp1 {a : Str} {i : Int} : Ev pn (tDisp [(tC (.str a), tC (.int i))]) Γ c (mDat (.dict [(.str a, .int i)])) := .mk fun {G H σ n} E l Q q => fun p hp => by
  refine ⟨upd_same, [(.inr a, .int i)], rfl, by simp, ?_⟩
  have k := Stp.new (o := .dK [(.inr a, .int i)]) E.gh hp
  obtain ⟨k4, p4⟩ := k.pure E.pen
  have e : upd (upd H p (.dK [])) p (.dK (mergeK [] [(.inr a, .int i)])) = upd H p (.dK [(.inr a, .int i)]) := by
    funext b
    unfold upd
    by_cases h : b = p
    · simp [h]; rfl
    · simp [h]
  rw [e]
  exact q (.ref p) _ _ n k4 p4 (by omega) ⟨p, _, rfl, .inl upd_same, ⟨rfl, rfl⟩, trivial⟩
end
/-- small data -/
structure Gd (k b : Nat) (d : PyData) : Prop where
  ok : okK d = true
  sh : d.showable = true
  dp : d.depth ≤ k
  lv : d.leavesShort 45 = true
  bk : d.bulk ≤ b
theorem Gd.more {k b k' b' : Nat} {d : PyData} (h : Gd k b d) (hk : k ≤ k') (hb : b ≤ b') : Gd k' b' d := ⟨h.ok, h.sh, Nat.le_trans h.dp hk, h.lv, Nat.le_trans h.bk hb⟩
structure Gds (k b : Nat) (ds : List PyData) : Prop where
  ok : okKs ds = true
  sh : PyData.showableAll ds = true
  dp : PyData.depthAll ds ≤ k
  lv : PyData.leavesShortAll 45 ds = true
  bk : PyData.bulkAll ds ≤ b
theorem gds {k b : Nat} : ∀ {ds : List PyData}, (∀ d ∈ ds, Gd k b d) → Gds k (ds.length * (b + 1)) ds
  | [], _ => ⟨rfl, rfl, Nat.zero_le _, rfl, Nat.zero_le _⟩
  | d :: ds, h => by
    have h1 := h d (List.mem_cons_self ..)
    have h2 := gds fun e m => h e (List.mem_cons_of_mem _ m)
    refine ⟨?_, ?_, ?_, ?_, ?_⟩
    · simp [okKs, h1.ok, h2.ok]
    · simp [PyData.showableAll, h1.sh, h2.sh]
    · have := h1.dp; have := h2.dp
      show max _ _ ≤ k
      omega
    · simp [PyData.leavesShortAll, h1.lv, h2.lv]
    · have := h1.bk; have := h2.bk
      show d.bulk + 1 + PyData.bulkAll ds ≤ (ds.length + 1) * (b + 1)
      rw [Nat.add_mul, Nat.one_mul]
      omega
theorem gd_tup {k b : Nat} {ds : List PyData} (h : ∀ d ∈ ds, Gd k b d) : Gd (k + 1) (ds.length * (b + 1)) (.tuple ds) := by
  have g := gds h
  refine ⟨by simp [okK, g.ok], by simp [PyData.showable, g.sh], ?_, by simp [PyData.leavesShort, g.lv], g.bk⟩
  have := g.dp
  show PyData.depthAll ds + 1 ≤ _
  omega
theorem gd_lst {k b : Nat} {ds : List PyData} (h : ∀ d ∈ ds, Gd k b d) : Gd (k + 1) (ds.length * (b + 1)) (.list ds) := by
  have g := gds h
  refine ⟨by simp [okK, g.ok], by simp [PyData.showable, g.sh], ?_, by simp [PyData.leavesShort, g.lv], g.bk⟩
  have := g.dp
  show PyData.depthAll ds + 1 ≤ _
  omega
theorem Gd.len {d : PyData} (h : Gd 64 1000 d) : d.shown.length ≤ 100000 := by
  have := PyData.shown_le_bulk 45 (by decide) d h.lv
  have := h.bk
  omega
/-- what the law bends to -/
structure OkB (d : PyData) : Prop where
  gd : Gd 64 1000 d
  few : lenD d ≤ 100
section
variable {pn : Option Addr} {Γ : Gam} {v : V}
theorem ev_tup0 : Ev pn (tTup tNil) Γ 0 (mT []) := ev_tup ea_nil
theorem ev_lst0 : Ev pn (tLst tNil) Γ 0 (mL []) := ev_lst ea_nil
theorem ev_tupc : Ev pn (tTup (tCons (tC v) tNil)) Γ 0 (mT [mV v]) := ev_tup (ea_cons ev_c ea_nil)
theorem ev_tupt : Ev pn (tTup (tCons (tTup tNil) tNil)) Γ 0 (mT [mT []]) := ev_tup (ea_cons ev_tup0 ea_nil)
end
def gdB (k b : Nat) (d : PyData) : Bool := okK d && (d.showable && (decide (d.depth ≤ k) && (d.leavesShort 45 && decide (d.bulk ≤ b))))
theorem Gd.of {k b : Nat} {d : PyData} (h : gdB k b d = true) : Gd k b d := by
  unfold gdB at h
  simp only [Bool.and_eq_true] at h
  exact ⟨h.1, h.2.1, of_decide_eq_true h.2.2.1, h.2.2.2.1, of_decide_eq_true h.2.2.2.2⟩
theorem okB_strs {us : List Str} (h : ∀ u ∈ us, Gd 0 20 (.str u)) (few : us.length ≤ 40) : OkB (.tuple (us.map .str)) := by
  have g : Gd 1 (((us.map PyData.str).length) * 21) (.tuple (us.map .str)) := gd_tup fun d m => by
    obtain ⟨u, mu, rfl⟩ := List.mem_map.mp m
    exact h u mu
  rw [List.length_map] at g
  exact ⟨g.more (by decide) (by omega), by show (us.map PyData.str).length ≤ 100; rw [List.length_map]; omega⟩
section
variable {pn : Option Addr} {Γ : Gam} {c : Nat} {K : PySem.W.Frag}
theorem zip_midEx {α : Type} {Px : α → Prop} {R : α → MP} {G : Hp} {Bs : List MP} : ∀ {As : List MP} {vs : List V}, Zip G (As ++ ([mEx Px R] ++ Bs)) vs → ∃ x, Px x ∧ Zip G (As ++ ([R x] ++ Bs)) vs
  | [], [], h => h.elim
  | [], v :: vs, h => by
    obtain ⟨⟨x, px, hx⟩, t⟩ := h
    exact ⟨x, px, hx, t⟩
  | P :: As, [], h => h.elim
  | P :: As, v :: vs, h => by
    obtain ⟨h1, h2⟩ := h
    obtain ⟨x, px, t⟩ := zip_midEx h2
    exact ⟨x, px, h1, t⟩
theorem ev_takeT {us : List Str} {n i j : Nat} (hi : Γ[i]? = some (.im (mT (us.map mS)))) (hj : Γ[j]? = some (.im (mI (n : Int)))) : Ev pn (tSl (rSlA K) (tVar i) tNoPart (tPart (tVar j))) Γ 0 (mT ((us.take n).map mS)) := by
  have h := ev_slT (K := K) (pn := pn) (ev_var hi) eo_none (eo_some (ev_var hj))
  rw [cutA_take, ← List.map_take] at h
  exact h
theorem ev_dropT {us : List Str} {n i j : Nat} (hi : Γ[i]? = some (.im (mT (us.map mS)))) (hj : Γ[j]? = some (.im (mI (n : Int)))) : Ev pn (tSl (rSlA K) (tVar i) (tPart (tOp (rI0 fun i j => V.int (i + j)) (tVar j) (tC (V.int 1)))) tNoPart) Γ 0 (mT ((us.drop (n + 1)).map mS)) := by
  have h := ev_slT (K := K) (pn := pn) (ev_var hi) (eo_some (i := (n : Int) + 1) (ev_op (ev_var hj) (ev_c (v := .int 1)) (rv_I0 (g := fun i j => V.int (i + j))))) eo_none
  rw [show ((n : Int) + 1) = ((n + 1 : Nat) : Int) from rfl, cutA_drop, ← List.map_drop] at h
  exact h
end
abbrev odd7 : List PyData := [.none, .bool true, .int 0, .tuple [], .list [], .dict [], .tuple [.str "a"]]
abbrev odd13 : List PyData := [.none, .bool true, .int 0, .str "", .tuple [], .list [], .dict [], .str "a", .tuple [.str ""], .tuple [.tuple []], .tuple [.none], .int (10 ^ 40), .dict [(.str "a", .int 1)]]
theorem gd7 : ∀ d ∈ odd7, Gd 2 20 d := fun d m => Gd.of ((by decide +kernel : ∀ d ∈ odd7, gdB 2 20 d = true) d m)
theorem gd13 : ∀ d ∈ odd13, Gd 2 20 d ∧ lenD d ≤ 100 := fun d m => ⟨Gd.of ((by decide +kernel : ∀ d ∈ odd13, gdB 2 20 d = true) d m), (by decide +kernel : ∀ d ∈ odd13, lenD d ≤ 100) d m⟩
end Ev

set_option Elab.async false
set_option linter.all false
set_option maxRecDepth 100000
set_option maxHeartbeats 4000000
namespace Ev
open PySem PySem.Spec L2
variable [z : Tz]
section
variable {P : Program} {w : World} {K : PySem.W.Frag} {mg : Str → Option Value} {base : Heap}
abbrev sBent : Stmt := topS 29
theorem scBent : FnScope ["pen", "some", "row", "way", "at", "one"] ["pen", "some", "row"] (defScope sBent) := ⟨rfl, rfl, rfl, by decide +kernel, rfl, by decide +kernel, by decide +kernel⟩

structure ArgBe where
  ss : List Str
  us : List Str
structure OkBe (x : ArgBe) : Prop where
  few : x.ss.length ≤ 50
  ne : x.us ≠ []
  lu : x.us.length ≤ 6
  ok : ∀ s ∈ x.ss, Gd 0 20 (.str s)
  ou : ∀ s ∈ x.us, Gd 0 20 (.str s)
abbrev spBent : Sp := SpP (α := ArgBe) (fun p x => [mV (.ref p), mStrs x.ss, mT (x.us.map mS)]) OkBe (fun _ => 6) (fun x => mEx OkB mDat)
theorem ok_bent {f : Addr} {fd : FuncData} {k : Nat} (F : Fun K "_law_bent" "_law_bent" sBent f fd) (T : Bl mg) (G__law_draw : Fd P w K mg base k "_law_draw" ["pen", "many"] spDraw) : GnOk P w K mg base CX0 (k + 1) f fd ["pen", "some", "row"] spBent := by
  refine okG F scBent (fun vs H Q E h => SpP.len h (fun _ _ => rfl)) (fun cdv A outer s H vs Q E hc hr h => ?_)
  have hu := hu_of hr
  refine ⟨_, (pss_cons (ps_set (i := 3) scBent.nd rfl (.inl rfl) (pe_fd G__law_draw hc (hr.mono (by omega)) (pa_cons (pv 0) (pa_cons pe_int pa_nil))))
      (pss_cons (ps_set (i := 4) scBent.nd rfl (.inl rfl) (pe_fd G__law_draw hc (hr.mono (by omega)) (pa_cons (pv 0) (pa_cons (pe_callB (call_lenK (K := K)) (by rfl) T.len (PySem.boot_len) (pa_cons (pv 2) pa_nil)) pa_nil))))
      (pss_cons (ps_set (i := 5) scBent.nd rfl (.inl rfl) (pe_ix (ix_listK (K := K)) (pe_op op_cat (pv 1) (pe_lst (pa_cons pe_str pa_nil))) (pe_fd G__law_draw hc (hr.mono (by omega)) (pa_cons (pv 0) (pa_cons (pe_op op_add (pe_callB (call_lenK (K := K)) (by rfl) T.len (PySem.boot_len) (pa_cons (pv 1) pa_nil)) pe_int) pa_nil))) (fun _ _ => rfl)))
      (pss_cons (ps_if (pt_cmpR op_lt (pv 3) pe_int (nomark _))
        (pss_one (ps_ret (pe_op op_catA (pe_op op_catA (pe_slice sl_tupA (pv 2) po_none (po_some (pv 4))) (pe_ix (ix_listK (K := K)) (pe_lst (pa_cons (pe_tup (pa_cons (pv 5) pa_nil)) (pa_cons (pe_tup pa_nil) (pa_cons (pe_tup (pa_cons (pv 5) (pa_cons (pe_ix (ix_tupK (K := K)) (pv 2) (pv 4) (fun _ _ => rfl)) pa_nil))) pa_nil)))) (pv 3) (fun _ _ => rfl))) (pe_slice sl_tupA (pv 2) (po_some (pe_op op_add (pv 4) pe_int)) po_none))))
        pss_nil)
      (pss_cons (ps_if (pt_cmpR op_eq (pv 3) pe_int (nomark _))
        (pss_one (ps_ret (pe_revT (pv 2))))
        pss_nil)
      (pss_cons (ps_if (pt_cmpR op_eq (pv 3) pe_int (nomark _))
        (pss_one (ps_ret (pe_ix (ix_listK (K := K)) (pe_lst (pa_cons (pe_callTy call_list_of (by rfl) T.list (by decide +kernel) (pa_cons (pv 2) pa_nil)) (pa_cons (pe_tup (pa_cons (pv 2) pa_nil)) (pa_cons (pe_op op_catA (pv 2) (pv 2)) (pa_cons (pe_op op_repT (pe_slice sl_tupA (pv 2) po_none (po_some pe_int)) pe_int) pa_nil))))) (pe_fd G__law_draw hc (hr.mono (by omega)) (pa_cons (pv 0) (pa_cons pe_int pa_nil))) (fun _ _ => rfl))))
        pss_nil)
      (pss_cons (ps_if (pt_cmpR op_eq (pv 3) pe_int (nomark _))
        (pss_one (ps_ret (pe_op op_catA (pe_op op_catA (pe_slice sl_tupA (pv 2) po_none (po_some (pv 4))) (pe_tup (pa_cons (pe_ix (ix_listK (K := K)) (pe_lst (pa_cons pe_non (pa_cons pe_bl (pa_cons pe_int (pa_cons (pe_tup pa_nil) (pa_cons (pe_lst pa_nil) (pa_cons pe_dnewK (pa_cons (pe_tup (pa_cons pe_str pa_nil)) pa_nil)))))))) (pe_fd G__law_draw hc (hr.mono (by omega)) (pa_cons (pv 0) (pa_cons pe_int pa_nil))) (fun _ _ => rfl)) pa_nil))) (pe_slice sl_tupA (pv 2) (po_some (pe_op op_add (pv 4) pe_int)) po_none))))
        pss_nil)
      (pss_cons (ps_if (pt_cmpR op_eq (pv 3) pe_int (nomark _))
        (pss_one (ps_ret (pe_ix (ix_listK (K := K)) (pe_lst (pa_cons pe_non (pa_cons pe_bl (pa_cons pe_int (pa_cons pe_str (pa_cons (pe_tup pa_nil) (pa_cons (pe_lst pa_nil) (pa_cons pe_dnewK (pa_cons pe_str (pa_cons (pe_tup (pa_cons pe_str pa_nil)) (pa_cons (pe_tup (pa_cons (pe_tup pa_nil) pa_nil)) (pa_cons (pe_tup (pa_cons pe_non pa_nil)) (pa_cons (pe_op op_pow pe_int pe_int) (pa_cons (pe_disp (pps_cons pe_str pe_int pps_nil) (by rfl) (by rfl) (fun z => by cases z) (by decide)) pa_nil)))))))))))))) (pe_fd G__law_draw hc (hr.mono (by omega)) (pa_cons (pv 0) (pa_cons pe_int pa_nil))) (fun _ _ => rfl))))
        pss_nil)
      (pss_one (ps_ret (pv 2))))))))))), fn_P h fun p x hx => ?_⟩
  obtain ⟨ss, us⟩ := x
  obtain ⟨few, ne, lu, ok, ou⟩ := hx
  replace few : ss.length ≤ 50 := few
  replace ne : us ≠ [] := ne
  replace lu : us.length ≤ 6 := lu
  replace ok : ∀ s ∈ ss, Gd 0 20 (.str s) := ok
  replace ou : ∀ s ∈ us, Gd 0 20 (.str s) := ou
  have hl : 0 < us.length := List.length_pos_iff.mpr ne
  show Sx (some p) _ [.im (mV (.ref p)), .im (mStrs ss), .im (mT (us.map mS)), .no, .no, .no] 6 (endO (mEx OkB mDat))
  refine x_one (c1 := 1) (i := 3) (ev_callP (9 : Int) (ea_cons (ev_var (i := 0) rfl) (ea_cons ev_c ea_nil)) ⟨by decide, by decide⟩) fun w hw => ?_
  refine x_one (c1 := 1) (i := 4) (ev_callP ((us.length : Nat) : Int) (ea_cons (ev_var (i := 0) rfl) (ea_cons (Ev.mono (ev_cb (ea_cons (ev_var (i := 2) rfl) ea_nil) rc_lenT) (fun G v h => by rw [List.length_map] at h; exact h) (Nat.le_refl _)) ea_nil)) ⟨by omega, by omega⟩) fun a ha => ?_
  have h1 : Ev (some p) (tOp (rIxL K) (tOp rCat (tVar 1) (tLst (tCons (tC (V.str "nobody")) tNil))) (tCall spDraw [] E0 (tCons (tVar 0) (tCons (tOp (rI0 fun i j => V.int (i + j)) (tCB (rLenX K) (tCons (tVar 1) tNil)) (tC (V.int 1))) tNil)))) [.im (mV (.ref p)), .im (mStrs ss), .im (mT (us.map mS)), .im (mI w), .im (mI a), .no] 1 (mEx (· ∈ ss ++ [("nobody" : Str)]) mS) :=
    Ev.mono (ev_op (S1 := mStrs (ss ++ [("nobody" : Str)])) (ev_op (S2 := mStrs [("nobody" : Str)]) (ev_var (i := 1) rfl) (ev_lst (ea_cons ev_c ea_nil)) (rv_catM (by simp; omega))) (ev_callP (((ss.length : Nat) : Int) + 1) (ea_cons (ev_var (i := 0) rfl) (ea_cons (ev_op (ev_cb (ea_cons (ev_var (i := 1) rfl) ea_nil) rc_lenM) ev_c (rv_I0 (g := fun i j => V.int (i + j)))) ea_nil)) ⟨by omega, by omega⟩) (rv_ixLx (xs := ss ++ [("nobody" : Str)]) (R := mS) fun d hd => ⟨hd.1, by rw [List.length_append]; simp; omega⟩)) (fun G v h => h) (by decide)
  refine x_one (c1 := 1) (i := 5) h1 fun o ho => ?_
  have go : Gd 0 20 (.str o) := by
    rcases List.mem_append.mp ho with m | m
    · exact ok o m
    · rw [List.mem_singleton.mp m]; exact Gd.of (by decide +kernel)
  obtain ⟨w, rfl⟩ := Int.eq_ofNat_of_zero_le hw.1
  obtain ⟨a, rfl⟩ := Int.eq_ofNat_of_zero_le ha.1
  have la : a < us.length := by have := ha.2; omega
  show Sx (some p) _ [.im (mV (.ref p)), .im (mStrs ss), .im (mT (us.map mS)), .im (mI (w : Int)), .im (mI (a : Int)), .im (mS o)] 3 (endO (mEx OkB mDat))
  have hA : Ev (some p) (tSl (rSlA K) (tVar 2) tNoPart (tPart (tVar 4))) [.im (mV (.ref p)), .im (mStrs ss), .im (mT (us.map mS)), .im (mI (w : Int)), .im (mI (a : Int)), .im (mS o)] 0 (mT ((us.take a).map mS)) := ev_takeT rfl rfl
  have hB : Ev (some p) (tSl (rSlA K) (tVar 2) (tPart (tOp (rI0 fun i j => V.int (i + j)) (tVar 4) (tC (V.int 1)))) tNoPart) [.im (mV (.ref p)), .im (mStrs ss), .im (mT (us.map mS)), .im (mI (w : Int)), .im (mI (a : Int)), .im (mS o)] 0 (mT ((us.drop (a + 1)).map mS)) := ev_dropT rfl rfl
  have lA : (us.take a).length ≤ 6 := Nat.le_trans (List.length_take_le ..) (by omega)
  have lB : (us.drop (a + 1)).length ≤ 6 := by rw [List.length_drop]; omega
  have gA : ∀ u ∈ us.take a, Gd 0 20 (.str u) := fun u m => ou u (List.mem_of_mem_take m)
  have gB : ∀ u ∈ us.drop (a + 1), Gd 0 20 (.str u) := fun u m => ou u (List.mem_of_mem_drop m)
  refine x_guard (c1 := 0) (c2 := 0) (c3 := 3) (et_testV (ev_op (ev_var (i := 3) rfl) ev_c rv_I0)) (fun hT => ?_) (fun _ => ?_)
  · have hw3 := of_decide_eq_true hT.symm
    have ix : atI (us.map mS) (a : Int) = some (mS us[a]) := by
      rw [atI_map]
      obtain ⟨y, _, h, e⟩ := atI_lt (xs := us) (d := (a : Int)) (by omega) (by omega)
      rw [h]
      have : us[a]? = some y := e
      rw [List.getElem?_eq_getElem la] at this
      cases this
      rfl
    have hL : Ev (some p) (tLst (tCons (tTup (tCons (tVar 5) tNil)) (tCons (tTup tNil) (tCons (tTup (tCons (tVar 5) (tCons (tOp (rIxT K) (tVar 2) (tVar 4)) tNil))) tNil)))) [.im (mV (.ref p)), .im (mStrs ss), .im (mT (us.map mS)), .im (mI (w : Int)), .im (mI (a : Int)), .im (mS o)] 0 (mL ([[o], [], [o, us[a]]].map fun ms : List Str => mT (ms.map mS))) :=
      ev_lst (ea_cons (ev_tup (ea_cons (ev_var (i := 5) rfl) ea_nil)) (ea_cons (ev_tup ea_nil) (ea_cons (ev_tup (ea_cons (ev_var (i := 5) rfl) (ea_cons (ev_op (ev_var (i := 2) rfl) (ev_var (i := 4) rfl) (rv_ixT ix)) ea_nil))) ea_nil)))
    have hM := ev_op hL (Ev.mono (S1 := mInts (fun e => 0 ≤ e ∧ e < 3)) (ev_var (i := 3) rfl) (fun G v h => ⟨_, ⟨by omega, hw3⟩, h⟩) (Nat.le_refl _)) (rv_ixLx (K := K) (xs := [[o], [], [o, us[a]]]) (R := fun ms : List Str => mT (ms.map mS)) fun d hd => ⟨hd.1, by simpa using hd.2⟩)
    have lm : ∀ ms ∈ [[o], [], [o, us[a]]], ms.length ≤ 2 ∧ ∀ m ∈ ms, Gd 0 20 (.str m) := fun ms m => by
      simp only [List.mem_cons, List.not_mem_nil, or_false] at m
      rcases m with rfl | rfl | rfl
      · exact ⟨by simp, fun m h => by rw [List.mem_singleton.mp h]; exact go⟩
      · exact ⟨by simp, fun m h => nomatch h⟩
      · refine ⟨by simp, fun m h => ?_⟩
        simp only [List.mem_cons, List.not_mem_nil, or_false] at h
        rcases h with rfl | rfl
        · exact go
        · exact ou _ (List.getElem_mem la)
    have hC := ev_op (ev_op hA hM (rv_exR (T := fun ms : List Str => mT ((us.take a ++ ms).map mS)) fun ms m => rv_catTM (K := K) (by have := (lm ms m).1; omega))) hB (rv_exL (T := fun ms : List Str => mT ((us.take a ++ ms ++ us.drop (a + 1)).map mS)) fun ms m => rv_catTM (K := K) (by have := (lm ms m).1; rw [List.length_append]; omega))
    refine x_ret (c1 := 0) hC fun G v ⟨ms, m, h⟩ => ⟨.tuple ((us.take a ++ ms ++ us.drop (a + 1)).map .str), okB_strs (fun u mu => ?_) (by have := (lm ms m).1; rw [List.length_append, List.length_append]; omega), by rw [dat_strs]; exact h⟩
    rcases List.mem_append.mp mu with mu | mu
    · rcases List.mem_append.mp mu with mu | mu
      · exact gA u mu
      · exact (lm ms m).2 u mu
    · exact gB u mu
  refine x_guard (c1 := 0) (c2 := 0) (c3 := 3) (et_testV (ev_op (ev_var (i := 3) rfl) ev_c rv_eqI)) (fun _ => ?_) (fun _ => ?_)
  · refine x_ret (c1 := 0) (ev_revT (K := K) (ev_var (i := 2) rfl)) fun G v h => ⟨.tuple (us.reverse.map .str), okB_strs (fun u mu => ou u (List.mem_reverse.mp mu)) (by rw [List.length_reverse]; omega), ?_⟩
    rw [dat_strs, List.map_reverse]
    exact h
  refine x_guard (c1 := 0) (c2 := 1) (c3 := 2) (et_testV (ev_op (ev_var (i := 3) rfl) ev_c rv_eqI)) (fun _ => ?_) (fun _ => ?_)
  · obtain ⟨u0, r, e0⟩ : ∃ u0 r, us = u0 :: r := by
      cases us with
      | nil => exact absurd rfl ne
      | cons u r => exact ⟨u, r, rfl⟩
    have gt : Gd 1 126 (.tuple (us.map .str)) := by
      have g : Gd 1 ((us.map PyData.str).length * 21) (.tuple (us.map .str)) := gd_tup fun d m => by
        obtain ⟨u, mu, rfl⟩ := List.mem_map.mp m
        exact ou u mu
      rw [List.length_map] at g
      exact g.more (by decide) (by omega)
    have gl : Gd 1 126 (.list (us.map .str)) := by
      have g : Gd 1 ((us.map PyData.str).length * 21) (.list (us.map .str)) := gd_lst fun d m => by
        obtain ⟨u, mu, rfl⟩ := List.mem_map.mp m
        exact ou u mu
      rw [List.length_map] at g
      exact g.more (by decide) (by omega)
    have gu : ∀ u ∈ [u0, u0], Gd 0 20 (.str u) := fun u m => by
      have : u = u0 := by simpa using m
      rw [this]
      exact ou u0 (by rw [e0]; exact List.mem_cons_self ..)
    have e1 : Ev (some p) (tCB (rListOf K) (tCons (tVar 2) tNil)) [.im (mV (.ref p)), .im (mStrs ss), .im (mT (us.map mS)), .im (mI (w : Int)), .im (mI (a : Int)), .im (mS o)] 0 (mDat (.list (us.map .str))) := by
      rw [dat_lst, map_str]
      exact ev_cb (ea_cons (ev_var (i := 2) rfl) ea_nil) rc_listT
    have e2 : Ev (some p) (tTup (tCons (tVar 2) tNil)) [.im (mV (.ref p)), .im (mStrs ss), .im (mT (us.map mS)), .im (mI (w : Int)), .im (mI (a : Int)), .im (mS o)] 0 (mDat (.tuple [.tuple (us.map .str)])) := by
      rw [dat_tup]
      show Ev _ _ _ _ (mT [mDat (.tuple (us.map .str))])
      rw [dat_strs]
      exact ev_tup (ea_cons (ev_var (i := 2) rfl) ea_nil)
    have e3 : Ev (some p) (tOp (rCatA K) (tVar 2) (tVar 2)) [.im (mV (.ref p)), .im (mStrs ss), .im (mT (us.map mS)), .im (mI (w : Int)), .im (mI (a : Int)), .im (mS o)] 0 (mDat (.tuple ((us ++ us).map .str))) := by
      rw [dat_strs]
      exact ev_op (ev_var (i := 2) rfl) (ev_var (i := 2) rfl) (rv_catTM (by omega))
    have e4 : Ev (some p) (tOp (rRepT K) (tSl (rSlA K) (tVar 2) tNoPart (tPart (tC (V.int 1)))) (tC (V.int 2))) [.im (mV (.ref p)), .im (mStrs ss), .im (mT (us.map mS)), .im (mI (w : Int)), .im (mI (a : Int)), .im (mS o)] 0 (mDat (.tuple ([u0, u0].map .str))) := by
      rw [dat_strs]
      have h := ev_slT (K := K) (pn := some p) (Γ := [.im (mV (.ref p)), .im (mStrs ss), .im (mT (us.map mS)), .im (mI (w : Int)), .im (mI (a : Int)), .im (mS o)]) (ev_var (i := 2) (S := mT (us.map mS)) rfl) eo_none (eo_some (ev_c (v := .int 1)))
      rw [show cutA (us.map mS) none (some 1) = (us.map mS).take 1 from cutA_take _ 1, show (us.map mS).take 1 = [mS u0] by rw [e0]; rfl] at h
      exact ev_op h ev_c rv_rep2
    refine x_ret (c1 := 1) (Ev.mono (ev_op (S1 := mL (([.list (us.map .str), .tuple [.tuple (us.map .str)], .tuple ((us ++ us).map .str), .tuple ([u0, u0].map .str)] : List PyData).map mDat)) (ev_lst (ea_cons e1 (ea_cons e2 (ea_cons e3 (ea_cons e4 ea_nil))))) (ev_callP (4 : Int) (ea_cons (ev_var (i := 0) rfl) (ea_cons ev_c ea_nil)) ⟨by decide, by decide⟩) (rv_ixLx (R := mDat) fun d hd => ⟨hd.1, by simpa using hd.2⟩)) (fun G v h => h) (by decide)) fun G v ⟨d, m, h⟩ => ⟨d, ?_, h⟩
    simp only [List.mem_cons, List.not_mem_nil, or_false] at m
    rcases m with rfl | rfl | rfl | rfl
    · exact ⟨gl.more (by decide) (by decide), Nat.zero_le _⟩
    · have g : Gd 2 (1 * 127) (.tuple [.tuple (us.map .str)]) := gd_tup (ds := [.tuple (us.map .str)]) fun d m => by
        rw [List.mem_singleton.mp m]
        exact gt
      exact ⟨g.more (by decide) (by decide), by show 1 ≤ 100; decide⟩
    · exact okB_strs (fun u mu => (List.mem_append.mp mu).elim (ou u) (ou u)) (by rw [List.length_append]; omega)
    · exact okB_strs gu (by simp)
  refine x_guard (c1 := 0) (c2 := 1) (c3 := 1) (et_testV (ev_op (ev_var (i := 3) rfl) ev_c rv_eqI)) (fun _ => ?_) (fun _ => ?_)
  · have hE : Ev (some p) (tOp (rIxL K) (tLst (tCons (tC V.non) (tCons (tC (V.bl true)) (tCons (tC (V.int 0)) (tCons (tTup tNil) (tCons (tLst tNil) (tCons tDNewK (tCons (tTup (tCons (tC (V.str "a")) tNil)) tNil)))))))) (tCall spDraw [] E0 (tCons (tVar 0) (tCons (tC (V.int 7)) tNil)))) [.im (mV (.ref p)), .im (mStrs ss), .im (mT (us.map mS)), .im (mI (w : Int)), .im (mI (a : Int)), .im (mS o)] 1 (mEx (· ∈ odd7) mDat) :=
      Ev.mono (ev_op (S1 := mL (odd7.map mDat)) (ev_lst (ea_cons ev_c (ea_cons ev_c (ea_cons ev_c (ea_cons ev_tup0 (ea_cons ev_lst0 (ea_cons (ev_dnew (c := 0)) (ea_cons ev_tupc ea_nil)))))))) (ev_callP (7 : Int) (ea_cons (ev_var (i := 0) rfl) (ea_cons ev_c ea_nil)) ⟨by decide, by decide⟩) (rv_ixLx (xs := odd7) (R := mDat) fun d hd => ⟨hd.1, by simpa using hd.2⟩)) (fun G v h => h) (by decide)
    have hC := ev_op (ev_op hA (ev_tup (ea_cons hE ea_nil)) (rv_catT (K := K) (by rw [List.length_map]; simp; omega))) hB (rv_catT (K := K) (by rw [List.length_append, List.length_map, List.length_map]; simp; omega))
    refine x_ret (c1 := 1) (Ev.mono hC (fun G v h => h) (by decide)) fun G v h => ?_
    rw [List.append_assoc] at h
    obtain ⟨b, vs, e, hb, zz⟩ := h
    obtain ⟨d, md, t⟩ := zip_midEx zz
    refine ⟨.tuple ((us.take a).map .str ++ ([d] ++ (us.drop (a + 1)).map .str)), ⟨?_, ?_⟩, ?_⟩
    · have g : Gd 3 (((us.take a).map PyData.str ++ ([d] ++ (us.drop (a + 1)).map PyData.str)).length * 21) (.tuple ((us.take a).map .str ++ ([d] ++ (us.drop (a + 1)).map .str))) := gd_tup fun x m => by
        rcases List.mem_append.mp m with m | m
        · obtain ⟨u, mu, rfl⟩ := List.mem_map.mp m
          exact (gA u mu).more (by decide) (Nat.le_refl _)
        · rcases List.mem_append.mp m with m | m
          · rw [List.mem_singleton.mp m]; exact gd7 d md
          · obtain ⟨u, mu, rfl⟩ := List.mem_map.mp m
            exact (gB u mu).more (by decide) (Nat.le_refl _)
      refine g.more (by decide) ?_
      rw [List.length_append, List.length_append, List.length_map, List.length_map, List.length_singleton]
      omega
    · show ((us.take a).map PyData.str ++ ([d] ++ (us.drop (a + 1)).map PyData.str)).length ≤ 100
      rw [List.length_append, List.length_append, List.length_map, List.length_map, List.length_singleton]
      omega
    · rw [dat_tup, List.map_append, List.map_append, map_str, map_str]
      exact ⟨b, vs, e, hb, t⟩
  refine x_guard (c1 := 0) (c2 := 1) (c3 := 0) (et_testV (ev_op (ev_var (i := 3) rfl) ev_c rv_eqI)) (fun _ => ?_) (fun _ => ?_)
  · refine x_ret (c1 := 1) (Ev.mono (ev_op (S1 := mL (odd13.map mDat)) (ev_lst (ea_cons ev_c (ea_cons ev_c (ea_cons ev_c (ea_cons ev_c (ea_cons ev_tup0 (ea_cons ev_lst0 (ea_cons (ev_dnew (c := 0)) (ea_cons ev_c (ea_cons ev_tupc (ea_cons ev_tupt (ea_cons ev_tupc (ea_cons (ev_op ev_c ev_c (rv_I (g := fun i j => V.int (i ^ j.toNat)) ⟨by decide, by decide, by decide⟩)) (ea_cons (ev_disp1 (c := 0)) ea_nil)))))))))))))) (ev_callP (13 : Int) (ea_cons (ev_var (i := 0) rfl) (ea_cons ev_c ea_nil)) ⟨by decide, by decide⟩) (rv_ixLx (xs := odd13) (R := mDat) fun d hd => ⟨hd.1, by simpa using hd.2⟩)) (fun G v h => h) (by decide)) fun G v ⟨d, m, h⟩ => ⟨d, ⟨(gd13 d m).1.more (by decide) (by decide), (gd13 d m).2⟩, h⟩
  exact x_ret (c1 := 0) (ev_var (i := 2) rfl) fun G v h => ⟨.tuple (us.map .str), okB_strs ou (by omega), by rw [dat_strs]; exact h⟩
end
end Ev

set_option Elab.async false
set_option linter.all false
set_option maxRecDepth 100000
set_option maxHeartbeats 4000000
namespace Ev
open PySem PySem.Spec L2
variable [z : Tz]
section
variable {P : Program} {w : World} {K : PySem.W.Frag} {mg : Str → Option Value} {base : Heap}
abbrev sPen : Stmt := topS 23
theorem scPen : FnScope ["script"] ["script"] (defScope sPen) := ⟨rfl, rfl, rfl, by decide +kernel, rfl, by decide +kernel, by decide +kernel⟩

abbrev spPen (K : PySem.W.Frag) : Sp := fun vs H Q _ => ∃ (a : Addr) (ns : List Int), vs = [.ref a] ∧ SqL K H a (ns.map V.int) ∧ ns.length ≤ 63 ∧
  ∀ (p q : Addr) (H' : Hp), H p = none → H q = none → p ≠ q → Same H H' → H' p = some (.lst [.ref q, .int 0, .int 0]) → H' q = some (.lst (ns.map V.int)) → Q (.ref p) H'
theorem ok_pen {f : Addr} {fd : FuncData} {k : Nat} (F : Fun K "_law_pen" "_law_pen" sPen f fd) (T : Bl mg) : GnOk P w K mg base CX0 (k + 1) f fd ["script"] (spPen K) := by
  refine okG F scPen (fun vs H Q E h => ?_) (fun cdv A outer s H vs Q E hc hr h => ?_)
  · obtain ⟨a, ns, rfl, _⟩ := h
    rfl
  · obtain ⟨a, ns, rfl, hS, hl, q⟩ := h
    refine ⟨_, (pss_one (ps_ret (pe_lst (pa_cons (pe_callTy call_list_of (by rfl) T.list (by decide +kernel) (pa_cons (pe_slice (sl_listK (K := K)) (pv 0) po_none (po_some pe_int)) pa_nil)) (pa_cons pe_int (pa_cons pe_int pa_nil)))))), ?_⟩
    refine ⟨.ref a, rfl, 63, rfl, a, ns.map V.int, rfl, hS, fun c hc => ?_⟩
    refine ⟨c, _, rfl, .inl (SqL.of upd_same), fun l hl2 => ?_⟩
    refine ⟨by show 3 ≤ sizeLine; decide, fun p hp => ?_⟩
    have e1 : cutV (ns.map V.int) none (some 63) = ns.map V.int := by
      unfold cutV
      rw [HT.sIx_none, show (63 : Int) = ((63 : Nat) : Int) from rfl, HT.sIx_nat, List.drop_zero, Nat.sub_zero, Nat.min_eq_right (by rw [List.length_map]; exact hl), List.take_length]
    have s1 : Same H (upd H c (.lst (cutV (ns.map V.int) none (some 63)))) := fun b o e => by rw [upd_ne (ne_of_none e hc)]; exact e
    have s2 : Same (upd H c (.lst (cutV (ns.map V.int) none (some 63)))) (upd (upd H c (.lst (cutV (ns.map V.int) none (some 63)))) l (.lst (cutV (ns.map V.int) none (some 63)))) := fun b o e => by rw [upd_ne (ne_of_none e hl2)]; exact e
    have npl : p ≠ l := fun z => by rw [z, upd_same] at hp; cases hp
    refine q p l _ ((s1.trans s2).free hp) (s1.free hl2) npl (((s1.trans s2)).trans fun b o e => by rw [upd_ne (ne_of_none e hp)]; exact e) upd_same ?_
    rw [upd_ne npl.symm, upd_same, e1]
end
end Ev

set_option Elab.async false
set_option linter.all false
set_option maxRecDepth 100000
set_option maxHeartbeats 4000000
/-! list(zip(a, b)). -/
namespace Ev
open PySem
namespace FZ
theorem zip_no_len : typeLookup (.type "zip") "__len__" = pure none := by rw [typeLookup_type, builtinLookup_eq_fast]; kernel_rfl
theorem zip_no_hint : typeLookup (.type "zip") "__length_hint__" = pure none := by rw [typeLookup_type, builtinLookup_eq_fast]; kernel_rfl
end FZ
theorem itat_lt {b : Bool} {h : Heap} {it l : Addr} {i : Nat} (x : ItAt b h it l i) : it < h.objs.size := by
  cases b <;> (obtain ⟨o, e, _⟩ := x; exact Heap.lt_size e)
theorem few_line {n : Nat} (h : n ≤ 100000) : n ≤ sizeLine := Nat.le_trans h (by decide)
section
variable {prog : Program} {w : World} {A : Around} {E : Value → Shared → Prop} {z S : Addr}
abbrev lstO (acc : Array Value) (c : Nat) : Obj := { cls := .type "list", dict := none, data := .seq acc c, slots := #[] }
/-- how the loop goes, from a heap that has all of this one and the new list -/
def LoopOk (prog : Program) (w : World) (s : Shared) (S z : Addr) (P : Shared → Prop) : Prop := ∀ (A' : Around) (R : Result → Shared → Prop), A'.handled = none → (∀ s', P s' → R (.ok (.ret .none)) s') → ∀ (h : Heap) (c₁ : Nat),
  (∀ d o, d ≠ S → s.heap.get? d = some o → h.get? d = some o) → h.get? S = some (lstO #[] c₁) → codeAny (model prog w) A' (.builtin "list.extend.loop" ⟨[.ref S, .ref z, .none], []⟩) R { s with heap := h }
theorem zipl_extend {s : Shared} {P : Shared → Prop} {R : Result → Shared → Prop} (hh : A.handled = none) (ty : s.TypeIs (.ref z) "zip") (sz : S ≠ z) (L : LoopOk prog w s S z P) (c₀ : Nat) (hl : s.heap.get? S = some (lstO #[] c₀)) (hR : ∀ s', P s' → R (.ok (.ret .none)) s') :
    wpAny (model prog w) A.in1 (Builtin.List.listExtendWith (.ref S) (.ref z) .none)
      (fun fin s' => match fin with | .done f => R (.ok f) s' | .again c' => c'.quiet = true ∧ codeAny (model prog w) A c' R s') (fun e s' => R (.error e) s') s := by
  unfold Builtin.List.listExtendWith
  refine wpAny_bind (wpAny_typeOf ty ?_)
  have h1 : Builtin.List.listSameRef (.ref S) (.ref z) = false := by simp [Builtin.List.listSameRef, sz]
  have h2 : (Value.type "zip" == Value.type "list") = false := by decide
  have h3 : (Value.type "zip" == Value.type "tuple") = false := by decide
  simp only [h1, h2, h3, Bool.or_false, Bool.false_eq_true, if_false]
  refine wpAny_bind ?_
  obtain ⟨oz, hz, ez⟩ := id ty
  refine wpAny_pyIter_slot ty F.slot_zip_iter (wpAny_call_entry F.slot_zip_iter ty F.entry_zip_iter ?_ (F.args_zip_iter_1 _))
  refine wpAny_pure ⟨_, rfl, "zip", _, ty, F.slot_zip_next.lookup, ?_⟩
  refine wpAny_bind (wpAny_holding ?_)
  unfold Builtin.List.listLengthHint
  refine wpAny_bind (wpAny_specialOf ty FZ.zip_no_len ?_)
  show wpAny _ A.in1 (specialOf (Value.ref z) (Str.ofString "__length_hint__") >>= _) _ _ _
  refine wpAny_bind (wpAny_specialOf ty FZ.zip_no_hint ?_)
  refine wpAny_pure ?_
  have go := fun h c₁ => L A R hh hR h c₁
  refine wpAny_ite_split (fun _ => ?_) (fun _ => wpAny_pure ⟨plainId_quiet F.plain_extend_loop _, go s.heap c₀ (fun _ _ _ e => e) hl⟩)
  refine wpAny_bind (wpAny_rule ?_)
  refine wpAny_bind ?_
  show wpAny _ _ (updateSeq S (·.push .none) >>= fun _ => updateSeq S (·.pop)) _ _ _
  refine wpAny_bind (wpAny_updateSeq hl rfl ?_)
  have hS₂ := Heap.get?_update_self (Obj.mapSeq (·.push Value.none)) hl rfl
  refine wpAny_updateSeq (hz := by seq_fits) hS₂ rfl ?_
  have hS₃ := Heap.get?_update_self (Obj.mapSeq (·.pop)) hS₂ rfl
  exact wpAny_pure ⟨plainId_quiet F.plain_extend_loop _, go _ _ (fun d o hd e => (Heap.get?_update_other _ _ (Ne.symm hd)).trans ((Heap.get?_update_other _ _ (Ne.symm hd)).trans e)) hS₃⟩
theorem zipl_init {s : Shared} {P : Shared → Prop} {R : Result → Shared → Prop} (hh : A.handled = none) (ty : s.TypeIs (.ref z) "zip") (sz : S ≠ z) (L : LoopOk prog w s S z P) (hl : s.heap.get? S = some { cls := .type "list", data := .seq #[] }) (hR : ∀ s', P s' → R (.ok (.ret .none)) s') :
    wpAny (model prog w) A.in1 (Builtin.«list.__init__» ⟨[.ref S, .ref z], []⟩)
      (fun fin s' => match fin with | .done f => R (.ok f) s' | .again c' => c'.quiet = true ∧ codeAny (model prog w) A c' R s') (fun e s' => R (.error e) s') s := by
  show wpAny _ _ (do let old ← Builtin.List.listItems (.ref S); Builtin.List.listUpdate (.ref S) (fun _ => #[]); letGo old.toList.reverse; Builtin.List.listExtendWith (.ref S) (.ref z) .none) _ _ s
  refine wpAny_bind ?_
  unfold Builtin.List.listItems
  refine wpAny_bind (wpAny_seqItems hl rfl (wpAny_pure ?_))
  show wpAny _ _ (updateSeq S (fun _ => #[]) >>= fun _ => letGo (#[] : Array Value).toList.reverse >>= fun _ => Builtin.List.listExtendWith (.ref S) (.ref z) .none) _ _ s
  refine wpAny_bind (wpAny_updateSeq hl rfl ?_)
  have hS₂ := Heap.get?_update_self (Obj.mapSeq (fun _ => (#[] : Array Value))) hl rfl
  have kk : ∀ d o, d ≠ S → s.heap.get? d = some o → (s.heap.update S (Obj.mapSeq (fun _ => (#[] : Array Value)))).get? d = some o := fun d o hd e => (Heap.get?_update_other _ _ (Ne.symm hd)).trans e
  refine wpAny_bind (wpAny_letGo ?_)
  obtain ⟨oz, hz, ez⟩ := id ty
  exact zipl_extend (s := { s with heap := s.heap.update S (Obj.mapSeq (fun _ => (#[] : Array Value))) }) hh ⟨oz, kk _ _ sz.symm hz, ez⟩ sz (fun A' R' hh' hR' h c₁ k2 hl2 => L A' R' hh' hR' h c₁ (fun d o hd e => k2 d o hd (kk d o hd e)) hl2) _ hS₂ hR
/-- list(z), z a zip not yet begun -/
theorem zipl_call {s : Shared} {Q : Value → Shared → Prop} (hh : A.handled = none) (ty : s.TypeIs (.ref z) "zip") (L : LoopOk prog w s s.heap.objs.size z (Q (.ref s.heap.objs.size))) : wpAny (model prog w) A (call (.type "list") [.ref z]) Q E s := by
  obtain ⟨oz, hz, ez⟩ := id ty
  have lz := Heap.lt_size hz
  refine callType_codes (Q₁ := fun obj s₁ => obj = .ref s.heap.objs.size ∧ s₁ = { s with heap := s.heap.push { cls := .type "list", data := .seq #[] } }) PySem.F.called_list (PySem.F.typeCall_list_1 _) PySem.F.entry_list_init
    (code_list_new _ ⟨rfl, rfl⟩) fun obj s₁ h₁ => ?_
  obtain ⟨rfl, rfl⟩ := h₁
  have hS : (s.heap.push { cls := .type "list", data := .seq #[] }).get? s.heap.objs.size = some { cls := .type "list", data := .seq #[] } := Heap.get?_push_size _ rfl
  have kk : ∀ d o, s.heap.get? d = some o → (s.heap.push { cls := .type "list", data := .seq #[] }).get? d = some o := fun d o e => Heap.get?_push_of_some _ e
  refine ⟨⟨_, hS, rfl⟩, PySem.F.args_list_init_2 _ _, zipl_init (A := A.in1) (s := { s with heap := s.heap.push { cls := .type "list", data := .seq #[] } }) (by simpa using hh) ⟨oz, kk _ _ hz, ez⟩ (Nat.ne_of_gt lz) (fun A' R' hh' hR' h c₁ k2 hl2 => L A' R' hh' hR' h c₁ (fun d o hd e => k2 d o hd (kk d o e)) hl2) hS fun s' q => ⟨rfl, q⟩⟩
end
open PySem.Spec PyProof.Rows L2
variable [z : Tz]
/-- the pairs laid, one behind the other, and the list -/
inductive ZLay (p : Addr) : List (V × V) → List V → Hp → Hp → Prop
  | nil {vs : List V} {H : Hp} : ZLay p [] vs H H
  | cons {x y : V} {ps : List (V × V)} {vs : List V} {H H2 : Hp} {T : Addr} (h : H T = none) (t : ZLay p ps (vs ++ [.ref T]) (upd (upd H T (.tup [x, y])) p (.lst (vs ++ [.ref T]))) H2) : ZLay p ((x, y) :: ps) vs H H2
section
variable {X : Cx} {pins : List (Addr × Obj)} {σ : L2.St} {z' TI TO i1 i2 l1 l2 S : Addr} {its its2 : List Value}
theorem zipl_loop {A : Around} {R : Result → Shared → Prop} (hh : A.handled = none) (D : ZipApart z' TI TO i1 i2 l1 l2) (hS : S ∉ [z', TI, TO, i1, i2, l1, l2]) :
    ∀ (xs ys : List V) (i : Nat) (s : Shared) (H : Hp) (ws : List V), Inv X pins σ H s → (∀ c ∈ [z', TI, TO, i1, i2], FpOk X pins H c) → ZTn false z' TI TO i1 i2 l1 l2 i s.heap → s.heap.IsList l1 its.toArray → s.heap.IsList l2 its2.toArray →
    Vals xs (its.drop i) → Vals ys (its2.drop i) → H S = some (.lst ws) → ws.length + xs.length ≤ 100000 →
    (∀ s' H2, Inv X pins σ H2 s' → ZLay S (xs.zip ys) ws H H2 → R (.ok (.ret .none)) s') → codeAny (model X.prog X.w) A (.builtin "list.extend.loop" ⟨[.ref S, .ref z', .none], []⟩) R s := by
  have stop : ∀ (i : Nat) (s : Shared) (H : Hp), Inv X pins σ H s → (∀ c ∈ [z', TI, TO, i1, i2], FpOk X pins H c) → ZTn false z' TI TO i1 i2 l1 l2 i s.heap → s.heap.IsList l1 its.toArray → s.heap.IsList l2 its2.toArray → (its.length ≤ i ∨ its2.length ≤ i) →
      (∀ s', Inv X pins σ H s' → R (.ok (.ret .none)) s') → codeAny (model X.prog X.w) A (.builtin "list.extend.loop" ⟨[.ref S, .ref z', .none], []⟩) R s := fun i s H I hf st q1 q2 he hR => by
    refine codeAny_builtin F.entry_extend_loop ?_
    rw [Around.under_plainId F.plain_extend_loop _]
    show wpAny _ A.in1 (pyNext (.ref z') >>= _) _ _ s
    obtain ⟨own, f, ok, hz, hI, hO, h1, h2⟩ := st
    refine wpAny_bind (zip_over (by simpa using hh) D ⟨hz, hI, hO, h1, h2, q1, q2⟩ ok (he.imp (fun q => by simp; omega) fun q => by simp; omega) fun h' kp => ?_)
    exact wpAny_pure (hR _ (I.turnedL (t' := s.toks) (ch := [z', TI, TO, i1, i2]) (fun c o hb q => kp c o (fun e => hb (by simp [e])) (fun e => hb (by simp [e])) (fun e => hb (by simp [e])) (fun e => hb (by simp [e])) q) hf))
  intro xs
  induction xs with
  | nil =>
    intro ys i s H ws I hf st q1 q2 r1 r2 hH hl hR
    have l := r1.length
    rw [List.length_drop] at l
    exact stop i s H I hf st q1 q2 (.inl (by simp at l; omega)) fun s' I' => hR s' H I' .nil
  | cons x xs ih =>
    intro ys i s H ws I hf st q1 q2 r1 r2 hH hl hR
    cases ys with
    | nil =>
      have l := r2.length
      rw [List.length_drop] at l
      exact stop i s H I hf st q1 q2 (.inr (by simp at l; omega)) fun s' I' => hR s' H I' .nil
    | cons y ys =>
      have take : ∀ {x : V} {xs : List V} {l : List Value}, Vals (x :: xs) (l.drop i) → ∃ u, l[i]? = some u ∧ RelV x u ∧ Vals xs (l.drop (i + 1)) := by
        intro x xs l r
        cases e : l.drop i with
        | nil => rw [e] at r; cases r
        | cons u us =>
          rw [e] at r
          cases r with
          | cons ru rr =>
            have e0 : l[i]? = some u := by
              have := congrArg (fun m => m[0]?) e
              simpa [List.getElem?_drop] using this
            have e1 : l.drop (i + 1) = us := by
              have := congrArg List.tail e
              rw [List.tail_drop] at this
              exact this
            exact ⟨u, e0, ru, by rw [e1]; exact rr⟩
      obtain ⟨u, hu, ru, r1'⟩ := take r1
      obtain ⟨u2, hu2, ru2, r2'⟩ := take r2
      have sz : S ≠ z' := fun e => hS (by simp [e])
      have sTI : S ≠ TI := fun e => hS (by simp [e])
      have sTO : S ≠ TO := fun e => hS (by simp [e])
      have s1 : S ≠ i1 := fun e => hS (by simp [e])
      have s2 : S ≠ i2 := fun e => hS (by simp [e])
      have sl1 : S ≠ l1 := fun e => hS (by simp [e])
      have sl2 : S ≠ l2 := fun e => hS (by simp [e])
      have five := ztn_obj st
      obtain ⟨own, f, ok, hz, hI, hO, h1, h2⟩ := st
      refine codeAny_builtin F.entry_extend_loop ?_
      rw [Around.under_plainId F.plain_extend_loop _]
      show wpAny _ A.in1 (pyNext (.ref z') >>= _) _ _ s
      refine wpAny_bind (zip_next D (b := false) ⟨hz, hI, hO, h1, h2, q1, q2⟩ ok (x := u) (y := u2) (by simpa using hu) (by simpa using hu2) fun own' f' h' ok' S' np szz kp => ?_)
      have new : ObjOk X.prog X.w (upd H s.heap.objs.size (.tup [x, y])) h' s.heap.objs.size (.tup [x, y]) := ⟨by show 2 ≤ sizeLine; decide, [u, u2], .cons ru (.cons ru2 .nil), ⟨_, np, rfl, _, rfl⟩⟩
      have hT : H s.heap.objs.size = none := I.hok.fresh (Nat.le_refl _)
      have I1 : Inv X pins σ (upd H s.heap.objs.size (.tup [x, y])) { s with heap := h' } :=
        I.turnedNew (t' := s.toks) (ch := [z', TI, TO, i1, i2]) (fun c o hb q => kp c o (fun e => hb (by simp [e])) (fun e => hb (by simp [e])) (fun e => hb (by simp [e])) (fun e => hb (by simp [e])) q) hf (Nat.le_refl _) new
      have ST : S ≠ s.heap.objs.size := fun e => by rw [e, hT] at hH; cases hH
      have hH1 : (upd H s.heap.objs.size (.tup [x, y])) S = some (.lst ws) := by rw [upd_ne ST]; exact hH
      obtain ⟨zl, its', n, r, hl', e⟩ := I1.lstM hH1
      have lr := r.length
      rw [List.length_cons] at hl
      have hw : (ws ++ [V.ref s.heap.objs.size]).length ≤ 100000 := by rw [List.length_append]; simp; omega
      have I2 := I1.lset (t' := s.toks) (its' := its' ++ [Value.ref s.heap.objs.size]) (f := (·.push (.ref s.heap.objs.size))) (ys := ws ++ [V.ref s.heap.objs.size]) hH1 e (by simp) (r.append (.cons rfl .nil)) (few_line hw)
      have same : ∀ d o, d ≠ S → h'.get? d = some o → (h'.update S (Obj.mapSeq (·.push (.ref s.heap.objs.size)))).get? d = some o := fun d o hd e => (Heap.get?_update_other _ _ (Ne.symm hd)).trans e
      have st2 : ZTn false z' TI TO i1 i2 l1 l2 (i + 1) (h'.update S (Obj.mapSeq (·.push (.ref s.heap.objs.size)))) := by
        obtain ⟨u, v, to⟩ := S'.to
        exact ⟨own', f', ok', same _ _ sz.symm S'.zz, same _ _ sTI.symm S'.ti, ⟨u, v, same _ _ sTO.symm to⟩, S'.c1.mv fun o => same _ o s1.symm, S'.c2.mv fun o => same _ o s2.symm⟩
      have p1 : (h'.update S (Obj.mapSeq (·.push (.ref s.heap.objs.size)))).IsList l1 its.toArray := (show SqAt false h' l1 its.toArray from S'.q1).mv (h' := h'.update S (Obj.mapSeq (·.push (.ref s.heap.objs.size)))) fun o => same _ o sl1.symm
      have p2 : (h'.update S (Obj.mapSeq (·.push (.ref s.heap.objs.size)))).IsList l2 its2.toArray := (show SqAt false h' l2 its2.toArray from S'.q2).mv (h' := h'.update S (Obj.mapSeq (·.push (.ref s.heap.objs.size)))) fun o => same _ o sl2.symm
      have hf2 : ∀ c ∈ [z', TI, TO, i1, i2], FpOk X pins (upd (upd H s.heap.objs.size (.tup [x, y])) S (.lst (ws ++ [V.ref s.heap.objs.size]))) c := fun c hc => by
        obtain ⟨o, eo, _⟩ := five c hc
        obtain ⟨a0, a1⟩ := hf c hc
        refine ⟨?_, a1⟩
        rw [upd_ne (fun e => hS (by rw [← e]; simp only [List.mem_cons, List.not_mem_nil, or_false] at hc ⊢; rcases hc with q | q | q | q | q <;> simp [q])), upd_ne (Nat.ne_of_lt (Heap.lt_size eo))]
        exact a0
      show wpAny _ A.in1 (updateSeq S (·.push (.ref s.heap.objs.size)) >>= _) _ _ _
      refine wpAny_bind ?_
      refine wpAny_updateSeq e rfl (wpAny_pure ⟨plainId_quiet F.plain_extend_loop _, ih ys (i + 1) _ _ (ws ++ [V.ref s.heap.objs.size]) I2 hf2 st2 p1 p2 r1' r2' upd_same (by rw [List.length_append]; simp; omega) fun s' H2 I' zl => hR s' H2 I' (.cons hT zl)⟩)
        (by rw [List.size_toArray]; omega) (by show (its'.toArray.push _).size ≤ sizeLine + 1; rw [Array.size_push, List.size_toArray]; omega)
end
def tListZip (K : PySem.W.Frag) (ta : TA) : TE := fun σ H Q => ta σ H fun vs H1 => ∃ (a b : Addr) (xs ys : List V), vs = [.ref a, .ref b] ∧ SqL K H1 a xs ∧ SqL K H1 b ys ∧ xs.length ≤ 100000 ∧ ∀ p, H1 p = none → ∀ H2, ZLay p (xs.zip ys) [] (upd H1 p (.lst [])) H2 → Q (.ref p) H2
section
variable {X : Cx} {ta : TA}
theorem pe_listZip {e e2 : Expr} {p p2 q2 q : Pos} (hc : X.calm = true) (hg : Gl X "list") (hm : X.mg "list" = none) (hv : bootBuiltins "list" = some (.type "list")) (hg2 : Gl X "zip") (hm2 : X.mg "zip" = none) (ha : PA X [e, e2] ta)
    (h1 : starEach [e, e2] X.env = (false, eval e X.env) :: starEach [e2] X.env := by rfl) (h2 : (backTo q2 (starEach [e2] X.env)).any (·.1) = false := by rfl) :
    PE X (.Call (.Name "list" p) [.Call (.Name "zip" p2) [e, e2] [] q2] [] q) (tListZip X.K ta) := by
  refine ⟨fun pins s σ H Q I h => ?_⟩
  refine Call_ (ld_blt I hg hm hv (PyProof.Rows.callWith_type1 (PyProof.Rows.args_cons ?_ rfl) rfl rfl))
  refine Call_ (ld_blt I hg2 hm2 PyProof.Rows.boot_zip (PyProof.Rows.callWith_type1 (thn (ha.run q2 pins s σ H _ I h) fun us s1 ⟨vs, H1, I1, r1, a, b, xs, ys, ev, g1, g2, few, k⟩ => ?_) h1 h2))
  subst ev
  obtain ⟨u1, us, rfl, ra, r2⟩ : ∃ u1 us', us = u1 :: us' ∧ RelV (.ref a) u1 ∧ Vals [.ref b] us' := by
    cases r1 with
    | cons r rr => exact ⟨_, _, rfl, r, rr⟩
  obtain ⟨u2, rfl, rb⟩ := vals1 r2
  obtain rfl : u1 = Value.ref a := ra
  obtain rfl : u2 = Value.ref b := rb
  obtain ⟨its, rv, p1, _⟩ := I1.list g1
  obtain ⟨its2, rv2, p3, _⟩ := I1.list g2
  refine call_zip_2 p1.isList p3.isList fun h' hz hTI hTO c1 c2 _ kp => PyProof.Rows.args_nil ?_
  have D := PySem.W.ktu_apart s1.heap.objs.size a b p1.lt p3.lt
  have I2 : Inv X pins σ H1 { s1 with heap := h' } := I1.kept (t' := s1.toks) kp
  have st : ZTn false (s1.heap.objs.size + 4) (s1.heap.objs.size + 2) (s1.heap.objs.size + 3) s1.heap.objs.size (s1.heap.objs.size + 1) a b 0 h' := ⟨_, _, .inl rfl, hz, hTI, ⟨_, _, hTO⟩, c1, c2⟩
  have obj5 := ztn_obj st
  obtain ⟨oa, na, ea, _⟩ := id p1.isList
  obtain ⟨ob, nb, eb, _⟩ := id p3.isList
  refine zipl_call (s := { s1 with heap := h' }) (I.ok.hd hc) ⟨_, hz, rfl⟩ fun A' R hh hR h c₁ kk hl => ?_
  have lt7 : ∀ c ∈ [s1.heap.objs.size + 4, s1.heap.objs.size + 2, s1.heap.objs.size + 3, s1.heap.objs.size, s1.heap.objs.size + 1], c < h'.objs.size := fun c hc => by
    obtain ⟨o, eo, _⟩ := obj5 c hc
    exact Heap.lt_size eo
  have hS : h'.objs.size ∉ [s1.heap.objs.size + 4, s1.heap.objs.size + 2, s1.heap.objs.size + 3, s1.heap.objs.size, s1.heap.objs.size + 1, a, b] := fun m => by
    have la := Nat.lt_trans p1.lt (lt7 s1.heap.objs.size (by simp))
    have lb := Nat.lt_trans p3.lt (lt7 s1.heap.objs.size (by simp))
    simp only [List.mem_cons, List.not_mem_nil, or_false] at m
    rcases m with q | q | q | q | q | q | q
    · exact Nat.lt_irrefl _ (q ▸ lt7 _ (by simp))
    · exact Nat.lt_irrefl _ (q ▸ lt7 _ (by simp))
    · exact Nat.lt_irrefl _ (q ▸ lt7 _ (by simp))
    · exact Nat.lt_irrefl _ (q ▸ lt7 _ (by simp))
    · exact Nat.lt_irrefl _ (q ▸ lt7 _ (by simp))
    · exact Nat.lt_irrefl _ (q ▸ la)
    · exact Nat.lt_irrefl _ (q ▸ lb)
  have I3 : Inv X pins σ (upd H1 h'.objs.size (.lst [])) { s1 with heap := h } := I2.laid (t' := s1.toks) (a := h'.objs.size) (o := .lst []) (h' := h) (fun d o e => kk d o (Nat.ne_of_lt (Heap.lt_size e)) e) (Nat.le_refl _) ⟨by show 0 ≤ sizeLine; exact Nat.zero_le _, [], c₁, .nil, hl⟩
  have keep : ∀ d o, h'.get? d = some o → h.get? d = some o := fun d o e => kk d o (Nat.ne_of_lt (Heap.lt_size e)) e
  have five : ∀ c ∈ [s1.heap.objs.size + 4, s1.heap.objs.size + 2, s1.heap.objs.size + 3, s1.heap.objs.size, s1.heap.objs.size + 1], s1.heap.objs.size ≤ c := fun c hc => by
    simp only [List.mem_cons, List.not_mem_nil, or_false] at hc
    rcases hc with q | q | q | q | q <;> rw [q] <;> first | exact Nat.le_refl _ | exact Nat.le_add_right _ _
  refine zipl_loop hh D hS xs ys 0 _ _ [] I3 (fun c hc => I1.fpOk (five c hc) ?_) (ztn_keep st fun c _ o e => keep c o e) ((show SqAt false s1.heap a its.toArray from p1.isList).mv (h' := h) fun o e => keep _ o (kp _ o e)) ((show SqAt false s1.heap b its2.toArray from p3.isList).mv (h' := h) fun o e => keep _ o (kp _ o e)) rv rv2 upd_same (by simpa using few) fun s' H2 I' zl => hR s' ⟨.ref h'.objs.size, H2, I', rfl, k _ (I2.hok.fresh (Nat.le_refl _)) H2 zl⟩
  rw [upd_ne (Nat.ne_of_lt (lt7 c hc))]
  exact I1.hok.fresh (five c hc)
end
/-! ### what it stands for -/
section
variable {pn : Option Addr} {Γ : Gam} {c : Nat} {ta : TA} {K : PySem.W.Frag} {Ps Qs : List MP}
abbrev Zp (G : Hp) : List (MP × MP) → List (V × V) → Prop := Paired fun a b => a.1.pr G b.1 ∧ a.2.pr G b.2
theorem Zp.mono {G G' : Hp} (s : Same G G') {L : List (MP × MP)} {ps : List (V × V)} (h : Zp G L ps) : Zp G' L ps := L2.Paired.mapP h fun a b q => ⟨a.1.mono s q.1, a.2.mono s q.2⟩
theorem zp_of {G : Hp} : ∀ {Ps Qs : List MP} {vs ws : List V}, Zip G Ps vs → Zip G Qs ws → Zp G (Ps.zip Qs) (vs.zip ws)
  | [], _, [], _, _, _ => .nil
  | _ :: _, [], _ :: _, [], _, _ => .nil
  | P :: Ps, Q :: Qs, v :: vs, w :: ws, h, g => .cons ⟨h.1, g.1⟩ (zp_of h.2 g.2)
  | [], _, _ :: _, _, h, _ => h.elim
  | _ :: _, _, [], _, h, _ => h.elim
  | _ :: _, [], _ :: _, _ :: _, _, g => g.elim
  | _ :: _, _ :: _, _ :: _, [], _, g => g.elim
theorem zlay_stp {p : Addr} (np : pn ≠ some p) {G0 H0 : Hp} {n : Nat} {ps : List (V × V)} {vs : List V} {H H2 : Hp} (Z : ZLay p ps vs H H2) : ∀ {G : Hp} {acc : List MP} {L : List (MP × MP)}, Stp pn [p] G0 H0 G H → PenOk pn G H n → H p = some (.lst vs) → G p = none → Zip G acc vs → Zp G L ps →
    ∃ G2 vs2, Stp pn [p] G0 H0 G2 H2 ∧ PenOk pn G2 H2 n ∧ H2 p = some (.lst vs2) ∧ G2 p = none ∧ Zip G2 (acc ++ L.map fun a => mT [a.1, a.2]) vs2 := by
  induction Z with
  | nil =>
    intro G acc L k pen hp gp za zl
    cases zl
    exact ⟨G, _, k, pen, hp, gp, by rw [List.map_nil, List.append_nil]; exact za⟩
  | @cons x y ps vs H H2 T hT t ih =>
    intro G acc L k pen hp gp za zl
    cases zl with
    | @cons a b as bs h1 h2 =>
      have pT : p ≠ T := fun e => by rw [e, hT] at hp; cases hp
      have kT := Stp.new (o := .tup [x, y]) k.gh hT
      obtain ⟨k2, p2⟩ := kT.pure pen
      have hp2 : (upd H T (.tup [x, y])) p = some (.lst vs) := by rw [upd_ne pT]; exact hp
      have gp2 : (upd G T (.tup [x, y])) p = none := by rw [upd_ne pT]; exact gp
      have k3 : Stp pn [p] (upd G T (.tup [x, y])) (upd H T (.tup [x, y])) (upd G T (.tup [x, y])) (upd (upd H T (.tup [x, y])) p (.lst (vs ++ [.ref T]))) := .chg k2.gh gp2 (by rw [hp2]; exact fun z => nomatch z)
      have k4 := (k.trans k2 fun _ h => nomatch h).trans k3 fun x h => .inl h
      have ht : (mT [a.1, a.2]).pr (upd G T (.tup [x, y])) (.ref T) := ⟨T, [x, y], rfl, upd_same, a.1.mono k2.gg h1.1, a.2.mono k2.gg h1.2, trivial⟩
      obtain ⟨G2, vs2, r1, r2, r3, r4, r5⟩ := ih (acc := acc ++ [mT [a.1, a.2]]) (L := as) k4 (p2.updH np (no_tbl hp2)) upd_same gp2 ((za.mono k2.gg).app ⟨ht, trivial⟩) (Zp.mono k2.gg h2)
      refine ⟨G2, vs2, r1, r2, r3, r4, ?_⟩
      rw [List.map_cons]
      rw [List.append_assoc] at r5
      exact r5
theorem ev_listZip (h : EvA pn ta Γ c [mL Ps, mL Qs]) (few : Ps.length ≤ 100000) : Ev pn (tListZip K ta) Γ c (mL ((Ps.zip Qs).map fun a => mT [a.1, a.2])) := by
  refine ev_of_en1 (.mk fun {G H σ n} E l Q q => h.run E l _ fun vs G1 H1 n1 k1 p1 l1 zz => ?_)
  obtain ⟨v, u, rfl, ⟨a, ws, rfl, ha, z1⟩, b, us, rfl, hb, z2⟩ := zip2 zz
  refine ⟨a, b, ws, us, rfl, SqL.of (k1.gh.x ha), SqL.of (k1.gh.x hb), by rw [z1.len]; exact few, fun p hp H2 Z => ?_⟩
  have np : pn ≠ some p := fun z => (p1 p z).2.ne hp
  have kN := Stp.newH (o := .lst []) k1.gh hp
  obtain ⟨_, pN⟩ := kN.pure p1
  obtain ⟨G2, vs2, r1, r2, r3, r4, r5⟩ := zlay_stp np (G0 := G1) (H0 := upd H1 p (.lst [])) Z (acc := []) (Stp.refl kN.gh) pN upd_same (k1.gh.free hp) trivial (zp_of z1 z2)
  exact q p _ G2 H2 n1 (k1.trans0 ((r1.pre hp).drop k1.gh hp)) r2 l1 (none_back k1 hp) r4 r3 ⟨vs2, rfl, r5⟩
end
end Ev

set_option Elab.async false
set_option linter.all false
set_option maxRecDepth 100000
set_option maxHeartbeats 4000000
/-! f(k = v, ..), all by keyword, in the order of the parameters. -/
namespace Ev
open PySem PySem.Spec L2
variable [z : Tz]
structure FdK (P : Program) (w : World) (K : PySem.W.Frag) (mg : Str → Option Value) (base : Heap) (k : Nat) (x : Str) (ps : List Str) (sp : Sp) : Prop where
  ex : ∃ f fd, mg x = some (.ref f) ∧ PySem.W.keepIn K (.ref f) = true ∧ (∀ (s : Shared) (ws : List Value), K.In s.heap → ws.length = ps.length → BindsTo s fd ⟨[], ps.zip ws⟩ (ps.zip ws)) ∧ GnOk P w K mg base CX0 k f fd ps sp
theorem pe_fdKw {X : Cx} {k : Nat} {x : Str} {ps : List Str} {sp : Sp} {kws : List Keyword} {tk : TA} {p pos : Pos} (G : FdK X.prog X.w X.K X.mg X.base k x ps sp) (hc : Calm X.A) (hr : Room k X.A) (hkw : PK X kws tk)
    (hg : Gl X x := by rfl) (hall : (backToKw pos (keywordEach kws X.env)).all (·.1.isSome) = true := by rfl) (hks : (backToKw pos (keywordEach kws X.env)).filterMap (·.1) = ps := by rfl)
    (hdb : (x == ("__debug__" : Str)) = false := by decide)
    (hpl : ((backTo pos (starEach [] X.env)).any (·.1) || (backToKw pos (keywordEach kws X.env)).any (·.1.isNone)) = false := by rfl) :
    PE X (.Call (.Name x p) [] kws pos) (tCall sp [] E0 tk) := by
  obtain ⟨f, fd, hm, hk, hb, F⟩ := G.ex
  refine ⟨fun pins s σ H Q I h => ?_⟩
  refine wpAny_Call_Name_kw (ld_glob I hg hm ?_ hdb)
  refine PySem.W.callWith_KW0 (h₀ := X.base) I.ok.mod.kin hk hall (thn (hkw.run pos pins s σ H _ I h) fun ws s2 ⟨zs, H2, I2, rz, q2⟩ => ⟨I2.kIn, ?_⟩) hpl
  rw [hks]
  have q2 : sp (zs ++ []) H2 Q E0 := q2
  rw [List.append_nil] at q2
  have n : ws.length = ps.length := rz.length.symm.trans (F.len _ _ _ _ q2)
  refine wpAny_call (codeAny_mono (F.go X.A X.stack s2 H2 ⟨[], ps.zip ws⟩ ws zs Q E0 hc hr I2.env0 (hb s2 ws I2.kIn n) rz q2) ?_)
  rintro (e | fl) s' zz
  · exact pass0 pins σ H2 s2 e s' I2 zz
  · cases fl with
    | ret u => exact I2.after zz
    | next => exact zz.elim
    | brk => exact zz.elim
    | cont => exact zz.elim
end Ev

set_option Elab.async false
set_option linter.all false
set_option maxRecDepth 100000
set_option maxHeartbeats 4000000
/-! What a turn of k26's law stands on. -/
namespace Ev
open PySem PySem.Spec PyProof.Rows L2
variable [z : Tz]
abbrev menu12 : List Str := ["a", "a+", "a*", "b", "zz", "", "Q 1", "ab*", "c", "longlongname", "some", "more"]
structure Sn (ss : List Str) : Prop where
  nd : ss.Nodup
  lo : 2 ≤ ss.length
  hi : ss.length ≤ 6
  mem : ∀ s ∈ ss, s ∈ menu12
theorem sn_of {us : List Str} (l : us.length ≤ 4) (h : ∃ ms, (us ++ ms).Perm (menu12.take 10)) : Sn (us ++ [("some" : Str), "more"]) := by
  obtain ⟨ms, hp⟩ := h
  have n12 : menu12.Nodup := by decide +kernel
  have e12 : menu12 = menu12.take 10 ++ [("some" : Str), "more"] := rfl
  have p12 : (us ++ ms ++ [("some" : Str), "more"]).Perm menu12 := by rw [e12]; exact hp.append_right _
  have nd := p12.nodup_iff.mpr n12
  refine ⟨?_, by rw [List.length_append]; simp, by rw [List.length_append]; simp; omega, fun s m => p12.mem_iff.mp ?_⟩
  · have : (us ++ [("some" : Str), "more"]).Sublist (us ++ ms ++ [("some" : Str), "more"]) := by
      rw [List.append_assoc]
      exact (List.Sublist.refl us).append (List.sublist_append_right ms _)
    exact this.nodup nd
  · rcases List.mem_append.mp m with m | m
    · exact List.mem_append_left _ (List.mem_append_left _ m)
    · exact List.mem_append_right _ m
section
variable {ss : List Str}
theorem Sn.str (h : Sn ss) : ∀ s ∈ ss, PyData.strOk s = true := fun s m => (by decide +kernel : ∀ s ∈ menu12, PyData.strOk s = true) s (h.mem s m)
theorem Sn.gd (h : Sn ss) : ∀ s ∈ ss, Gd 0 20 (.str s) := fun s m => Gd.of ((by decide +kernel : ∀ s ∈ menu12, gdB 0 20 (.str s) = true) s (h.mem s m))
theorem Sn.ne (h : Sn ss) : ss ≠ [] := fun e => by have := h.lo; rw [e] at this; simp at this
theorem Sn.two (h : Sn ss) : ∀ s ∈ ss, ∃ t ∈ ss, t ≠ s := fun s m => by
  obtain ⟨nd, lo, _, _⟩ := h
  match ss, nd, lo with
  | a :: b :: r, nd, _ =>
    by_cases e : a = s
    · refine ⟨b, by simp, fun q => ?_⟩
      rw [← e] at q
      rw [q] at nd
      simp at nd
    · exact ⟨a, by simp, e⟩
  | [a], _, lo => simp at lo
  | [], _, lo => simp at lo
end
/-- a turn's drawn parts -/
structure Tn (ss : List Str) (f : Str → Int) (ts : List (Str × Str)) : Prop where
  s : Sn ss
  bd : ∀ x ∈ ss, 1 ≤ f x ∧ f x ≤ 128
  fewt : ts.length ≤ 20
  mem : ∀ p ∈ ts, p.1 ∈ ss ∧ p.2 ∈ ss
theorem Tn.okL {ss : List Str} {f : Str → Int} {ts : List (Str × Str)} {d : PyData} (t : Tn ss f ts) (b : OkB d) : OkL ⟨d, ss, f, ts⟩ :=
  ⟨Nat.le_trans b.few (by decide), t.s.nd, Nat.lt_of_le_of_lt t.s.hi (by decide), Nat.lt_of_le_of_lt t.fewt (by decide), t.s.str, t.mem, t.bd, b.gd.ok, b.gd.sh, b.gd.dp, b.gd.len⟩
section
variable {pn : Option Addr} {Γ : Gam} {c c1 : Nat} {α : Type} {Px : α → Prop} {ta te : TE} {K : PySem.W.Frag} {O : Outs} {Ps : List MP} {R : α → List MP}
theorem sx_extendEx {i : Nat} (hi : Γ[i]? = some (.own (oL Ps))) (ha : Ev pn ta Γ c (mEx Px fun x => mL (R x))) (hl : ∀ x, Px x → Ps.length + (R x).length ≤ 100000) (hn : ∀ x, Px x → O.nx (Γ.set i (.own (oL (Ps ++ R x))))) : Sx pn (tDrop (tBM K "list" rExtend (tVar i) (tCons ta tNil))) Γ c O := .mk fun {G H σ n} D E l q1 q2 q3 q4 => by
  obtain ⟨a, u, A⟩ := E.sl.own E.nd hi
  obtain ⟨vs, eu, z⟩ := A.pr
  subst eu
  refine ⟨.ref a, A.val, .inl ⟨rfl, _, SqL.of A.obj⟩, ha.run E l _ fun y G1 H1 n1 k p ln ⟨x, px, b, ws, ey, hb, z2⟩ => ?_⟩
  subst ey
  have A1 := A.step E hi k p
  have E1 := E.step k p
  refine ⟨a, b, vs, ws, rfl, rfl, A1.obj, k.gh.x hb, few_line (by rw [z.len, z2.len]; exact hl x px), ?_⟩
  have g := go_mut (M' := oL (Ps ++ R x)) (u' := .lst (vs ++ ws)) E1 A1 ⟨_, rfl, (z.mono k.gg).app z2⟩
  exact q1 _ _ _ _ _ (hn x px) (((Go.of E k ln E1 fun _ h => .inl h).trans g).more (by omega))
theorem zip_replEx {G : Hp} {Q : α → MP} : ∀ {n : Nat} {vs : List V}, Zip G (List.replicate n (mEx Px Q)) vs → ∃ xs : List α, xs.length = n ∧ (∀ x ∈ xs, Px x) ∧ Zip G (xs.map Q) vs
  | 0, [], _ => ⟨[], rfl, fun _ m => (nomatch m), trivial⟩
  | 0, _ :: _, h => h.elim
  | n + 1, [], h => h.elim
  | n + 1, v :: vs, h => by
    obtain ⟨⟨x, px, hx⟩, t⟩ := (show (mEx Px Q).pr G v ∧ Zip G (List.replicate n (mEx Px Q)) vs from h)
    obtain ⟨xs, e, k, zz⟩ := zip_replEx t
    exact ⟨x :: xs, by rw [List.length_cons, e], fun y m => (List.mem_cons.mp m).elim (fun q => by rw [q]; exact px) (k y), hx, zz⟩
theorem en_lcRep {wi : TI} {g : TG} {vs : List Nat} {L : List MP → Prop} {Q : α → MP} {ce m : Nat} (hi : EvI pn wi Γ c1 L) (hm : m ≤ 100000)
    (h : ∀ Ps, L Ps → Ps.length ≤ m ∧ ∀ P ∈ Ps, ∃ Γ1 ts, Gx pn g (wipeG Γ vs) P Γ1 ts ∧ (∀ t ∈ ts, t ∈ vs) ∧ Ev pn te Γ1 ce (mEx Px Q)) :
    EvN pn (tLc wi g tYes te vs) Γ (c1 + m * (0 + ce)) (oEx (fun xs : List α => xs.length ≤ m ∧ ∀ x ∈ xs, Px x) fun xs => oL (xs.map Q)) := by
  refine en_lc hi 0 ce m hm fun Ps hL => ?_
  obtain ⟨hl, hs⟩ := h Ps hL
  refine ⟨hl, fun i acc => acc = List.replicate i (mEx Px Q), rfl, fun i P acc hP hA => ?_, fun acc hA G a o ho => ?_⟩
  · obtain ⟨Γ1, ts, e1, e2, e3⟩ := hs P (List.mem_of_getElem? hP)
    exact ⟨Γ1, ts, _, e1, e2, et_yes, fun z => (nomatch z), fun _ => ⟨_, e3, by show _ = List.replicate (i + 1) _; rw [List.replicate_succ', hA]⟩⟩
  · subst hA
    obtain ⟨ws, e, zz⟩ := ho
    obtain ⟨xs, el, k, z2⟩ := zip_replEx zz
    exact ⟨xs, ⟨by rw [el]; exact hl, k⟩, ws, e, z2⟩
theorem zip_pairs (xs ys : List Str) : ((xs.map mS).zip (ys.map mS)).map (fun a => mT [a.1, a.2]) = (xs.zip ys).map mPair := by
  rw [List.zip_map, List.map_map]
  rfl
end
end Ev

set_option Elab.async false
set_option linter.all false
set_option maxRecDepth 100000
set_option maxHeartbeats 4000000
namespace Ev
open PySem PySem.Spec L2
variable [z : Tz]

section
variable {K : PySem.W.Frag} {p C : Addr}
abbrev mB : MP := mEx OkB mDat
noncomputable abbrev oT (ss : List Str) (f : Str → Int) (ts : List (Str × Str)) : Ord := Ord.make (ss.map fun s => (s, f s)) ts
theorem sx_things {s0 s2 s6 s8 s10 : Sl} {ss us : List Str} {f : Str → Int} {ts : List (Str × Str)} (t : Tn ss f ts) (row : RowOk ss us) :
    Sx (some p) (tFor (iTup K (tTup (tCons (tVar 9) (tCons (tCall spBent [] E0 (tCons (tVar 1) (tCons (tVar 3) (tCons (tVar 9) tNil)))) (tCons (tCB (rTupOf K) (tCons (tVar 3) tNil)) (tCons (tCall spBent [] E0 (tCons (tVar 1) (tCons (tVar 3) (tCons (tCB (rTupOf K) (tCons (tVar 3) tNil)) tNil)))) tNil)))))) (gName 10)
        (tIfS (tNot (tB (tCall (spLi C) [] E0 (tCons (tVar 7) (tCons (tVar 10) (tCons (tVar 4) (tCons (tVar 5) tNil))))))) (tRet (tC (.bl false))) tNext))
      [s0, .im (mV (.ref p)), s2, .im (mStrs ss), .im (mWts ss f), .im (mTold ts), s6, .im (mOrd C (oT ss f ts)), s8, .im (mT (us.map mS)), s10] 12
      ⟨fun Γ' => ∃ s10', Γ' = [s0, .im (mV (.ref p)), s2, .im (mStrs ss), .im (mWts ss f), .im (mTold ts), s6, .im (mOrd C (oT ss f ts)), s8, .im (mT (us.map mS)), s10'], mV (.bl true), fun _ => False, fun _ => False⟩ := by
  obtain ⟨une, ul, um⟩ := row
  have gs := t.s.gd
  have hi6 := t.s.hi
  have gu : ∀ u ∈ us, Gd 0 20 (.str u) := fun u m => gs u (um u m)
  have hrow : Ev (some p) (tVar 9) [s0, .im (mV (.ref p)), s2, .im (mStrs ss), .im (mWts ss f), .im (mTold ts), s6, .im (mOrd C (oT ss f ts)), s8, .im (mT (us.map mS)), s10] 0 mB :=
    Ev.mono (ev_var (i := 9) (S := mT (us.map mS)) rfl) (fun G v h => ⟨.tuple (us.map .str), okB_strs gu (by omega), by rw [dat_strs]; exact h⟩) (Nat.le_refl _)
  have hsome : Ev (some p) (tCB (rTupOf K) (tCons (tVar 3) tNil)) [s0, .im (mV (.ref p)), s2, .im (mStrs ss), .im (mWts ss f), .im (mTold ts), s6, .im (mOrd C (oT ss f ts)), s8, .im (mT (us.map mS)), s10] 0 (mT (ss.map mS)) :=
    ev_cb (ea_cons (ev_var (i := 3) rfl) ea_nil) rc_tupL
  have hsome2 := Ev.mono (S1 := mB) hsome (fun G v h => ⟨.tuple (ss.map .str), okB_strs gs (by omega), by rw [dat_strs]; exact h⟩) (Nat.le_refl _)
  have hb1 : Ev (some p) (tCall spBent [] E0 (tCons (tVar 1) (tCons (tVar 3) (tCons (tVar 9) tNil)))) [s0, .im (mV (.ref p)), s2, .im (mStrs ss), .im (mWts ss f), .im (mTold ts), s6, .im (mOrd C (oT ss f ts)), s8, .im (mT (us.map mS)), s10] 6 mB :=
    ev_callP (c := 0) (⟨ss, us⟩ : ArgBe) (ea_cons (ev_var (i := 1) rfl) (ea_cons (ev_var (i := 3) rfl) (ea_cons (ev_var (i := 9) rfl) ea_nil))) ⟨by show ss.length ≤ 50; omega, une, ul, gs, gu⟩
  have hb2 : Ev (some p) (tCall spBent [] E0 (tCons (tVar 1) (tCons (tVar 3) (tCons (tCB (rTupOf K) (tCons (tVar 3) tNil)) tNil)))) [s0, .im (mV (.ref p)), s2, .im (mStrs ss), .im (mWts ss f), .im (mTold ts), s6, .im (mOrd C (oT ss f ts)), s8, .im (mT (us.map mS)), s10] 6 mB :=
    ev_callP (c := 0) (⟨ss, ss⟩ : ArgBe) (ea_cons (ev_var (i := 1) rfl) (ea_cons (ev_var (i := 3) rfl) (ea_cons hsome ea_nil))) ⟨by show ss.length ≤ 50; omega, t.s.ne, hi6, gs, gs⟩
  refine Sx.more (sx_for (c1 := 12) (ei_tup (Ps := [mB, mB, mB, mB]) (ev_tup (ea_cons hrow (ea_cons hb1 (ea_cons hsome2 (ea_cons hb2 ea_nil)))))) 0 4 fun Ps e => ?_) (by decide)
  subst e
  refine ⟨by simp, fun i Γ' => ∃ s10', Γ' = [s0, .im (mV (.ref p)), s2, .im (mStrs ss), .im (mWts ss f), .im (mTold ts), s6, .im (mOrd C (oT ss f ts)), s8, .im (mT (us.map mS)), s10'], ⟨_, rfl⟩, fun i P Γ' hP hI => ?_, fun Γ' h => h⟩
  obtain ⟨s10', rfl⟩ := hI
  have eP : P = mB := by
    have := List.mem_of_getElem? hP
    simp only [List.mem_cons, List.not_mem_nil, or_false, or_self] at this
    exact this
  subst eP
  refine ⟨_, _, gx_name, ?_⟩
  refine sx_ex (i := 10) rfl fun d hd => ?_
  show Sx (some p) _ [s0, .im (mV (.ref p)), s2, .im (mStrs ss), .im (mWts ss f), .im (mTold ts), s6, .im (mOrd C (oT ss f ts)), s8, .im (mT (us.map mS)), .im (mDat d)] 0 _
  exact x_if (et_not (et_BV (ev_callF (c := 0) (⟨d, ss, f, ts⟩ : ArgL) (ea_cons (ev_var (i := 7) rfl) (ea_cons (ev_var (i := 10) rfl) (ea_cons (ev_var (i := 4) rfl) (ea_cons (ev_var (i := 5) rfl) ea_nil)))) (t.okL hd)))) (fun hT => nomatch hT) (fun _ => x_next ⟨_, rfl⟩)
end
end Ev

set_option Elab.async false
set_option linter.all false
set_option maxRecDepth 100000
set_option maxHeartbeats 4000000
namespace Ev
open PySem PySem.Spec L2
variable [z : Tz]

section
variable {K : PySem.W.Frag} {p C : Addr}
theorem sx_turn26 {s0 s2 s3 s4 s5 s6 s7 s8 s9 s10 : Sl} :
    Sx (some p) (tSeq (tAsg (tOp rCat (tCall spSome [] E0 (tCons (tVar 1) (tCons (tC (V.int 4)) tNil))) (tLst (tCons (tC (V.str "some")) (tCons (tC (V.str "more")) tNil)))) (gName 3))
      (tSeq (tAsg (tCall spWide [] E0 (tCons (tVar 1) (tCons (tVar 3) tNil))) (gName 4))
      (tSeq (tAsg (tLc (iRng1 (tCons (tCall spDraw [] E0 (tCons (tVar 1) (tCons (tC (V.int 12)) tNil))) tNil)) (gName 8) tYes (tCall spTwo [] E0 (tCons (tVar 1) (tCons (tVar 3) tNil))) [8]) (gName 5))
      (tSeq (tAsg (tLst (tCons (tTup (tCons (tOp (rIxL K) (tVar 3) (tC (V.int 0))) (tCons (tOp (rIxL K) (tVar 3) (tC (V.int 1))) tNil))) (tCons (tTup (tCons (tOp (rIxL K) (tVar 3) (tC (V.int 1))) (tCons (tOp (rIxL K) (tVar 3) (tC (V.int 0))) tNil))) tNil))) (gName 6))
      (tSeq (tDrop (tBM K "list" rExtend (tVar 5) (tCons (tOp (rIxL K) (tLst (tCons (tLst tNil) (tCons (tVar 6) (tCons (tListZip K (tCons (tVar 3) (tCons (tOp rCat (tSl (rSlL K) (tVar 3) (tPart (tC (V.int 1))) tNoPart) (tSl (rSlL K) (tVar 3) tNoPart (tPart (tC (V.int 1))))) tNil))) tNil)))) (tCall spDraw [] E0 (tCons (tVar 1) (tCons (tC (V.int 3)) tNil)))) tNil)))
      (tSeq (tAsg (tMake C (spOI C) [] E0 (tCons (tVar 4) (tCons (tVar 5) tNil))) (gName 7))
        (tFor (iRng1 (tCons (tC (V.int 5)) tNil)) (gName 8) (tSeq (tAsg (tCall spWalk [] E0 (tCons (tVar 1) (tCons (tVar 3) (tCons (tVar 5) tNil)))) (gName 9))
          (tFor (iTup K (tTup (tCons (tVar 9) (tCons (tCall spBent [] E0 (tCons (tVar 1) (tCons (tVar 3) (tCons (tVar 9) tNil)))) (tCons (tCB (rTupOf K) (tCons (tVar 3) tNil)) (tCons (tCall spBent [] E0 (tCons (tVar 1) (tCons (tVar 3) (tCons (tCB (rTupOf K) (tCons (tVar 3) tNil)) tNil)))) tNil)))))) (gName 10)
            (tIfS (tNot (tB (tCall (spLi C) [] E0 (tCons (tVar 7) (tCons (tVar 10) (tCons (tVar 4) (tCons (tVar 5) tNil))))))) (tRet (tC (.bl false))) tNext)))))))))) 
      [s0, .im (mV (.ref p)), s2, s3, s4, s5, s6, s7, s8, s9, s10] 150
      ⟨fun Γ' => ∃ s3 s4 s5 s6 s7 s8 s9 s10, Γ' = [s0, .im (mV (.ref p)), s2, s3, s4, s5, s6, s7, s8, s9, s10], mV (.bl true), fun _ => False, fun _ => False⟩ := by
  have h1 : Ev (some p) (tOp rCat (tCall spSome [] E0 (tCons (tVar 1) (tCons (tC (V.int 4)) tNil))) (tLst (tCons (tC (V.str "some")) (tCons (tC (V.str "more")) tNil)))) [s0, .im (mV (.ref p)), s2, s3, s4, s5, s6, s7, s8, s9, s10] 11 (mEx Sn mStrs) := by
    have hS : Ev (some p) (tCall spSome [] E0 (tCons (tVar 1) (tCons (tC (V.int 4)) tNil))) [s0, .im (mV (.ref p)), s2, s3, s4, s5, s6, s7, s8, s9, s10] 11 (mEx (fun us : List Str => us.length ≤ (4 : Int).toNat ∧ ∃ ms, (us ++ ms).Perm menu10) mStrs) :=
      ev_callP (c := 0) (4 : Int) (ea_cons (ev_var (i := 1) rfl) (ea_cons ev_c ea_nil)) ⟨by decide, by decide⟩
    have hL : Ev (some p) (tLst (tCons (tC (V.str "some")) (tCons (tC (V.str "more")) tNil))) [s0, .im (mV (.ref p)), s2, s3, s4, s5, s6, s7, s8, s9, s10] 0 (mStrs [("some" : Str), "more"]) := ev_lst (ea_cons ev_c (ea_cons ev_c ea_nil))
    refine Ev.mono (ev_op hS hL (rv_exL (T := fun us => mStrs (us ++ [("some" : Str), "more"])) fun us hu => rv_catM (by have := hu.1; simp at this ⊢; omega))) (fun G v ⟨us, hu, h⟩ => ⟨_, sn_of (by have := hu.1; simpa using this) hu.2, h⟩) (by decide)
  refine x_one (c1 := 11) (i := 3) h1 fun ss hs => ?_
  show Sx (some p) _ [s0, .im (mV (.ref p)), s2, .im (mStrs ss), s4, s5, s6, s7, s8, s9, s10] 139 _
  have hi6 := hs.hi
  have h2 : Ev (some p) (tCall spWide [] E0 (tCons (tVar 1) (tCons (tVar 3) tNil))) [s0, .im (mV (.ref p)), s2, .im (mStrs ss), s4, s5, s6, s7, s8, s9, s10] 12 (mEx (fun f : Str → Int => ∀ s ∈ ss, 1 ≤ f s ∧ f s ≤ 128) fun f => mWts ss f) :=
    Ev.more (ev_callP (c := 0) ss (ea_cons (ev_var (i := 1) rfl) (ea_cons (ev_var (i := 3) rfl) ea_nil)) ⟨hs.nd, by omega⟩) (by omega)
  refine x_one (c1 := 12) (i := 4) h2 fun f hf => ?_
  show Sx (some p) _ [s0, .im (mV (.ref p)), s2, .im (mStrs ss), .im (mWts ss f), s5, s6, s7, s8, s9, s10] 127 _
  have h3 : EvN (some p) (tLc (iRng1 (tCons (tCall spDraw [] E0 (tCons (tVar 1) (tCons (tC (V.int 12)) tNil))) tNil)) (gName 8) tYes (tCall spTwo [] E0 (tCons (tVar 1) (tCons (tVar 3) tNil))) [8]) [s0, .im (mV (.ref p)), s2, .im (mStrs ss), .im (mWts ss f), s5, s6, s7, s8, s9, s10] 23
      (oEx (fun qs : List (Str × Str) => qs.length ≤ 11 ∧ ∀ q ∈ qs, q.1 ∈ ss ∧ q.2 ∈ ss ∧ q.2 ≠ q.1) fun qs => oL (qs.map mPair)) := by
    have hd : Ev (some p) (tCall spDraw [] E0 (tCons (tVar 1) (tCons (tC (V.int 12)) tNil))) [s0, .im (mV (.ref p)), s2, .im (mStrs ss), .im (mWts ss f), s5, s6, s7, s8, s9, s10] 1 (mInts fun d => 0 ≤ d ∧ d < 12) :=
      ev_callP (c := 0) (12 : Int) (ea_cons (ev_var (i := 1) rfl) (ea_cons ev_c ea_nil)) ⟨by decide, by decide⟩
    refine EvN.mono (en_lcRep (ce := 2) (m := 11) (ei_rng1 (Px := fun j => 0 ≤ j ∧ j < 12) (ea_cons hd ea_nil) (fun j hj => by omega)) (by decide) fun Ps hL => ?_) (fun G a o h => h) (by decide)
    obtain ⟨j, ⟨hj0, hj1⟩, rfl⟩ := hL
    refine ⟨by unfold rngPs; simp; omega, fun P hP => ⟨_, _, gx_name, by decide, ?_⟩⟩
    exact ev_callP (c := 0) ss (ea_cons (ev_var (i := 1) rfl) (ea_cons (ev_var (i := 3) rfl) ea_nil)) ⟨hs.ne, by omega, hs.two⟩
  refine x_own (i := 5) (c1 := 23) h3 ?_
  refine sx_exO (i := 5) (Px := fun qs : List (Str × Str) => qs.length ≤ 11 ∧ ∀ q ∈ qs, q.1 ∈ ss ∧ q.2 ∈ ss ∧ q.2 ≠ q.1) (R := fun qs : List (Str × Str) => oL (qs.map mPair)) rfl (fun G a o h => h) fun qs hq => ?_
  show Sx (some p) _ [s0, .im (mV (.ref p)), s2, .im (mStrs ss), .im (mWts ss f), .own (oL (qs.map mPair)), s6, s7, s8, s9, s10] 104 _
  obtain ⟨a, b, r, es⟩ : ∃ a b r, ss = a :: b :: r := by
    have lo := hs.lo
    match ss, lo with
    | a :: b :: r, _ => exact ⟨a, b, r, rfl⟩
    | [a], lo => simp at lo
    | [], lo => simp at lo
  have ma : a ∈ ss := by rw [es]; simp
  have mb : b ∈ ss := by rw [es]; simp
  have e0 : atI (ss.map mS) 0 = some (mS a) := by rw [es]; exact at_zero
  have e1 : atI (ss.map mS) 1 = some (mS b) := by
    rw [atI_map]
    obtain ⟨y, _, h, e⟩ := atI_lt (xs := ss) (d := 1) (by decide) (by rw [es]; simp; omega)
    rw [h]
    have : ss[1]? = some y := e
    rw [es] at this
    cases this
    rfl
  have h4 : Ev (some p) (tLst (tCons (tTup (tCons (tOp (rIxL K) (tVar 3) (tC (V.int 0))) (tCons (tOp (rIxL K) (tVar 3) (tC (V.int 1))) tNil))) (tCons (tTup (tCons (tOp (rIxL K) (tVar 3) (tC (V.int 1))) (tCons (tOp (rIxL K) (tVar 3) (tC (V.int 0))) tNil))) tNil))) [s0, .im (mV (.ref p)), s2, .im (mStrs ss), .im (mWts ss f), .own (oL (qs.map mPair)), s6, s7, s8, s9, s10] 0 (mTold [(a, b), (b, a)]) :=
    ev_lst (ea_cons (S := mPair (a, b)) (ev_tup (ea_cons (ev_op (ev_var (i := 3) rfl) ev_c (rv_ixL e0)) (ea_cons (ev_op (ev_var (i := 3) rfl) ev_c (rv_ixL e1)) ea_nil))) (ea_cons (S := mPair (b, a)) (ev_tup (ea_cons (ev_op (ev_var (i := 3) rfl) ev_c (rv_ixL e1)) (ea_cons (ev_op (ev_var (i := 3) rfl) ev_c (rv_ixL e0)) ea_nil))) ea_nil))
  refine x_let (c1 := 0) (i := 6) h4 ?_
  show Sx (some p) _ [s0, .im (mV (.ref p)), s2, .im (mStrs ss), .im (mWts ss f), .own (oL (qs.map mPair)), .im (mTold [(a, b), (b, a)]), s7, s8, s9, s10] 104 _
  have h5 : Ev (some p) (tListZip K (tCons (tVar 3) (tCons (tOp rCat (tSl (rSlL K) (tVar 3) (tPart (tC (V.int 1))) tNoPart) (tSl (rSlL K) (tVar 3) tNoPart (tPart (tC (V.int 1))))) tNil))) [s0, .im (mV (.ref p)), s2, .im (mStrs ss), .im (mWts ss f), .own (oL (qs.map mPair)), .im (mTold [(a, b), (b, a)]), s7, s8, s9, s10] 0 (mTold (ss.zip (ss.drop 1 ++ ss.take 1))) := by
    have k1 := ev_slM (K := K) (pn := some p) (xs := ss) (R := mS) (ev_var (i := 3) (Γ := [s0, .im (mV (.ref p)), s2, .im (mStrs ss), .im (mWts ss f), .own (oL (qs.map mPair)), .im (mTold [(a, b), (b, a)]), s7, s8, s9, s10]) rfl) (eo_some (ev_c (v := .int 1))) eo_none
    have k2 := ev_slM (K := K) (pn := some p) (xs := ss) (R := mS) (ev_var (i := 3) (Γ := [s0, .im (mV (.ref p)), s2, .im (mStrs ss), .im (mWts ss f), .own (oL (qs.map mPair)), .im (mTold [(a, b), (b, a)]), s7, s8, s9, s10]) rfl) eo_none (eo_some (ev_c (v := .int 1)))
    rw [show cutA ss (some 1) none = ss.drop 1 from cutA_drop _ 1] at k1
    rw [show cutA ss none (some 1) = ss.take 1 from cutA_take _ 1] at k2
    have k3 := ev_op k1 k2 (rv_catM (by rw [List.length_drop, List.length_take]; omega))
    have k4 := ev_listZip (K := K) (ea_cons (ev_var (i := 3) (S := mStrs ss) rfl) (ea_cons k3 ea_nil)) (by rw [List.length_map]; omega)
    rw [zip_pairs] at k4
    exact k4
  have nbm : ∀ q ∈ ss.zip (ss.drop 1 ++ ss.take 1), q.1 ∈ ss ∧ q.2 ∈ ss := fun q mq => by
    obtain ⟨m1, m2⟩ := List.of_mem_zip (show (q.1, q.2) ∈ ss.zip (ss.drop 1 ++ ss.take 1) from mq)
    exact ⟨m1, (List.mem_append.mp m2).elim List.mem_of_mem_drop List.mem_of_mem_take⟩
  have nbl : (ss.zip (ss.drop 1 ++ ss.take 1)).length ≤ 6 := by rw [List.length_zip]; omega
  have h6 : Ev (some p) (tOp (rIxL K) (tLst (tCons (tLst tNil) (tCons (tVar 6) (tCons (tListZip K (tCons (tVar 3) (tCons (tOp rCat (tSl (rSlL K) (tVar 3) (tPart (tC (V.int 1))) tNoPart) (tSl (rSlL K) (tVar 3) tNoPart (tPart (tC (V.int 1))))) tNil))) tNil)))) (tCall spDraw [] E0 (tCons (tVar 1) (tCons (tC (V.int 3)) tNil)))) [s0, .im (mV (.ref p)), s2, .im (mStrs ss), .im (mWts ss f), .own (oL (qs.map mPair)), .im (mTold [(a, b), (b, a)]), s7, s8, s9, s10] 1
      (mEx (fun us : List (Str × Str) => us.length ≤ 6 ∧ ∀ q ∈ us, q.1 ∈ ss ∧ q.2 ∈ ss) fun us => mL (us.map mPair)) := by
    refine Ev.mono (ev_op (S1 := mL ([[], [(a, b), (b, a)], ss.zip (ss.drop 1 ++ ss.take 1)].map mTold)) (ev_lst (ea_cons ev_lst0 (ea_cons (ev_var (i := 6) rfl) (ea_cons h5 ea_nil)))) (ev_callP (c := 0) (3 : Int) (ea_cons (ev_var (i := 1) rfl) (ea_cons ev_c ea_nil)) ⟨by decide, by decide⟩) (rv_ixLx (xs := [[], [(a, b), (b, a)], ss.zip (ss.drop 1 ++ ss.take 1)]) (R := mTold) fun d hd => ⟨hd.1, by simpa using hd.2⟩)) (fun G v ⟨us, mu, h⟩ => ⟨us, ?_, h⟩) (by decide)
    simp only [List.mem_cons, List.not_mem_nil, or_false] at mu
    rcases mu with rfl | rfl | rfl
    · exact ⟨by simp, fun q m => nomatch m⟩
    · refine ⟨by simp, fun q m => ?_⟩
      simp only [List.mem_cons, List.not_mem_nil, or_false] at m
      rcases m with rfl | rfl
      · exact ⟨ma, mb⟩
      · exact ⟨mb, ma⟩
    · exact ⟨nbl, nbm⟩
  refine x_seq (c1 := 1) (fun Γ' => ∃ us : List (Str × Str), (us.length ≤ 6 ∧ ∀ q ∈ us, q.1 ∈ ss ∧ q.2 ∈ ss) ∧ Γ' = [s0, .im (mV (.ref p)), s2, .im (mStrs ss), .im (mWts ss f), .own (oL ((qs ++ us).map mPair)), .im (mTold [(a, b), (b, a)]), s7, s8, s9, s10]) (sx_extendEx (i := 5) (R := fun us : List (Str × Str) => us.map mPair) rfl h6 (fun us hu => by rw [List.length_map, List.length_map]; have := hq.1; have := hu.1; omega) fun us hu => ⟨us, hu, by rw [List.map_append]; rfl⟩) (fun Γ' hI => ?_) (by decide)
  obtain ⟨us, hu, rfl⟩ := hI
  have T : Tn ss f (qs ++ us) := ⟨hs, hf, by rw [List.length_append]; have := hq.1; have := hu.1; omega, fun q m => (List.mem_append.mp m).elim (fun m => ⟨(hq.2 q m).1, (hq.2 q m).2.1⟩) (hu.2 q)⟩
  generalize qs ++ us = ts at T
  refine sx_freeze (i := 5) rfl ?_
  show Sx (some p) _ [s0, .im (mV (.ref p)), s2, .im (mStrs ss), .im (mWts ss f), .im (mTold ts), .im (mTold [(a, b), (b, a)]), s7, s8, s9, s10] 103 _
  have okA := (T.okL (d := .none) ⟨Gd.of (by decide +kernel), by decide⟩).arg
  have eW : mWts ss f = mWts (nmW (ofL ⟨.none, ss, f, ts⟩)) (vlW (ofL ⟨.none, ss, f, ts⟩)) := by
    rw [nm_ofL]
    exact mD_congr fun s m => by rw [vl_ofL (x := ⟨.none, ss, f, ts⟩) m]
  have h7 : Ev (some p) (tMake C (spOI C) [] E0 (tCons (tVar 4) (tCons (tVar 5) tNil))) [s0, .im (mV (.ref p)), s2, .im (mStrs ss), .im (mWts ss f), .im (mTold ts), .im (mTold [(a, b), (b, a)]), s7, s8, s9, s10] 0 (mOrd C (oT ss f ts)) :=
    ev_make (c := 0) (⟨ofL ⟨.none, ss, f, ts⟩, ts, mWts (nmW (ofL ⟨.none, ss, f, ts⟩)) (vlW (ofL ⟨.none, ss, f, ts⟩)), mTold ts⟩ : ArgO) (ea_cons (by rw [← eW]; exact ev_var (i := 4) rfl) (ea_cons (ev_var (i := 5) rfl) ea_nil)) okA
  refine x_let (c1 := 0) (i := 7) h7 ?_
  show Sx (some p) _ [s0, .im (mV (.ref p)), s2, .im (mStrs ss), .im (mWts ss f), .im (mTold ts), .im (mTold [(a, b), (b, a)]), .im (mOrd C (oT ss f ts)), s8, s9, s10] 103 _
  refine Sx.more (sx_for (ei_rng1 (Px := fun j => j = 5) (ea_cons (ev_c.mono fun _ _ e => ⟨5, rfl, e⟩) ea_nil) (fun j e => by omega)) 19 5 fun Ps hL => ?_) (by decide)
  obtain ⟨j, rfl, rfl⟩ := hL
  refine ⟨by decide, fun i Γ' => ∃ s8 s9 s10, Γ' = [s0, .im (mV (.ref p)), s2, .im (mStrs ss), .im (mWts ss f), .im (mTold ts), .im (mTold [(a, b), (b, a)]), .im (mOrd C (oT ss f ts)), s8, s9, s10], ⟨_, _, _, rfl⟩, fun i P Γ' hP hI => ?_, fun Γ' ⟨s8, s9, s10, e⟩ => ⟨_, _, _, _, _, _, _, _, e⟩⟩
  obtain ⟨s8', s9', s10', rfl⟩ := hI
  refine ⟨_, _, gx_name, ?_⟩
  show Sx (some p) _ [s0, .im (mV (.ref p)), s2, .im (mStrs ss), .im (mWts ss f), .im (mTold ts), .im (mTold [(a, b), (b, a)]), .im (mOrd C (oT ss f ts)), .im P, s9', s10'] 19 _
  have h8 : Ev (some p) (tCall spWalk [] E0 (tCons (tVar 1) (tCons (tVar 3) (tCons (tVar 5) tNil)))) [s0, .im (mV (.ref p)), s2, .im (mStrs ss), .im (mWts ss f), .im (mTold ts), .im (mTold [(a, b), (b, a)]), .im (mOrd C (oT ss f ts)), .im P, s9', s10'] 7 (mEx (RowOk ss) fun us => mT (us.map mS)) :=
    ev_callP (c := 0) (⟨ss, ts⟩ : ArgWk) (ea_cons (ev_var (i := 1) rfl) (ea_cons (ev_var (i := 3) rfl) (ea_cons (ev_var (i := 5) rfl) ea_nil))) ⟨hs.ne, by show ss.length ≤ 1000; omega, by have := T.fewt; show ts.length ≤ 1000; omega, T.mem⟩
  refine x_one (c1 := 7) (i := 9) h8 fun row hrow => ?_
  exact (sx_things T hrow).mono (fun Γ' ⟨s, e⟩ => ⟨_, _, _, e⟩) (fun _ _ h => h) (fun _ h => h.elim) (fun _ h => h.elim) (by decide)
end
end Ev

set_option Elab.async false
set_option linter.all false
set_option maxRecDepth 100000
set_option maxHeartbeats 4000000
namespace Ev
open PySem PySem.Spec L2
variable [z : Tz]

section
variable {pn : Option Addr} {Γ : Gam} {c : Nat} {te : TE} {K : PySem.W.Frag}
theorem ev_dnewDk : Ev pn tDNewK Γ 0 (mDk []) := .mk fun {G H σ n} E l Q q => fun p hp => by
  have k := Stp.new (o := .dK []) E.gh hp
  obtain ⟨k4, p4⟩ := k.pure E.pen
  exact q (.ref p) _ _ n k4 p4 (by omega) ⟨p, rfl, upd_same⟩
theorem ev_disp2 {a b : Str} {i j : Int} (ne : a ≠ b) : Ev pn (tDisp [(tC (.str a), tC (.int i)), (tC (.str b), tC (.int j))]) Γ 0 (mDk [(a, i), (b, j)]) := .mk fun {G H σ n} E l Q q => fun p hp => by
  refine ⟨upd_same, [(.inr a, .int i), (.inr b, .int j)], rfl, by simp, ?_⟩
  have k := Stp.new (o := .dK (dkv [(a, i), (b, j)])) E.gh hp
  obtain ⟨k4, p4⟩ := k.pure E.pen
  have em : mergeK [] [((Sum.inr a : Key), V.int i), ((Sum.inr b : Key), V.int j)] = dkv [(a, i), (b, j)] := by
    show putK (putK ([] : List (Key × V)) (Sum.inr a) (V.int i)) (Sum.inr b) (V.int j) = _
    have e1 : putK ([] : List (Key × V)) (Sum.inr a) (V.int i) = [(Sum.inr a, V.int i)] := rfl
    rw [e1]
    unfold putK
    have : ¬ (Sum.inr a : Key) = .inr b := fun z => ne (Sum.inr.inj z)
    simp [this]
    rfl
  have e : upd (upd H p (.dK [])) p (.dK (mergeK [] [(.inr a, .int i), (.inr b, .int j)])) = upd H p (.dK (dkv [(a, i), (b, j)])) := by
    rw [em]
    funext b
    unfold upd
    by_cases h : b = p
    · simp [h]
    · simp [h]
  rw [e]
  exact q (.ref p) _ _ n k4 p4 (by omega) ⟨p, rfl, upd_same⟩
theorem rv_isB {a b : Bool} : RV rIsB (mV (.bl a)) (mV (.bl b)) (mV (.bl (decide (a = b)))) := .mk fun e h1 h2 Q q => ⟨a, b, h1, h2, q _ _ _ (.refl e) rfl⟩
end
def f0 : Str → Int := fun s => if s = "b" then 3 else 2
abbrev ss0 : List Str := ["a", "b"]
abbrev ts0 : List (Str × Str) := [("a", "b"), ("b", "a")]
theorem tn0 : Tn ss0 f0 ts0 := ⟨⟨by decide +kernel, by decide, by decide, by decide +kernel⟩, by decide +kernel, by decide, by decide +kernel⟩
theorem ws0 : (ss0.map fun s => (s, f0 s)) = [(("a" : Str), (2 : Int)), ("b", 3)] := by decide +kernel
theorem okS {us : List Str} (h : us.all (fun u => decide (u ∈ ss0)) = true) (l : us.length ≤ 40) : OkB (.tuple (us.map .str)) := okB_strs (fun u m => tn0.s.gd u (of_decide_eq_true (List.all_eq_true.mp h u m))) l
theorem okArg0 : OkArg ⟨ss0.map fun s => (s, f0 s), ts0, mDk (ss0.map fun s => (s, f0 s)), mTold ts0⟩ := ⟨.inl rfl, .inl rfl, by decide +kernel, by decide, by decide, by decide +kernel⟩
theorem ord0_ok : ord0.Ok := Ord.make_ok (x := ⟨[], [], mDk [], mL []⟩) ⟨.inl rfl, .inl rfl, List.nodup_nil, by decide, by decide, fun p m => nomatch m⟩
section
variable {K : PySem.W.Frag} {p C d0 : Addr}
theorem w1 : wtC (oT ss0 f0 ts0) (.tuple ((["a", "b", "a"] : List Str).map .str)) = some 7 := by
  have h := wt_eq (tn0.okL (okS (us := ["a", "b", "a"]) (by decide +kernel) (by decide)))
  rw [show (oT ss0 f0 ts0) = Ord.make (ofL ⟨.tuple ((["a", "b", "a"] : List Str).map .str), ss0, f0, ts0⟩) ts0 from rfl]
  rw [h]
  decide +kernel
theorem r1 : rgC (oT ss0 f0 ts0).ps (.tuple ((["b", "a"] : List Str).map .str)) = true := by
  have h := rg_eq (x := ⟨.tuple ((["b", "a"] : List Str).map .str), ss0, f0, ts0⟩)
  rw [show (oT ss0 f0 ts0) = Ord.make (ofL ⟨.tuple ((["b", "a"] : List Str).map .str), ss0, f0, ts0⟩) ts0 from rfl]
  rw [h]
  decide +kernel
theorem sx_end26 {s0 s2 s3 s4 s5 s6 s7 s8 s9 s10 : Sl} {c : Nat} :
    Sx (some p) (tSeq (tAsg (tMake C (spOI C) [] E0 (tCons (tDisp [(tC (V.str "a"), tC (V.int 2)), (tC (V.str "b"), tC (V.int 3))]) (tCons (tLst (tCons (tTup (tCons (tC (V.str "a")) (tCons (tC (V.str "b")) tNil))) (tCons (tTup (tCons (tC (V.str "b")) (tCons (tC (V.str "a")) tNil))) tNil))) tNil))) (gName 7))
      (tSeq (tAsg (tLst (tCons (tCall (spCw C) [] E0 (tCons (tVar 7) (tCons (tTup (tCons (tC (V.str "a")) (tCons (tC (V.str "b")) (tCons (tC (V.str "a")) tNil)))) tNil))) (tCons (tCall (spRg C) [] E0 (tCons (tVar 7) (tCons (tTup tNil) tNil))) tNil))) (gName 5))
      (tSeq (tIfS (tTest (tOp rNe (tCB (rReprD K) (tCons (tVar 5) tNil)) (tCB (rReprD K) (tCons (tLst (tCons (tC (V.int 7)) (tCons (tC (V.bl false)) tNil))) tNil)))) (tRet (tC (V.bl false))) tNext)
        (tRet (tAndV (tOp rIsB (tCall (spRg C) [] E0 (tCons (tVar 7) (tCons (tTup (tCons (tC (V.str "b")) (tCons (tC (V.str "a")) tNil))) tNil))) (tC (V.bl true))) (tOp rIsN (tCall (spCw C) [] E0 (tCons (tMake C (spOI0 C d0) [V.ref d0] E0 (tCons tDNewK tNil)) (tCons (tTup tNil) tNil))) (tC V.non)))))))
      [s0, .im (mV (.ref p)), s2, s3, s4, s5, s6, s7, s8, s9, s10] 0 (endO (mV (.bl true))) := by
  have hO : Ev (some p) (tMake C (spOI C) [] E0 (tCons (tDisp [(tC (V.str "a"), tC (V.int 2)), (tC (V.str "b"), tC (V.int 3))]) (tCons (tLst (tCons (tTup (tCons (tC (V.str "a")) (tCons (tC (V.str "b")) tNil))) (tCons (tTup (tCons (tC (V.str "b")) (tCons (tC (V.str "a")) tNil))) tNil))) tNil))) [s0, .im (mV (.ref p)), s2, s3, s4, s5, s6, s7, s8, s9, s10] 0 (mOrd C (oT ss0 f0 ts0)) := by
    refine ev_make (c := 0) (⟨ss0.map fun s => (s, f0 s), ts0, mDk (ss0.map fun s => (s, f0 s)), mTold ts0⟩ : ArgO) (ea_cons (S := mDk (ss0.map fun s => (s, f0 s))) ?_ (ea_cons (S := mTold ts0) (ev_lst (ea_cons (S := mPair ("a", "b")) (ev_tup (ea_cons ev_c (ea_cons ev_c ea_nil))) (ea_cons (S := mPair ("b", "a")) (ev_tup (ea_cons ev_c (ea_cons ev_c ea_nil))) ea_nil))) ea_nil)) okArg0
    rw [ws0]
    exact ev_disp2 (by decide +kernel)
  refine x_let (c1 := 0) (i := 7) hO ?_
  show Sx (some p) _ [s0, .im (mV (.ref p)), s2, s3, s4, s5, s6, .im (mOrd C (oT ss0 f0 ts0)), s8, s9, s10] 0 _
  have ok0 : (oT ss0 f0 ts0).Ok := Ord.make_ok okArg0
  have hW : Ev (some p) (tCall (spCw C) [] E0 (tCons (tVar 7) (tCons (tTup (tCons (tC (V.str "a")) (tCons (tC (V.str "b")) (tCons (tC (V.str "a")) tNil)))) tNil))) [s0, .im (mV (.ref p)), s2, s3, s4, s5, s6, .im (mOrd C (oT ss0 f0 ts0)), s8, s9, s10] 0 (mI 7) := by
    have hA : Ev (some p) (tTup (tCons (tC (V.str "a")) (tCons (tC (V.str "b")) (tCons (tC (V.str "a")) tNil)))) [s0, .im (mV (.ref p)), s2, s3, s4, s5, s6, .im (mOrd C (oT ss0 f0 ts0)), s8, s9, s10] 0 (mDat (.tuple ((["a", "b", "a"] : List Str).map .str))) := by
      rw [dat_strs]
      exact ev_tup (ea_cons ev_c (ea_cons ev_c (ea_cons ev_c ea_nil)))
    have k := ev_callF (pn := some p) (c := 0) (E := E0) (ar := fun x : Ord × PyData => [mOrd C x.1, mDat x.2]) (pre := fun x => x.1.Ok ∧ lenD x.2 ≤ 500) (res := fun x => mO (wtC x.1 x.2)) (oT ss0 f0 ts0, .tuple ((["a", "b", "a"] : List Str).map .str)) (ea_cons (ev_var (i := 7) (Γ := [s0, .im (mV (.ref p)), s2, s3, s4, s5, s6, .im (mOrd C (oT ss0 f0 ts0)), s8, s9, s10]) rfl) (ea_cons hA ea_nil)) ⟨ok0, by decide⟩
    rw [w1] at k
    exact k
  have hR : Ev (some p) (tCall (spRg C) [] E0 (tCons (tVar 7) (tCons (tTup tNil) tNil))) [s0, .im (mV (.ref p)), s2, s3, s4, s5, s6, .im (mOrd C (oT ss0 f0 ts0)), s8, s9, s10] 0 (mV (.bl false)) :=
    ev_callF (pn := some p) (c := 0) (E := E0) (ar := fun x : Ord × PyData => [mOrd C x.1, mDat x.2]) (pre := fun x => x.1.Ok ∧ lenD x.2 ≤ 500) (res := fun x => mV (.bl (rgC x.1.ps x.2))) (oT ss0 f0 ts0, .tuple []) (ea_cons (ev_var (i := 7) rfl) (ea_cons ev_tup0 ea_nil)) ⟨ok0, by decide⟩
  refine x_let (c1 := 0) (i := 5) (S := mL [mI 7, mV (.bl false)]) (ev_lst (ea_cons hW (ea_cons hR ea_nil))) ?_
  show Sx (some p) _ [s0, .im (mV (.ref p)), s2, s3, s4, .im (mL [mI 7, mV (.bl false)]), s6, .im (mOrd C (oT ss0 f0 ts0)), s8, s9, s10] 0 _
  have hd : HasD K (mL [mI 7, mV (.bl false)]) (.list [.int 7, .bool false]) := hd_lst (.cons hd_int (.cons hd_bl .nil))
  have hs : (PyData.list [.int 7, .bool false]).showable = true ∧ (PyData.list [.int 7, .bool false]).depth ≤ 64 ∧ (PyData.list [.int 7, .bool false]).shown.length ≤ 100000 := by decide +kernel
  refine x_guard (c1 := 0) (c2 := 0) (c3 := 0) (et_testV (ev_op (ev_cb (ea_cons (ev_var (i := 5) rfl) ea_nil) (rc_repr hd hs.1 hs.2.1 hs.2.2)) (ev_cb (ea_cons (S := mL [mI 7, mV (.bl false)]) (ev_lst (ea_cons ev_c (ea_cons ev_c ea_nil))) ea_nil) (rc_repr hd hs.1 hs.2.1 hs.2.2)) rv_neS)) (fun hT => ?_) (fun _ => ?_)
  · simp at hT
  have hR2 : Ev (some p) (tCall (spRg C) [] E0 (tCons (tVar 7) (tCons (tTup (tCons (tC (V.str "b")) (tCons (tC (V.str "a")) tNil))) tNil))) [s0, .im (mV (.ref p)), s2, s3, s4, .im (mL [mI 7, mV (.bl false)]), s6, .im (mOrd C (oT ss0 f0 ts0)), s8, s9, s10] 0 (mV (.bl true)) := by
    have hA : Ev (some p) (tTup (tCons (tC (V.str "b")) (tCons (tC (V.str "a")) tNil))) [s0, .im (mV (.ref p)), s2, s3, s4, .im (mL [mI 7, mV (.bl false)]), s6, .im (mOrd C (oT ss0 f0 ts0)), s8, s9, s10] 0 (mDat (.tuple ((["b", "a"] : List Str).map .str))) := by
      rw [dat_strs]
      exact ev_tup (ea_cons ev_c (ea_cons ev_c ea_nil))
    have k := ev_callF (pn := some p) (c := 0) (E := E0) (ar := fun x : Ord × PyData => [mOrd C x.1, mDat x.2]) (pre := fun x => x.1.Ok ∧ lenD x.2 ≤ 500) (res := fun x => mV (.bl (rgC x.1.ps x.2))) (oT ss0 f0 ts0, .tuple ((["b", "a"] : List Str).map .str)) (ea_cons (ev_var (i := 7) (Γ := [s0, .im (mV (.ref p)), s2, s3, s4, .im (mL [mI 7, mV (.bl false)]), s6, .im (mOrd C (oT ss0 f0 ts0)), s8, s9, s10]) rfl) (ea_cons hA ea_nil)) ⟨ok0, by decide⟩
    rw [r1] at k
    exact k
  have hM : Ev (some p) (tMake C (spOI0 C d0) [V.ref d0] E0 (tCons tDNewK tNil)) [s0, .im (mV (.ref p)), s2, s3, s4, .im (mL [mI 7, mV (.bl false)]), s6, .im (mOrd C (oT ss0 f0 ts0)), s8, s9, s10] 0 (mOrd C ord0) :=
    ev_makeD (c := 0) () (ea_cons ev_dnewDk ea_nil) rfl trivial
  have hN : Ev (some p) (tCall (spCw C) [] E0 (tCons (tMake C (spOI0 C d0) [V.ref d0] E0 (tCons tDNewK tNil)) (tCons (tTup tNil) tNil))) [s0, .im (mV (.ref p)), s2, s3, s4, .im (mL [mI 7, mV (.bl false)]), s6, .im (mOrd C (oT ss0 f0 ts0)), s8, s9, s10] 0 (mV .non) :=
    ev_callF (pn := some p) (c := 0) (E := E0) (ar := fun x : Ord × PyData => [mOrd C x.1, mDat x.2]) (pre := fun x => x.1.Ok ∧ lenD x.2 ≤ 500) (res := fun x => mO (wtC x.1 x.2)) (ord0, .tuple []) (ea_cons hM (ea_cons ev_tup0 ea_nil)) ⟨ord0_ok, by decide⟩
  exact x_ret (c1 := 0) (S := mV (.bl (true && true))) (ev_andB (c1 := 0) (c2 := 0) (ev_op hR2 ev_c rv_isB) fun _ => ev_op hN ev_c rv_isN0) (fun G v h => h)
end
end Ev

set_option Elab.async false
set_option linter.all false
set_option maxRecDepth 100000
set_option maxHeartbeats 4000000
namespace Ev
open PySem PySem.Spec L2
variable [z : Tz]

structure Bm (mg : Str → Option Value) : Prop where
  range : mg "range" = none
  list : mg "list" = none
  zip : mg "zip" = none
  tuple : mg "tuple" = none
  repr : mg "repr" = none
section
variable {P : Program} {w : World} {K : PySem.W.Frag} {mg : Str → Option Value} {base : Heap}
abbrev sLaw : Stmt := topS 33
theorem scLaw : FnScope ["script", "pen", "turn", "some", "wide", "told", "both", "net_of", "k", "row", "thing"] ["script"] (defScope sLaw) := ⟨rfl, rfl, rfl, by decide +kernel, rfl, by decide +kernel, by decide +kernel⟩

abbrev spLaw [z : Tz] (K : PySem.W.Frag) : Sp := fun vs H Q _ => ∃ (a : Addr) (ns : List Int), vs = [.ref a] ∧ SqL K H a (ns.map V.int) ∧ ns.length ≤ 63 ∧ SysT H ∧ ∀ H', Q (.bl true) H'
theorem ok_law (hz : z.T = []) {f : Addr} {fd : FuncData} {k : Nat} (F : Fun K "law" "law" sLaw f fd) (C d0 : Addr) (T : Bm mg)
    (G__law_pen : Fd P w K mg base k "_law_pen" ["script"] (spPen K)) (G__law_draw : Fd P w K mg base k "_law_draw" ["pen", "many"] spDraw) (G__law_some : Fd P w K mg base k "_law_some" ["pen", "most"] spSome) (G__law_wide : Fd P w K mg base k "_law_wide" ["pen", "some"] spWide) (G__law_two : Fd P w K mg base k "_law_two" ["pen", "some"] spTwo)
    (G__law_walk : Fd P w K mg base k "_law_walk" ["pen", "some", "told"] spWalk) (G__law_bent : Fd P w K mg base k "_law_bent" ["pen", "some", "row"] spBent) (G__law_right : Fd P w K mg base k "_law_right" ["net_of", "thing", "wide", "told"] (spLi C))
    (G_Order : Mc P w K mg base k "Order" C ["self", "widths", "pairs"] (spOI C)) (GD_Order : McD P w K mg base k "Order" C ["self", "widths", "pairs"] [.ref d0] (spOI0 C d0))
    (G_chain_weight : Fd P w K mg base k "chain_weight" ["order", "value"] (spCw C)) (GK_chain_weight : FdK P w K mg base k "chain_weight" ["order", "value"] (spCw C)) (G_shows_ring : Fd P w K mg base k "shows_ring" ["order", "value"] (spRg C)) (GK_shows_ring : FdK P w K mg base k "shows_ring" ["order", "value"] (spRg C)) : GnOk P w K mg base CX0 (k + 2) f fd ["script"] (spLaw K) := by
  refine okG F scLaw (fun vs H Q E h => by obtain ⟨a, ns, rfl, _⟩ := h; rfl) (fun cdv A outer s H vs Q E hc hr h => ?_)
  have hu := hu_of hr
  refine ⟨_, (pss_cons (ps_set (i := 1) scLaw.nd rfl (.inr rfl) (pe_fd G__law_pen hc (hr.mono (by omega)) (pa_cons (pv 0) pa_nil)))
      (pss_cons (ps_for PassesOwn.never rfl (pi_range1 (by rfl) T.range (pa_cons pe_int pa_nil)) (pg_name (i := 2) scLaw.nd rfl (.inl rfl))
        (pss_cons (ps_set (i := 3) scLaw.nd rfl (.inr rfl) (pe_op op_cat (pe_fd G__law_some hc (hr.mono (by omega)) (pa_cons (pv 1) (pa_cons pe_int pa_nil))) (pe_lst (pa_cons pe_str (pa_cons pe_str pa_nil)))))
      (pss_cons (ps_set (i := 4) scLaw.nd rfl (.inl rfl) (pe_fd G__law_wide hc (hr.mono (by omega)) (pa_cons (pv 1) (pa_cons (pv 3) pa_nil))))
      (pss_cons (ps_setLc (i := 5) (own := [("k", 8)]) rfl scLaw.nd rfl rfl (sw_true rfl rfl rfl (by decide +kernel)) (pi_range1 (by rfl) T.range (pa_cons (pe_fd G__law_draw hc (hr.mono (by omega)) (pa_cons (pv 1) (pa_cons pe_int pa_nil))) pa_nil)) (blkOk_by (N := ["script", "pen", "turn", "some", "wide", "told", "both", "net_of", "k", "row", "thing"]) (sc := defScope sLaw) (by decide +kernel)) (fun _ _ _ _ _ => (pg_name (i := 8) scLaw.nd rfl (.inl rfl))) (fun _ _ _ _ _ => pts_nil) (fun _ _ _ _ _ => (pe_fd G__law_two hc (hr.mono (by omega)) (pa_cons (pv 1) (pa_cons (pv 3) pa_nil)))))
      (pss_cons (ps_set (i := 6) scLaw.nd rfl (.inl rfl) (pe_lst (pa_cons (pe_tup (pa_cons (pe_ix (ix_listK (K := K)) (pv 3) pe_int (fun _ _ => rfl)) (pa_cons (pe_ix (ix_listK (K := K)) (pv 3) pe_int (fun _ _ => rfl)) pa_nil))) (pa_cons (pe_tup (pa_cons (pe_ix (ix_listK (K := K)) (pv 3) pe_int (fun _ _ => rfl)) (pa_cons (pe_ix (ix_listK (K := K)) (pv 3) pe_int (fun _ _ => rfl)) pa_nil))) pa_nil))))
      (pss_cons (ps_expr (pe_bm PySem.F.plainAttrs_list PySem.F.slot_list_extend PySem.F.type_list_extend mt_extend (pv 5) (pa_cons (pe_ix (ix_listK (K := K)) (pe_lst (pa_cons (pe_lst pa_nil) (pa_cons (pv 6) (pa_cons (pe_listZip rfl (by rfl) T.list (by decide +kernel) (by rfl) T.zip (pa_cons (pv 3) (pa_cons (pe_op op_cat (pe_slice (sl_listK (K := K)) (pv 3) (po_some pe_int) po_none) (pe_slice (sl_listK (K := K)) (pv 3) po_none (po_some pe_int))) pa_nil))) pa_nil)))) (pe_fd G__law_draw hc (hr.mono (by omega)) (pa_cons (pv 1) (pa_cons pe_int pa_nil))) (fun _ _ => rfl)) pa_nil)))
      (pss_cons (ps_set (i := 7) scLaw.nd rfl (.inl rfl) (pe_mc G_Order hc (hr.mono (by omega)) (pa_cons (pv 4) (pa_cons (pv 5) pa_nil))))
      (pss_one (ps_for PassesOwn.never rfl (pi_range1 (by rfl) T.range (pa_cons pe_int pa_nil)) (pg_name (i := 8) scLaw.nd rfl (.inl rfl))
        (pss_cons (ps_set (i := 9) scLaw.nd rfl (.inl rfl) (pe_fd G__law_walk hc (hr.mono (by omega)) (pa_cons (pv 1) (pa_cons (pv 3) (pa_cons (pv 5) pa_nil)))))
      (pss_one (ps_for PassesOwn.never rfl (pi_tup (pe_tup (pa_cons (pv 9) (pa_cons (pe_fd G__law_bent hc (hr.mono (by omega)) (pa_cons (pv 1) (pa_cons (pv 3) (pa_cons (pv 9) pa_nil)))) (pa_cons (pe_callTy call_tuple_of (by rfl) T.tuple (by decide +kernel) (pa_cons (pv 3) pa_nil)) (pa_cons (pe_fd G__law_bent hc (hr.mono (by omega)) (pa_cons (pv 1) (pa_cons (pv 3) (pa_cons (pe_callTy call_tuple_of (by rfl) T.tuple (by decide +kernel) (pa_cons (pv 3) pa_nil)) pa_nil)))) pa_nil)))))) (pg_name (i := 10) scLaw.nd rfl (.inl rfl))
        (pss_one (ps_if (pt_not (pt_val (pe_fd G__law_right hc (hr.mono (by omega)) (pa_cons (pv 7) (pa_cons (pv 10) (pa_cons (pv 4) (pa_cons (pv 5) pa_nil)))))))
        (pss_one (ps_ret pe_bl))
        pss_nil))))))))))))))
      (pss_cons (ps_set (i := 7) scLaw.nd rfl (.inl rfl) (pe_mc G_Order hc (hr.mono (by omega)) (pa_cons (pe_disp (pps_cons pe_str pe_int (pps_cons pe_str pe_int pps_nil)) (by rfl) (by rfl) (fun z => by cases z) (by decide)) (pa_cons (pe_lst (pa_cons (pe_tup (pa_cons pe_str (pa_cons pe_str pa_nil))) (pa_cons (pe_tup (pa_cons pe_str (pa_cons pe_str pa_nil))) pa_nil))) pa_nil))))
      (pss_cons (ps_set (i := 5) scLaw.nd rfl (.inl rfl) (pe_lst (pa_cons (pe_fdKw GK_chain_weight hc (hr.mono (by omega)) (pk_cons (pv 7) (pk_cons (pe_tup (pa_cons pe_str (pa_cons pe_str (pa_cons pe_str pa_nil)))) pk_nil))) (pa_cons (pe_fdKw GK_shows_ring hc (hr.mono (by omega)) (pk_cons (pv 7) (pk_cons (pe_tup pa_nil) pk_nil))) pa_nil))))
      (pss_cons (ps_if (pt_cmpR op_ne (pe_callB (call_reprD hc (hu70_of hr)) (by rfl) T.repr (by decide +kernel) (pa_cons (pv 5) pa_nil)) (pe_callB (call_reprD hc (hu70_of hr)) (by rfl) T.repr (by decide +kernel) (pa_cons (pe_lst (pa_cons pe_int (pa_cons pe_bl pa_nil))) pa_nil)) (nomark _))
        (pss_one (ps_ret pe_bl))
        pss_nil)
      (pss_one (ps_ret (pe_and (pe_cmpR op_isBl (pe_fd G_shows_ring hc (hr.mono (by omega)) (pa_cons (pv 7) (pa_cons (pe_tup (pa_cons pe_str (pa_cons pe_str pa_nil))) pa_nil))) pe_bl (nomark _)) (pe_one (pe_cmpR op_isN1 (pe_fd G_chain_weight hc (hr.mono (by omega)) (pa_cons (pe_mcD GD_Order hc (hr.mono (by omega)) (pa_cons pe_dnewK pa_nil)) (pa_cons (pe_tup pa_nil) pa_nil))) pe_non (nomark _))))))))))), ?_⟩
  obtain ⟨a, ns, rfl, hS, hl, hTb, q⟩ := h
  refine ⟨.ref a, rfl, a, ns, rfl, hS, hl, fun p r H' hp hr' hpr same h1 h2 => ?_⟩
  have gp : (upd (fun _ => none) r (.lst (ns.map V.int)) : Hp) p = none := by rw [upd_ne hpr]
  have eG0 : Same (upd (fun _ => none) r (.lst (ns.map V.int)) : Hp) H' := fun b o e => by
    by_cases z : b = r
    · rw [z, upd_same] at e
      rw [z, h2]
      exact e
    · rw [upd_ne z] at e
      cases e
  have eG := Sm.of eG0
  have tb : Tbs (upd (fun _ => none) r (.lst (ns.map V.int)) : Hp) H' := by
    refine ⟨fun t m => ?_, ?_⟩
    · rw [hz] at m; cases m
    · obtain ⟨o, φ, e⟩ := hTb
      exact ⟨o, φ, same _ _ e⟩
  have pk : PenOk (some p) (upd (fun _ => none) r (.lst (ns.map V.int)) : Hp) H' 0 := ⟨fun p' e => by
    cases e
    exact ⟨gp, r, ns, 0, 0, h1, upd_same, by omega, by omega⟩, tb⟩
  have En : Env (some p) (upd (fun _ => none) r (.lst (ns.map V.int)) : Hp) H' [.no, .im (mV (.ref p)), .no, .no, .no, .no, .no, .no, .no, .no, .no] [some (.ref a), some (.ref p), none, none, none, none, none, none, none, none, none] 0 :=
    ⟨eG, pk, ⟨trivial, ⟨_, rfl, rfl⟩, trivial, trivial, trivial, trivial, trivial, trivial, trivial, trivial, trivial, trivial⟩, by simp [owns]⟩
  have key : ∀ ts : TS, Sx (some p) ts [.no, .im (mV (.ref p)), .no, .no, .no, .no, .no, .no, .no, .no, .no] 800 (endO (mV (.bl true))) → ts { nx := fun _ H' => Q .non H', rt := Q } [some (.ref a), some (.ref p), none, none, none, none, none, none, none, none, none] H' := fun ts hts =>
    hts.run _ En (by decide) (fun _ _ _ _ _ a _ => nomatch (show V.non = V.bl true from a fun _ => none)) (fun v G' H' n' _ _ _ e => by rw [show v = V.bl true from e]; exact q H') (fun _ _ _ _ _ a _ => a.elim) (fun _ _ _ _ _ a _ => a.elim)
  dsimp only [gName]
  refine key _ ?_
  refine x_seq (c1 := 750) (fun Γ' => ∃ s2 s3 s4 s5 s6 s7 s8 s9 s10, Γ' = [.no, .im (mV (.ref p)), s2, s3, s4, s5, s6, s7, s8, s9, s10]) (Sx.more (sx_for (ei_rng1 (Px := fun j => j = 5) (ea_cons (ev_c.mono fun _ _ e => ⟨5, rfl, e⟩) ea_nil) (fun j e => by omega)) 150 5 ?_) (by decide)) (fun Γ' hI => ?_) (by decide)
  · rintro Ps ⟨j, rfl, rfl⟩
    refine ⟨by decide, fun i Γ' => ∃ s2 s3 s4 s5 s6 s7 s8 s9 s10, Γ' = [.no, .im (mV (.ref p)), s2, s3, s4, s5, s6, s7, s8, s9, s10], ⟨_, _, _, _, _, _, _, _, _, rfl⟩, fun i P' Γ' hP hI => ?_, fun _ h => h⟩
    obtain ⟨s2, s3, s4, s5, s6, s7, s8, s9, s10, rfl⟩ := hI
    refine ⟨_, _, gx_name, ?_⟩
    exact Sx.mono (c := 150) sx_turn26 (fun _ ⟨s3, s4, s5, s6, s7, s8, s9, s10, e⟩ => ⟨_, _, _, _, _, _, _, _, _, e⟩) (fun _ _ h => h) (fun _ h => False.elim h) (fun _ h => False.elim h) (Nat.le_refl _)
  · obtain ⟨s2, s3, s4, s5, s6, s7, s8, s9, s10, rfl⟩ := hI
    exact Sx.more (c := 0) (sx_end26 (c := 0)) (Nat.zero_le _)
end
end Ev

set_option Elab.async false
set_option linter.all false
set_option maxRecDepth 100000
set_option maxHeartbeats 4000000
/-! The head for a law's def whose promise asks that nothing is being shown. -/
namespace Ev
open PySem PySem.Spec PyProof.Rows L2
theorem goG {P : Program} {w : World} {K : PySem.W.Frag} {m1 m2 : Str → Option Value} {CX : CXT} {k : Nat} {fa a : Addr} {fd : FuncData} {x : Str} {sp : Sp} {s : Shared} {vs : List Value} {ns : List Int} (inK : K.In s.heap) (n1 : s.heap.Ns mainGlobals m1) (n2 : s.heap.Ns builtinsNs m2)
    (n3 : ∀ y : Str, y ≠ "__name__" → m2 y = bootBuiltins y) (nl : s.heap.NoLimit) (ng : s.gens = #[]) (oa : s.heap.get? a = some { cls := .type "list", data := .seq vs.toArray }) (hi : IntsAre vs ns) (hl : ns.length ≤ sizeLine) (r : Room k callerA)
    (F : ∀ b : Heap, K.In b → b.Ns mainGlobals m1 → GnOk P w K m1 b CX k fa fd [x] sp) (bd : ∀ (s : Shared) (u : Value), BindsTo s fd ⟨[u], []⟩ [(x, u)]) (say : ∀ H : Hp, Only H → SqL K H a (ns.map V.int) → sp [.ref a] H (fun v _ => v = .bl true) fun _ _ _ => False)
    (no : ∀ H e s', CX [] H s (fun _ _ _ => False) e s' → False) :
    codeAny (model P w) callerA (.call (.ref fa) ⟨[.ref a], []⟩) (fun q s' => q = .ok (.ret (.bool true)) ∧ OldK s.heap s'.heap ∧ s'.os = s.os ∧ AllBare s'.gens) s := by
  have rv := vals_ints hi
  obtain ⟨H, hH, hS⟩ : ∃ H : Hp, (∀ b, H b = none ∨ (b = a ∧ K.lookup a = none ∧ H b = some (.frz { cls := .type "list", data := .seq vs.toArray } (.lst (ns.map V.int))))) ∧ SqL K H a (ns.map V.int) := by
    cases q : K.lookup a with
    | some o =>
      have same := (inK a o q).symm.trans oa
      cases same
      exact ⟨fun _ => none, fun _ => .inl rfl, .inr ⟨_, vs.toArray, _, q, rfl, rfl, rfl, by rw [List.size_toArray, hi.length]; exact hl, by simpa using rv⟩⟩
    | none =>
      refine ⟨fun b => if b = a then some (.frz { cls := .type "list", data := .seq vs.toArray } (.lst (ns.map V.int))) else none, fun b => ?_, .inl (.inr ⟨_, if_pos rfl⟩)⟩
      by_cases z : b = a
      · exact .inr ⟨z, rfl, if_pos z⟩
      · exact .inl (if_neg z)
  have seen : ∀ {b : Addr} {o : Obj}, s.heap.get? b = some o → H b = none → (hidT s.heap H).get? b = some o := hidT_get
  have only : Only H := fun b => (hH b).imp id fun z => ⟨_, _, z.2.2⟩
  have okH : HOk P w H s.heap := fun b u z => by
    rcases hH b with y | ⟨rfl, _, y⟩
    · rw [y] at z
      cases z
    · rw [y] at z
      cases z
      exact ⟨oa, by rw [List.length_map]; exact hl, vs, _, rv, oa⟩
  have dicts : ∀ {b : Addr} {m : Str → Option Value}, s.heap.Ns b m → (hidT s.heap H).Ns b m := by
    rintro b m ⟨o, es, ep, e, d, z⟩
    refine ⟨o, es, ep, seen e ?_, d, z⟩
    rcases hH b with y | ⟨rfl, _, _⟩
    · exact y
    · rw [oa] at e
      cases e
      cases d
  have inB : K.In (hidT s.heap H) := fun b o z => seen (inK b o z) (by
    rcases hH b with y | ⟨rfl, y, _⟩
    · exact y
    · rw [y] at z
      cases z)
  obtain ⟨mc, c1, c2⟩ := nl
  have start : Env0 P w K m1 (hidT s.heap H) callerA [] s H := { frames := rfl, mod := ⟨inB, dicts n1, ⟨m2, dicts n2, n3⟩, mc, dicts c1, c2⟩, bs := fun b o e => of_hidT e, bsz := Nat.le_of_eq (hidT_size _ _), funs := trivial, frf := (by intro b z; cases z), hok := okH, bare := .of_eq ng }
  refine codeAny_mono ((F _ inB (dicts n1)).go callerA [] s H ⟨[.ref a], []⟩ [.ref a] [.ref a] _ _ rfl r start (bd s (.ref a)) (.cons rfl .nil) (say H only hS)) ?_
  rintro (e | fl) s' z
  · exact (no H e s' z).elim
  · cases fl with
    | next => exact z.elim
    | brk => exact z.elim
    | cont => exact z.elim
    | ret u =>
      obtain ⟨v, H', os, bare, un, ok', ru, q⟩ := z
      cases (show v = .bl true from q)
      cases (show u = Value.bool true from ru)
      refine ⟨rfl, OldK.of_keep fun b o e => ?_, os, bare⟩
      rcases hH b with y | ⟨rfl, _, y⟩
      · exact un.keep b o e y (by intro z; cases z) (by intro z; cases z)
      · have here := (okH b _ y).1
        have there := (ok' b _ (un.frzs b _ _ y)).1
        rw [here] at e
        cases e
        exact there
/-- the goal that k_head leaves, from such a promise -/
theorem walkG {l : PySem.W.OpenLaw} {n k : Nat} {q : Program} {loose : List Str} {XP : (Str → Option Value) → Heap → Prop} {YP : World → Heap → Prop} {d : DefRec} {K : Params → PySem.W.Frag} {CX : World → CXT} {sp : World → Sp} {x : Str} (hn : l.most = some n) (hn2 : n ≤ sizeLine)
    (nd : d.params.defaults = []) (r : Room k callerA) (inK : ∀ (w : World) (h : Heap), YP w h → (K w.params).In h)
    (F : ∀ (w : World) (mg : Str → Option Value) (fa : Addr) (h : Heap), (K w.params).In h → h.Ns mainGlobals mg → mg d.name = some (.ref fa) → ∃ fd : FuncData, (∀ (s : Shared) (u : Value), BindsTo s fd ⟨[u], []⟩ [(x, u)]) ∧
      ∀ b : Heap, (K w.params).In b → b.Ns mainGlobals mg → GnOk l.prog w (K w.params) mg b (CX w) k fa fd [x] (sp w))
    (say : ∀ (w : World) (H : Hp) (a : Addr) (ns : List Int), ns.length ≤ n → (∀ z ∈ ns, Builtin.Int.intBits z ≤ 1048576) → Only H → SqL (K w.params) H a (ns.map V.int) → sp w [.ref a] H (fun v _ => v = .bl true) fun _ _ _ => False)
    (no : ∀ (w : World) (H : Hp) (s : Shared) (e : Value) (s' : Shared), CX w [] H s (fun _ _ _ => False) e s' → False) : PySem.W.WalkO q loose XP YP l.row.toRowW d [] (fun f vs => PySem.call f vs) := by
  refine Att.attach_callB hn nd ?_
  intro w s0 s mg mb fa o pm cd doc a vs ns G Y _ _ _ m oa hi hl bits ng
  obtain ⟨fd, bd, hF⟩ := F w mg fa _ (inK w _ Y) G.T.g m
  exact goG (inK w _ Y) G.T.g G.T.b G.T.builtins G.T.nolimit ng oa hi (Nat.le_trans hl hn2) r hF bd (fun H z1 z2 => say w H a ns hl bits z1 z2) fun H e s' => no w H s e s'
end Ev

set_option Elab.async false
set_option linter.all false
set_option maxRecDepth 100000
set_option maxHeartbeats 4000000
/-! The head for a law's def whose promise asks that sys.modules is known to stand. -/
namespace Ev
open PySem PySem.Spec PyProof.Rows L2
theorem sys_of {h : Heap} (n : h.NoSeer) : ∃ o, h.get? sysModules = some o ∧ ∀ vs : Array Value, o.data ≠ .seq vs := by
  obtain ⟨_, ⟨o, es, ep, e, d, _⟩, _⟩ := n.mods
  exact ⟨o, e, fun vs z => by rw [d] at z; cases z⟩
theorem goGS {P : Program} {w : World} {K : PySem.W.Frag} {m1 m2 : Str → Option Value} {CX : CXT} {k : Nat} {fa a : Addr} {fd : FuncData} {x : Str} {sp : Sp} {s : Shared} {vs : List Value} {ns : List Int} (inK : K.In s.heap) (n1 : s.heap.Ns mainGlobals m1) (n2 : s.heap.Ns builtinsNs m2)
    (n3 : ∀ y : Str, y ≠ "__name__" → m2 y = bootBuiltins y) (nl : s.heap.NoLimit) (ng : s.gens = #[]) (oa : s.heap.get? a = some { cls := .type "list", data := .seq vs.toArray }) (hi : IntsAre vs ns) (hl : ns.length ≤ sizeLine) (r : Room k callerA)
    (F : ∀ b : Heap, K.In b → b.Ns mainGlobals m1 → GnOk P w K m1 b CX k fa fd [x] sp) (bd : ∀ (s : Shared) (u : Value), BindsTo s fd ⟨[u], []⟩ [(x, u)]) {o0 : Obj} (ho : s.heap.get? sysModules = some o0) (hd0 : o0.data ≠ .seq vs.toArray) (nk : K.lookup sysModules = none) (say : ∀ H : Hp, SysT H → SqL K H a (ns.map V.int) → sp [.ref a] H (fun v _ => v = .bl true) fun _ _ _ => False)
    (no : ∀ H e s', CX [] H s (fun _ _ _ => False) e s' → False) :
    codeAny (model P w) callerA (.call (.ref fa) ⟨[.ref a], []⟩) (fun q s' => q = .ok (.ret (.bool true)) ∧ OldK s.heap s'.heap ∧ s'.os = s.os ∧ AllBare s'.gens) s := by
  have rv := vals_ints hi
  have am : a ≠ sysModules := fun e => by
    rw [e, ho] at oa
    cases oa
    exact hd0 rfl
  obtain ⟨H, hH, hY, hS⟩ : ∃ H : Hp, (∀ b, H b = none ∨ (b = a ∧ K.lookup a = none ∧ H b = some (.frz { cls := .type "list", data := .seq vs.toArray } (.lst (ns.map V.int)))) ∨ (b = sysModules ∧ H b = some (.frz o0 (.ext fun h => h.get? sysModules = some o0)))) ∧ H sysModules = some (.frz o0 (.ext fun h => h.get? sysModules = some o0)) ∧ SqL K H a (ns.map V.int) := by
    cases q : K.lookup a with
    | some o =>
      have same := (inK a o q).symm.trans oa
      cases same
      refine ⟨fun b => if b = sysModules then some (.frz o0 (.ext fun h => h.get? sysModules = some o0)) else none, fun b => ?_, if_pos rfl, .inr ⟨_, vs.toArray, _, q, rfl, rfl, rfl, by rw [List.size_toArray, hi.length]; exact hl, by simpa using rv⟩⟩
      by_cases z : b = sysModules
      · exact .inr (.inr ⟨z, if_pos z⟩)
      · exact .inl (if_neg z)
    | none =>
      refine ⟨fun b => if b = a then some (.frz { cls := .type "list", data := .seq vs.toArray } (.lst (ns.map V.int))) else if b = sysModules then some (.frz o0 (.ext fun h => h.get? sysModules = some o0)) else none, fun b => ?_, ?_, .inl (.inr ⟨_, if_pos rfl⟩)⟩
      · by_cases z : b = a
        · exact .inr (.inl ⟨z, rfl, if_pos z⟩)
        · by_cases y : b = sysModules
          · exact .inr (.inr ⟨y, by show (if b = a then _ else _) = _; rw [if_neg z, if_pos y]⟩)
          · exact .inl (by show (if b = a then _ else _) = _; rw [if_neg z, if_neg y])
      · show (if sysModules = a then _ else _) = _
        rw [if_neg (fun z => am z.symm), if_pos rfl]
  have seen : ∀ {b : Addr} {o : Obj}, s.heap.get? b = some o → H b = none → (hidT s.heap H).get? b = some o := hidT_get
  have okH : HOk P w H s.heap := fun b u z => by
    rcases hH b with y | ⟨rfl, _, y⟩ | ⟨rfl, y⟩
    · rw [y] at z
      cases z
    · rw [y] at z
      cases z
      exact ⟨oa, by rw [List.length_map]; exact hl, vs, _, rv, oa⟩
    · rw [y] at z
      cases z
      exact ⟨ho, ho, ⟨_, ho⟩, fun h1 h2 e k => k _ e⟩
  have dicts : ∀ {b : Addr} {m : Str → Option Value}, b ≠ sysModules → s.heap.Ns b m → (hidT s.heap H).Ns b m := by
    rintro b m nb ⟨o, es, ep, e, d, z⟩
    refine ⟨o, es, ep, seen e ?_, d, z⟩
    rcases hH b with y | ⟨rfl, _, _⟩ | ⟨y, _⟩
    · exact y
    · rw [oa] at e
      cases e
      cases d
    · exact absurd y nb
  have inB : K.In (hidT s.heap H) := fun b o z => seen (inK b o z) (by
    rcases hH b with y | ⟨rfl, y, _⟩ | ⟨rfl, _⟩
    · exact y
    · rw [y] at z
      cases z
    · rw [nk] at z
      cases z)
  obtain ⟨mc, c1, c2⟩ := nl
  have start : Env0 P w K m1 (hidT s.heap H) callerA [] s H := { frames := rfl, mod := ⟨inB, dicts (by decide) n1, ⟨m2, dicts (by decide) n2, n3⟩, mc, dicts (by decide) c1, c2⟩, bs := fun b o e => of_hidT e, bsz := Nat.le_of_eq (hidT_size _ _), funs := trivial, frf := (by intro b z; cases z), hok := okH, bare := .of_eq ng }
  refine codeAny_mono ((F _ inB (dicts (by decide) n1)).go callerA [] s H ⟨[.ref a], []⟩ [.ref a] [.ref a] _ _ rfl r start (bd s (.ref a)) (.cons rfl .nil) (say H ⟨_, _, hY⟩ hS)) ?_
  rintro (e | fl) s' z
  · exact (no H e s' z).elim
  · cases fl with
    | next => exact z.elim
    | brk => exact z.elim
    | cont => exact z.elim
    | ret u =>
      obtain ⟨v, H', os, bare, un, ok', ru, q⟩ := z
      cases (show v = .bl true from q)
      cases (show u = Value.bool true from ru)
      refine ⟨rfl, OldK.of_keep fun b o e => ?_, os, bare⟩
      rcases hH b with y | ⟨rfl, _, y⟩ | ⟨rfl, y⟩
      · exact un.keep b o e y (by intro z; cases z) (by intro z; cases z)
      · have here := (okH b _ y).1
        have there := (ok' b _ (un.frzs b _ _ y)).1
        rw [here] at e
        cases e
        exact there
      · have here := (okH _ _ y).1
        have there := (ok' _ _ (un.frzs _ _ _ y)).1
        rw [here] at e
        cases e
        exact there
/-- the goal that k_head leaves, from such a promise -/
theorem walkGS {l : PySem.W.OpenLaw} {n k : Nat} {q : Program} {loose : List Str} {XP : (Str → Option Value) → Heap → Prop} {YP : World → Heap → Prop} {d : DefRec} {K : Params → PySem.W.Frag} {CX : World → CXT} {sp : World → Sp} {x : Str} (hn : l.most = some n) (hn2 : n ≤ sizeLine)
    (hq : PyProof.Rows.importsNone q = true) (nk : ∀ w : World, (K w.params).lookup sysModules = none) (nd : d.params.defaults = []) (r : Room k callerA) (inK : ∀ (w : World) (h : Heap), YP w h → (K w.params).In h)
    (F : ∀ (w : World) (mg : Str → Option Value) (fa : Addr) (h : Heap), (K w.params).In h → h.Ns mainGlobals mg → mg d.name = some (.ref fa) → ∃ fd : FuncData, (∀ (s : Shared) (u : Value), BindsTo s fd ⟨[u], []⟩ [(x, u)]) ∧
      ∀ b : Heap, (K w.params).In b → b.Ns mainGlobals mg → GnOk l.prog w (K w.params) mg b (CX w) k fa fd [x] (sp w))
    (say : ∀ (w : World) (H : Hp) (a : Addr) (ns : List Int), ns.length ≤ n → (∀ z ∈ ns, Builtin.Int.intBits z ≤ 1048576) → SysT H → SqL (K w.params) H a (ns.map V.int) → sp w [.ref a] H (fun v _ => v = .bl true) fun _ _ _ => False)
    (no : ∀ (w : World) (H : Hp) (s : Shared) (e : Value) (s' : Shared), CX w [] H s (fun _ _ _ => False) e s' → False) : PySem.W.WalkO q loose XP YP l.row.toRowW d [] (fun f vs => PySem.call f vs) := by
  refine Att.attach_callB hn nd ?_
  intro w s0 s mg mb fa o pm cd doc a vs ns G Y _ _ _ m oa hi hl bits ng
  obtain ⟨fd, bd, hF⟩ := F w mg fa _ (inK w _ Y) G.T.g m
  obtain ⟨o0, ho, hd0⟩ := sys_of (G.T.seer hq)
  exact goGS (inK w _ Y) G.T.g G.T.b G.T.builtins G.T.nolimit ng oa hi (Nat.le_trans hl hn2) r hF bd ho (hd0 _) (nk w) (fun H z1 z2 => say w H a ns hl bits z1 z2) fun H e s' => no w H s e s'
end Ev

set_option Elab.async false
set_option linter.all false
set_option maxRecDepth 100000
set_option maxHeartbeats 4000000
namespace Ev
open PySem PySem.Spec L2
instance tz0 : Tz := ⟨[]⟩
theorem all_mk {l : PySem.W.OpenLaw} {w : World} {K : PySem.W.Frag} {h : Heap} {mg : Str → Option Value} {fa C fInit tInit fCt fMb qMb fWd qWd fAm fLn fRk fRb fWa fLk fCw fRg fPen fDraw fSome fWide fTwo fWalk fBent fLw fLr fLi fLaw : Addr} (X : K.In h) (G : h.Ns mainGlobals mg) (hfa : mg "law" = some (.ref fa))
    {odInit anInit otInit : Option Addr} {slInit suInit : Array (Option Value)} {ntInit : Nat} {ocInit kVInit dcInit pmInit cdInit ctInit ouInit : Value} {eInit_0 : Addr} {oe9 : Option Addr} {ne9 : Nat} {se9 : Array (Option Value)} {odCt anCt : Option Addr} {slCt : Array (Option Value)} {ocCt kVCt dcCt pmCt cdCt ctCt : Value} {odMb anMb : Option Addr} {slMb : Array (Option Value)} {ocMb kVMb dcMb pmMb cdMb ctMb : Value} {rrMb : List Value} {odWd anWd : Option Addr} {slWd : Array (Option Value)} {ocWd kVWd dcWd pmWd cdWd ctWd : Value} {rrWd : List Value} {odAm anAm : Option Addr} {slAm : Array (Option Value)} {ocAm kVAm dcAm pmAm cdAm ctAm : Value} {odLn anLn : Option Addr} {slLn : Array (Option Value)} {ocLn kVLn dcLn pmLn cdLn ctLn : Value} {odRk anRk : Option Addr} {slRk : Array (Option Value)} {ocRk kVRk dcRk pmRk cdRk ctRk : Value} {odRb anRb : Option Addr} {slRb : Array (Option Value)} {ocRb kVRb dcRb pmRb cdRb ctRb : Value} {odWa anWa : Option Addr} {slWa : Array (Option Value)} {ocWa kVWa dcWa pmWa cdWa ctWa : Value} {odLk anLk : Option Addr} {slLk : Array (Option Value)} {ocLk kVLk dcLk pmLk cdLk ctLk : Value} {odCw anCw : Option Addr} {slCw : Array (Option Value)} {ocCw kVCw dcCw pmCw cdCw ctCw : Value} {odRg anRg : Option Addr} {slRg : Array (Option Value)} {ocRg kVRg dcRg pmRg cdRg ctRg : Value} {odPen anPen : Option Addr} {slPen : Array (Option Value)} {ocPen kVPen dcPen pmPen cdPen ctPen : Value} {odDraw anDraw : Option Addr} {slDraw : Array (Option Value)} {ocDraw kVDraw dcDraw pmDraw cdDraw ctDraw : Value} {odSome anSome : Option Addr} {slSome : Array (Option Value)} {ocSome kVSome dcSome pmSome cdSome ctSome : Value} {odWide anWide : Option Addr} {slWide : Array (Option Value)} {ocWide kVWide dcWide pmWide cdWide ctWide : Value} {odTwo anTwo : Option Addr} {slTwo : Array (Option Value)} {ocTwo kVTwo dcTwo pmTwo cdTwo ctTwo : Value} {odWalk anWalk : Option Addr} {slWalk : Array (Option Value)} {ocWalk kVWalk dcWalk pmWalk cdWalk ctWalk : Value} {odBent anBent : Option Addr} {slBent : Array (Option Value)} {ocBent kVBent dcBent pmBent cdBent ctBent : Value} {odLw anLw : Option Addr} {slLw : Array (Option Value)} {ocLw kVLw dcLw pmLw cdLw ctLw : Value} {odLr anLr : Option Addr} {slLr : Array (Option Value)} {ocLr kVLr dcLr pmLr cdLr ctLr : Value} {odLi anLi : Option Addr} {slLi : Array (Option Value)} {ocLi kVLi dcLi pmLi cdLi ctLi : Value} {odLaw anLaw : Option Addr} {slLaw : Array (Option Value)} {ocLaw kVLaw dcLaw pmLaw cdLaw ctLaw : Value}
    (aC : PySem.W.nsIn K mainGlobals "Order" = some (some (.ref C)))
    (pgC : PySem.W.plainGet K C Str.empty = true)
    (hdC : PySem.W.hasDictIn K C = true)
    (poC : PySem.W.plainOver K C = true)
    (saC : PySem.W.findIn K (.ref C) "__setattr__" = some (some (.builtin "object.__setattr__")))
    (mkC : PySem.W.makesIn K C = true)
    (kcC : PySem.W.keepIn K (.ref C) = true)
    (sfC : PySem.W.selfFirst K C = true)
    (nC0 : PySem.W.findIn K (.ref C) "_widths" = some none)
    (nC1 : PySem.W.findIn K (.ref C) "_pairs" = some none)
    (nC2 : PySem.W.findIn K (.ref C) "_uppers" = some none)
    (nC3 : PySem.W.findIn K (.ref C) "_lowers" = some none)
    (nC4 : PySem.W.findIn K (.ref C) "_ring" = some none)
    (nC5 : PySem.W.findIn K (.ref C) "_up" = some none)
    (nC6 : PySem.W.findIn K (.ref C) "_down" = some none)
    (aInit : PySem.W.findIn K (.ref C) "__init__" = some (some (.ref fInit)))
    (iInit : PySem.W.isFn K (.ref fInit) = true)
    (lInit : K.lookup fInit = some ⟨ocInit, odInit, .func (PySem.W.fnOf "__init__" "Order.__init__" (defArgs sO_init) (defBody sO_init) (defScope sO_init) (.ref tInit) kVInit dcInit pmInit anInit cdInit ctInit), slInit⟩)
    (uInit : K.lookup tInit = some ⟨ouInit, otInit, .seq ([Value.ref eInit_0]).toArray ntInit, suInit⟩)
    (cInit : PySem.W.codeIn K cdInit "Order.__init__" = true)
    (kInit : PySem.W.keepIn K (.ref fInit) = true)
    (u9 : K.lookup eInit_0 = some ⟨.type "tuple", oe9, .seq ([] : List Value).toArray ne9, se9⟩)
    (nsys : K.lookup sysModules = none)
    (aCt : PySem.W.findIn K (.ref C) "__contains__" = some (some (.ref fCt)))
    (iCt : PySem.W.isFn K (.ref fCt) = true)
    (lCt : K.lookup fCt = some ⟨ocCt, odCt, .func (PySem.W.fnOf "__contains__" "Order.__contains__" (defArgs sO_ct) (defBody sO_ct) (defScope sO_ct) .none kVCt dcCt pmCt anCt cdCt ctCt), slCt⟩)
    (cCt : PySem.W.codeIn K cdCt "Order.__contains__" = true)
    (kCt : PySem.W.keepIn K (.ref fCt) = true)
    (aMb : PySem.W.findIn K (.ref C) "members" = some (some (.ref qMb)))
    (gMb : PySem.W.specialIn K (.ref qMb) "__get__" = some (some (.builtin "property.__get__")))
    (tMb : PySem.W.takesIn K (.ref qMb) = some true)
    (rMb : PySem.W.recIn K qMb "property" = some (.ref fMb :: rrMb))
    (lMb : K.lookup fMb = some ⟨ocMb, odMb, .func (PySem.W.fnOf "members" "Order.members" (defArgs sO_mb) (defBody sO_mb) (defScope sO_mb) .none kVMb dcMb pmMb anMb cdMb ctMb), slMb⟩)
    (cMb : PySem.W.codeIn K cdMb "Order.members" = true)
    (kMb : PySem.W.keepIn K (.ref fMb) = true)
    (aWd : PySem.W.findIn K (.ref C) "widths" = some (some (.ref qWd)))
    (gWd : PySem.W.specialIn K (.ref qWd) "__get__" = some (some (.builtin "property.__get__")))
    (tWd : PySem.W.takesIn K (.ref qWd) = some true)
    (rWd : PySem.W.recIn K qWd "property" = some (.ref fWd :: rrWd))
    (lWd : K.lookup fWd = some ⟨ocWd, odWd, .func (PySem.W.fnOf "widths" "Order.widths" (defArgs sO_wd) (defBody sO_wd) (defScope sO_wd) .none kVWd dcWd pmWd anWd cdWd ctWd), slWd⟩)
    (cWd : PySem.W.codeIn K cdWd "Order.widths" = true)
    (kWd : PySem.W.keepIn K (.ref fWd) = true)
    (aAm : PySem.W.nsIn K mainGlobals "is_among" = some (some (.ref fAm)))
    (lAm : K.lookup fAm = some ⟨ocAm, odAm, .func (PySem.W.fnOf "is_among" "is_among" (defArgs sAm) (defBody sAm) (defScope sAm) .none kVAm dcAm pmAm anAm cdAm ctAm), slAm⟩)
    (cAm : PySem.W.codeIn K cdAm "is_among" = true)
    (kAm : PySem.W.keepIn K (.ref fAm) = true)
    (aLn : PySem.W.nsIn K mainGlobals "links_of" = some (some (.ref fLn)))
    (lLn : K.lookup fLn = some ⟨ocLn, odLn, .func (PySem.W.fnOf "links_of" "links_of" (defArgs sLn) (defBody sLn) (defScope sLn) .none kVLn dcLn pmLn anLn cdLn ctLn), slLn⟩)
    (cLn : PySem.W.codeIn K cdLn "links_of" = true)
    (kLn : PySem.W.keepIn K (.ref fLn) = true)
    (aRk : PySem.W.nsIn K mainGlobals "ranked" = some (some (.ref fRk)))
    (lRk : K.lookup fRk = some ⟨ocRk, odRk, .func (PySem.W.fnOf "ranked" "ranked" (defArgs sRk) (defBody sRk) (defScope sRk) .none kVRk dcRk pmRk anRk cdRk ctRk), slRk⟩)
    (cRk : PySem.W.codeIn K cdRk "ranked" = true)
    (kRk : PySem.W.keepIn K (.ref fRk) = true)
    (aRb : PySem.W.nsIn K mainGlobals "ring_beside" = some (some (.ref fRb)))
    (lRb : K.lookup fRb = some ⟨ocRb, odRb, .func (PySem.W.fnOf "ring_beside" "ring_beside" (defArgs sRb) (defBody sRb) (defScope sRb) .none kVRb dcRb pmRb anRb cdRb ctRb), slRb⟩)
    (cRb : PySem.W.codeIn K cdRb "ring_beside" = true)
    (kRb : PySem.W.keepIn K (.ref fRb) = true)
    (aWa : PySem.W.nsIn K mainGlobals "weights_along" = some (some (.ref fWa)))
    (lWa : K.lookup fWa = some ⟨ocWa, odWa, .func (PySem.W.fnOf "weights_along" "weights_along" (defArgs sWa) (defBody sWa) (defScope sWa) .none kVWa dcWa pmWa anWa cdWa ctWa), slWa⟩)
    (cWa : PySem.W.codeIn K cdWa "weights_along" = true)
    (kWa : PySem.W.keepIn K (.ref fWa) = true)
    (aLk : PySem.W.nsIn K mainGlobals "are_linked" = some (some (.ref fLk)))
    (lLk : K.lookup fLk = some ⟨ocLk, odLk, .func (PySem.W.fnOf "are_linked" "are_linked" (defArgs sLk) (defBody sLk) (defScope sLk) .none kVLk dcLk pmLk anLk cdLk ctLk), slLk⟩)
    (cLk : PySem.W.codeIn K cdLk "are_linked" = true)
    (kLk : PySem.W.keepIn K (.ref fLk) = true)
    (aCw : PySem.W.nsIn K mainGlobals "chain_weight" = some (some (.ref fCw)))
    (lCw : K.lookup fCw = some ⟨ocCw, odCw, .func (PySem.W.fnOf "chain_weight" "chain_weight" (defArgs sCw) (defBody sCw) (defScope sCw) .none kVCw dcCw pmCw anCw cdCw ctCw), slCw⟩)
    (cCw : PySem.W.codeIn K cdCw "chain_weight" = true)
    (kCw : PySem.W.keepIn K (.ref fCw) = true)
    (aRg : PySem.W.nsIn K mainGlobals "shows_ring" = some (some (.ref fRg)))
    (lRg : K.lookup fRg = some ⟨ocRg, odRg, .func (PySem.W.fnOf "shows_ring" "shows_ring" (defArgs sRg) (defBody sRg) (defScope sRg) .none kVRg dcRg pmRg anRg cdRg ctRg), slRg⟩)
    (cRg : PySem.W.codeIn K cdRg "shows_ring" = true)
    (kRg : PySem.W.keepIn K (.ref fRg) = true)
    (aPen : PySem.W.nsIn K mainGlobals "_law_pen" = some (some (.ref fPen)))
    (lPen : K.lookup fPen = some ⟨ocPen, odPen, .func (PySem.W.fnOf "_law_pen" "_law_pen" (defArgs sPen) (defBody sPen) (defScope sPen) .none kVPen dcPen pmPen anPen cdPen ctPen), slPen⟩)
    (cPen : PySem.W.codeIn K cdPen "_law_pen" = true)
    (kPen : PySem.W.keepIn K (.ref fPen) = true)
    (aDraw : PySem.W.nsIn K mainGlobals "_law_draw" = some (some (.ref fDraw)))
    (lDraw : K.lookup fDraw = some ⟨ocDraw, odDraw, .func (PySem.W.fnOf "_law_draw" "_law_draw" (defArgs sDraw) (defBody sDraw) (defScope sDraw) .none kVDraw dcDraw pmDraw anDraw cdDraw ctDraw), slDraw⟩)
    (cDraw : PySem.W.codeIn K cdDraw "_law_draw" = true)
    (kDraw : PySem.W.keepIn K (.ref fDraw) = true)
    (aSome : PySem.W.nsIn K mainGlobals "_law_some" = some (some (.ref fSome)))
    (lSome : K.lookup fSome = some ⟨ocSome, odSome, .func (PySem.W.fnOf "_law_some" "_law_some" (defArgs sSome) (defBody sSome) (defScope sSome) .none kVSome dcSome pmSome anSome cdSome ctSome), slSome⟩)
    (cSome : PySem.W.codeIn K cdSome "_law_some" = true)
    (kSome : PySem.W.keepIn K (.ref fSome) = true)
    (aWide : PySem.W.nsIn K mainGlobals "_law_wide" = some (some (.ref fWide)))
    (lWide : K.lookup fWide = some ⟨ocWide, odWide, .func (PySem.W.fnOf "_law_wide" "_law_wide" (defArgs sWide) (defBody sWide) (defScope sWide) .none kVWide dcWide pmWide anWide cdWide ctWide), slWide⟩)
    (cWide : PySem.W.codeIn K cdWide "_law_wide" = true)
    (kWide : PySem.W.keepIn K (.ref fWide) = true)
    (aTwo : PySem.W.nsIn K mainGlobals "_law_two" = some (some (.ref fTwo)))
    (lTwo : K.lookup fTwo = some ⟨ocTwo, odTwo, .func (PySem.W.fnOf "_law_two" "_law_two" (defArgs sTwo) (defBody sTwo) (defScope sTwo) .none kVTwo dcTwo pmTwo anTwo cdTwo ctTwo), slTwo⟩)
    (cTwo : PySem.W.codeIn K cdTwo "_law_two" = true)
    (kTwo : PySem.W.keepIn K (.ref fTwo) = true)
    (aWalk : PySem.W.nsIn K mainGlobals "_law_walk" = some (some (.ref fWalk)))
    (lWalk : K.lookup fWalk = some ⟨ocWalk, odWalk, .func (PySem.W.fnOf "_law_walk" "_law_walk" (defArgs sWalk) (defBody sWalk) (defScope sWalk) .none kVWalk dcWalk pmWalk anWalk cdWalk ctWalk), slWalk⟩)
    (cWalk : PySem.W.codeIn K cdWalk "_law_walk" = true)
    (kWalk : PySem.W.keepIn K (.ref fWalk) = true)
    (aBent : PySem.W.nsIn K mainGlobals "_law_bent" = some (some (.ref fBent)))
    (lBent : K.lookup fBent = some ⟨ocBent, odBent, .func (PySem.W.fnOf "_law_bent" "_law_bent" (defArgs sBent) (defBody sBent) (defScope sBent) .none kVBent dcBent pmBent anBent cdBent ctBent), slBent⟩)
    (cBent : PySem.W.codeIn K cdBent "_law_bent" = true)
    (kBent : PySem.W.keepIn K (.ref fBent) = true)
    (aLw : PySem.W.nsIn K mainGlobals "_law_weight" = some (some (.ref fLw)))
    (lLw : K.lookup fLw = some ⟨ocLw, odLw, .func (PySem.W.fnOf "_law_weight" "_law_weight" (defArgs sLw) (defBody sLw) (defScope sLw) .none kVLw dcLw pmLw anLw cdLw ctLw), slLw⟩)
    (cLw : PySem.W.codeIn K cdLw "_law_weight" = true)
    (kLw : PySem.W.keepIn K (.ref fLw) = true)
    (aLr : PySem.W.nsIn K mainGlobals "_law_is_ring" = some (some (.ref fLr)))
    (lLr : K.lookup fLr = some ⟨ocLr, odLr, .func (PySem.W.fnOf "_law_is_ring" "_law_is_ring" (defArgs sLr) (defBody sLr) (defScope sLr) .none kVLr dcLr pmLr anLr cdLr ctLr), slLr⟩)
    (cLr : PySem.W.codeIn K cdLr "_law_is_ring" = true)
    (kLr : PySem.W.keepIn K (.ref fLr) = true)
    (aLi : PySem.W.nsIn K mainGlobals "_law_right" = some (some (.ref fLi)))
    (lLi : K.lookup fLi = some ⟨ocLi, odLi, .func (PySem.W.fnOf "_law_right" "_law_right" (defArgs sLi) (defBody sLi) (defScope sLi) .none kVLi dcLi pmLi anLi cdLi ctLi), slLi⟩)
    (cLi : PySem.W.codeIn K cdLi "_law_right" = true)
    (kLi : PySem.W.keepIn K (.ref fLi) = true)
    (aLaw : PySem.W.nsIn K mainGlobals "law" = some (some (.ref fLaw)))
    (lLaw : K.lookup fLaw = some ⟨ocLaw, odLaw, .func (PySem.W.fnOf "law" "law" (defArgs sLaw) (defBody sLaw) (defScope sLaw) .none kVLaw dcLaw pmLaw anLaw cdLaw ctLaw), slLaw⟩)
    (cLaw : PySem.W.codeIn K cdLaw "law" = true)
    (kLaw : PySem.W.keepIn K (.ref fLaw) = true)
    (z_int : PySem.W.nsIn K mainGlobals "int" = some none)
    (z_len : PySem.W.nsIn K mainGlobals "len" = some none)
    (z_abs : PySem.W.nsIn K mainGlobals "abs" = some none)
    (z_list : PySem.W.nsIn K mainGlobals "list" = some none)
    (z_range : PySem.W.nsIn K mainGlobals "range" = some none)
    (z_isinstance : PySem.W.nsIn K mainGlobals "isinstance" = some none)
    (z_str : PySem.W.nsIn K mainGlobals "str" = some none)
    (z_set : PySem.W.nsIn K mainGlobals "set" = some none)
    (z_sorted : PySem.W.nsIn K mainGlobals "sorted" = some none)
    (z_tuple : PySem.W.nsIn K mainGlobals "tuple" = some none)
    (z_max : PySem.W.nsIn K mainGlobals "max" = some none)
    (z_min : PySem.W.nsIn K mainGlobals "min" = some none)
    (z_all : PySem.W.nsIn K mainGlobals "all" = some none)
    (z_sum : PySem.W.nsIn K mainGlobals "sum" = some none)
    (z_zip : PySem.W.nsIn K mainGlobals "zip" = some none)
    (z_repr : PySem.W.nsIn K mainGlobals "repr" = some none) :
    ∃ fd : FuncData, (∀ (s : Shared) (v : Value), BindsTo s fd ⟨[v], []⟩ [("script", v)]) ∧ ∀ base : Heap, K.In base → base.Ns mainGlobals mg → GnOk l.prog w K mg base CX0 14 fa fd ["script"] (spLaw K) := by
  have e := hfa.symm.trans (PySem.W.mg_of X G aLaw)
  cases e
  have clsC : Cls K C := ⟨pgC, hdC, poC, saC⟩
  have FInit : FunD K "__init__" "Order.__init__" (defArgs sO_init) (defBody sO_init) (defScope sO_init) [V.ref eInit_0] [] fInit _ := ⟨⟨_, _, _, _, _, _, _, _, _, _, rfl, lInit, cInit, .inr ⟨by simp, tInit, _, [Value.ref eInit_0], ntInit, rfl, uInit, rfl, .cons rfl (.nil)⟩, .inl rfl⟩, kInit⟩
  obtain ⟨dsInit, vdInit, bInit⟩ := FInit.binds1 (ps := ["self", "widths", "pairs"]) 3 1 (by simp) rfl fun T kV doc pm an cdv ct us its hl hi => match us, hl, its, hi with | [_, _, _], _, [_], _ => ⟨_, rfl, rfl⟩
  have eInit : dsInit = [] := by cases vdInit; rfl
  subst eInit
  have FCt := fun_mk (st := sO_ct) lCt cCt kCt
  have bCt := FCt.binds (ps := ["self", "pair"]) fun _ _ _ _ _ _ us hl => match us, hl with | [_, _], _ => rfl
  have FMb := fun_mk (st := sO_mb) lMb cMb kMb
  have bMb := FMb.binds (ps := ["self"]) fun _ _ _ _ _ _ us hl => match us, hl with | [_], _ => rfl
  have FWd := fun_mk (st := sO_wd) lWd cWd kWd
  have bWd := FWd.binds (ps := ["self"]) fun _ _ _ _ _ _ us hl => match us, hl with | [_], _ => rfl
  have FAm := fun_mk (st := sAm) lAm cAm kAm
  have bAm := FAm.binds (ps := ["value", "widths"]) fun _ _ _ _ _ _ us hl => match us, hl with | [_, _], _ => rfl
  have FLn := fun_mk (st := sLn) lLn cLn kLn
  have bLn := FLn.binds (ps := ["items", "pairs"]) fun _ _ _ _ _ _ us hl => match us, hl with | [_, _], _ => rfl
  have FRk := fun_mk (st := sRk) lRk cRk kRk
  have bRk := FRk.binds (ps := ["lowers", "uppers"]) fun _ _ _ _ _ _ us hl => match us, hl with | [_, _], _ => rfl
  have FRb := fun_mk (st := sRb) lRb cRb kRb
  have bRb := FRb.binds (ps := ["lowers", "ranks"]) fun _ _ _ _ _ _ us hl => match us, hl with | [_, _], _ => rfl
  have FWa := fun_mk (st := sWa) lWa cWa kWa
  have bWa := FWa.binds (ps := ["widths", "links", "row"]) fun _ _ _ _ _ _ us hl => match us, hl with | [_, _, _], _ => rfl
  have FLk := fun_mk (st := sLk) lLk cLk kLk
  have bLk := FLk.binds (ps := ["order", "items"]) fun _ _ _ _ _ _ us hl => match us, hl with | [_, _], _ => rfl
  have FCw := fun_mk (st := sCw) lCw cCw kCw
  have bCw := FCw.binds (ps := ["order", "value"]) fun _ _ _ _ _ _ us hl => match us, hl with | [_, _], _ => rfl
  have FRg := fun_mk (st := sRg) lRg cRg kRg
  have bRg := FRg.binds (ps := ["order", "value"]) fun _ _ _ _ _ _ us hl => match us, hl with | [_, _], _ => rfl
  have FPen := fun_mk (st := sPen) lPen cPen kPen
  have bPen := FPen.binds (ps := ["script"]) fun _ _ _ _ _ _ us hl => match us, hl with | [_], _ => rfl
  have FDraw := fun_mk (st := sDraw) lDraw cDraw kDraw
  have bDraw := FDraw.binds (ps := ["pen", "many"]) fun _ _ _ _ _ _ us hl => match us, hl with | [_, _], _ => rfl
  have FSome := fun_mk (st := sSome) lSome cSome kSome
  have bSome := FSome.binds (ps := ["pen", "most"]) fun _ _ _ _ _ _ us hl => match us, hl with | [_, _], _ => rfl
  have FWide := fun_mk (st := sWide) lWide cWide kWide
  have bWide := FWide.binds (ps := ["pen", "some"]) fun _ _ _ _ _ _ us hl => match us, hl with | [_, _], _ => rfl
  have FTwo := fun_mk (st := sTwo) lTwo cTwo kTwo
  have bTwo := FTwo.binds (ps := ["pen", "some"]) fun _ _ _ _ _ _ us hl => match us, hl with | [_, _], _ => rfl
  have FWalk := fun_mk (st := sWalk) lWalk cWalk kWalk
  have bWalk := FWalk.binds (ps := ["pen", "some", "told"]) fun _ _ _ _ _ _ us hl => match us, hl with | [_, _, _], _ => rfl
  have FBent := fun_mk (st := sBent) lBent cBent kBent
  have bBent := FBent.binds (ps := ["pen", "some", "row"]) fun _ _ _ _ _ _ us hl => match us, hl with | [_, _, _], _ => rfl
  have FLw := fun_mk (st := sLw) lLw cLw kLw
  have bLw := FLw.binds (ps := ["thing", "wide", "told"]) fun _ _ _ _ _ _ us hl => match us, hl with | [_, _, _], _ => rfl
  have FLr := fun_mk (st := sLr) lLr cLr kLr
  have bLr := FLr.binds (ps := ["thing", "wide", "told"]) fun _ _ _ _ _ _ us hl => match us, hl with | [_, _, _], _ => rfl
  have FLi := fun_mk (st := sLi) lLi cLi kLi
  have bLi := FLi.binds (ps := ["net_of", "thing", "wide", "told"]) fun _ _ _ _ _ _ us hl => match us, hl with | [_, _, _, _], _ => rfl
  have FLaw := fun_mk (st := sLaw) lLaw cLaw kLaw
  have bLaw := FLaw.binds (ps := ["script"]) fun _ _ _ _ _ _ us hl => match us, hl with | [_], _ => rfl
  have g_int := PySem.W.mg_none_of X G z_int
  have g_len := PySem.W.mg_none_of X G z_len
  have g_abs := PySem.W.mg_none_of X G z_abs
  have g_list := PySem.W.mg_none_of X G z_list
  have g_range := PySem.W.mg_none_of X G z_range
  have g_isinstance := PySem.W.mg_none_of X G z_isinstance
  have g_str := PySem.W.mg_none_of X G z_str
  have g_set := PySem.W.mg_none_of X G z_set
  have g_sorted := PySem.W.mg_none_of X G z_sorted
  have g_tuple := PySem.W.mg_none_of X G z_tuple
  have g_max := PySem.W.mg_none_of X G z_max
  have g_min := PySem.W.mg_none_of X G z_min
  have g_all := PySem.W.mg_none_of X G z_all
  have g_sum := PySem.W.mg_none_of X G z_sum
  have g_zip := PySem.W.mg_none_of X G z_zip
  have g_repr := PySem.W.mg_none_of X G z_repr
  refine ⟨PySem.W.fnOf "law" "law" (defArgs sLaw) (defBody sLaw) (defScope sLaw) .none kVLaw dcLaw pmLaw anLaw cdLaw ctLaw, fun s v => .of_eq rfl, fun base _ _ => ?_⟩
  have T : Bl mg := ⟨g_int, g_len, g_abs, g_list⟩
  have T2 : Bo mg := ⟨g_isinstance, g_str, g_set, g_sorted, g_tuple, g_list, g_max, g_min, g_len⟩
  have T3 : Bw mg := ⟨g_isinstance, g_str, g_set, g_tuple, g_len, g_sum, g_zip, g_repr⟩
  have T4 : Bm mg := ⟨g_range, g_list, g_zip, g_tuple, g_repr⟩
  have m_ : ∀ {x : Str} {f : Addr}, PySem.W.nsIn K mainGlobals x = some (some (.ref f)) → mg x = some (.ref f) := fun a => PySem.W.mg_of X G a
  have na : ∀ f ∈ ordF, NoAttr K C f := fun f hf => by
    simp only [List.mem_cons, List.not_mem_nil, or_false] at hf
    rcases hf with rfl | rfl | rfl | rfl | rfl | rfl | rfl
    · exact nC0
    · exact nC1
    · exact nC2
    · exact nC3
    · exact nC4
    · exact nC5
    · exact nC6
  have t0 : ∀ H : Hp, SqT K H eInit_0 [] := fun H => .inr ⟨_, _, _, u9, rfl, rfl, by decide, .nil⟩
  have up : ∀ {x : Str} {ps : List Str} {sp : Sp} {i j : Nat}, i ≤ j → Fd l.prog w K mg base i x ps sp → Fd l.prog w K mg base j x ps sp := fun hij ⟨f, fd, h1, h2, h3, h4⟩ => ⟨f, fd, h1, h2, h3, h4.mono hij⟩
  have dAm : Fd l.prog w K mg base 1 "is_among" ["value", "widths"] spAm := ⟨_, _, m_ aAm, kAm, bAm, ok_among (k := 0) FAm T2⟩
  have dLn : Fd l.prog w K mg base 1 "links_of" ["items", "pairs"] spLn := ⟨_, _, m_ aLn, kLn, bLn, ok_links (k := 0) FLn⟩
  have dRk : Fd l.prog w K mg base 1 "ranked" ["lowers", "uppers"] spRk := ⟨_, _, m_ aRk, kRk, bRk, ok_ranked (k := 0) FRk T2⟩
  have dRb : Fd l.prog w K mg base 1 "ring_beside" ["lowers", "ranks"] spRb := ⟨_, _, m_ aRb, kRb, bRb, ok_ring (k := 0) FRb T2⟩
  have dWa : Fd l.prog w K mg base 1 "weights_along" ["widths", "links", "row"] spWa := ⟨_, _, m_ aWa, kWa, bWa, ok_weights (k := 0) FWa T2⟩
  have gInit := ok_init (P := l.prog) (w := w) (base := base) (k := 1) FInit T2 C clsC na dAm dLn dRk dRb dWa
  have gInit0 := ok_init0 (P := l.prog) (w := w) (base := base) (k := 1) FInit T2 C eInit_0 t0 clsC na dAm dLn dRk dRb dWa
  obtain ⟨dsD, vdD, bD⟩ := FInit.binds1 (ps := ["self", "widths", "pairs"]) 2 0 (by simp) rfl fun T kV doc pm an cdv ct us its hl hi => match us, hl, its, hi with | [_, _], _, [_], _ => ⟨_, rfl, rfl⟩
  have fhCt : Fh l.prog w K mg base 1 C ["self", "pair"] (spCt C) := ⟨_, _, aCt, iCt, bCt, okO_ct (k := 0) FCt T2 C clsC na g_all⟩
  have dLk : Fd l.prog w K mg base 2 "are_linked" ["order", "items"] (spLk C) := ⟨_, _, m_ aLk, kLk, bLk, ok_Lk (k := 1) FLk T2 C g_all g_zip fhCt⟩
  have qMb : Fq l.prog w K mg base 2 C "members" ["self"] (spMb C) := ⟨clsC, _, _, _, ⟨aMb, gMb, tMb, ⟨_, rMb⟩⟩, bMb, okO_mb (k := 1) FMb T2 C clsC na⟩
  have qWd : Fq l.prog w K mg base 2 C "widths" ["self"] (spWd C) := ⟨clsC, _, _, _, ⟨aWd, gWd, tWd, ⟨_, rWd⟩⟩, bWd, okO_wd (k := 1) FWd T2 C clsC na⟩
  have gCw := ok_Cw (k := 2) FCw T2 C g_sum dLk qMb qWd
  have gRg := ok_Rg (k := 2) FRg T2 C dLk
  have dCw : Fd l.prog w K mg base 4 "chain_weight" ["order", "value"] (spCw C) := ⟨_, _, m_ aCw, kCw, bCw, gCw⟩
  have dRg : Fd l.prog w K mg base 3 "shows_ring" ["order", "value"] (spRg C) := ⟨_, _, m_ aRg, kRg, bRg, gRg⟩
  have kCwK : FdK l.prog w K mg base 12 "chain_weight" ["order", "value"] (spCw C) := ⟨_, _, m_ aCw, kCw, fun s ws _ hl => match ws, hl with | [_, _], _ => .of_eq rfl, gCw.mono (by decide)⟩
  have kRgK : FdK l.prog w K mg base 12 "shows_ring" ["order", "value"] (spRg C) := ⟨_, _, m_ aRg, kRg, fun s ws _ hl => match ws, hl with | [_, _], _ => .of_eq rfl, gRg.mono (by decide)⟩
  have mcO : Mc l.prog w K mg base 12 "Order" C ["self", "widths", "pairs"] (spOI C) := ⟨_, _, m_ aC, ⟨mkC, aInit, iInit, kcC⟩, bInit, gInit.mono (by decide)⟩
  have mcD : McD l.prog w K mg base 12 "Order" C ["self", "widths", "pairs"] [.ref eInit_0] (spOI0 C eInit_0) := ⟨_, _, _, m_ aC, ⟨mkC, aInit, iInit, kcC⟩, bD, vdD, gInit0.mono (by decide)⟩
  have dDraw : ∀ k, Fd l.prog w K mg base (k + 1) "_law_draw" ["pen", "many"] spDraw := fun k => ⟨_, _, m_ aDraw, kDraw, bDraw, ok_draw FDraw T⟩
  have dPen : Fd l.prog w K mg base 12 "_law_pen" ["script"] (spPen K) := ⟨_, _, m_ aPen, kPen, bPen, ok_pen (k := 11) FPen T⟩
  have dSome : Fd l.prog w K mg base 12 "_law_some" ["pen", "most"] spSome := ⟨_, _, m_ aSome, kSome, bSome, ok_some (k := 11) FSome T g_range (dDraw 10)⟩
  have dWide : Fd l.prog w K mg base 12 "_law_wide" ["pen", "some"] spWide := ⟨_, _, m_ aWide, kWide, bWide, ok_wide (k := 11) FWide T (dDraw 10)⟩
  have dTwo : Fd l.prog w K mg base 12 "_law_two" ["pen", "some"] spTwo := ⟨_, _, m_ aTwo, kTwo, bTwo, ok_two (k := 11) FTwo T (dDraw 10)⟩
  have dWalk : Fd l.prog w K mg base 12 "_law_walk" ["pen", "some", "told"] spWalk := ⟨_, _, m_ aWalk, kWalk, bWalk, ok_walk (k := 11) FWalk T g_range g_tuple (dDraw 10)⟩
  have dBent : Fd l.prog w K mg base 12 "_law_bent" ["pen", "some", "row"] spBent := ⟨_, _, m_ aBent, kBent, bBent, ok_bent (k := 11) FBent T (dDraw 10)⟩
  have dLw : Fd l.prog w K mg base 9 "_law_weight" ["thing", "wide", "told"] spLw := ⟨_, _, m_ aLw, kLw, bLw, ok_Lw (k := 8) FLw T3⟩
  have dLr : Fd l.prog w K mg base 10 "_law_is_ring" ["thing", "wide", "told"] spLr := ⟨_, _, m_ aLr, kLr, bLr, ok_Lr (k := 9) FLr T3 dLw⟩
  have dLi : Fd l.prog w K mg base 12 "_law_right" ["net_of", "thing", "wide", "told"] (spLi C) := ⟨_, _, m_ aLi, kLi, bLi, ok_Li (k := 11) FLi T3 C nsys (up (by decide) dLw) (up (by decide) dLr) (up (by decide) dCw) (up (by decide) dRg)⟩
  exact ok_law (k := 12) rfl FLaw C eInit_0 T4 dPen (dDraw 11) dSome dWide dTwo dWalk dBent dLi mcO mcD (up (by decide) dCw) kCwK (up (by decide) dRg) kRgK
end Ev
open PySem PySem.W PyProof.Rows
set_option maxRecDepth 100000 in
set_option maxHeartbeats 0 in
theorem PySem.Challenge.cw_everlit_k26_chains_and_rings_looked_at_holds : PySem.Challenge.rw_everlit_k26_chains_and_rings_looked_at.Holds := by
  w_on; o_law; k_head; (case hw => w_witness2)
  k_fill
  refine Ev.walkGS (l := PySem.Challenge.rw_everlit_k26_chains_and_rings_looked_at) (n := 63) (k := 14) (x := "script") (CX := fun _ => L2.CX0) (sp := fun w => Ev.spLaw _) rfl (by decide) (by decide +kernel) (fun w => by kernel_rfl) rfl ⟨rfl, by decide, by decide⟩ (fun w h Y => PySem.W.kIn_of Y) ?F (fun _ _ a ns hl _ hT hS => ⟨a, ns, rfl, hS, hl, hT, fun _ => rfl⟩) (fun _ _ _ _ _ h => h)
  case F =>
    intro w mg fa h KX G hmg
    refine' Ev.all_mk KX G hmg ?aC ?pgC ?hdC ?poC ?saC ?mkC ?kcC ?sfC ?nC0 ?nC1 ?nC2 ?nC3 ?nC4 ?nC5 ?nC6 ?aInit ?iInit ?lInit ?uInit ?cInit ?kInit ?u9 ?nsys ?aCt ?iCt ?lCt ?cCt ?kCt ?aMb ?gMb ?tMb ?rMb ?lMb ?cMb ?kMb ?aWd ?gWd ?tWd ?rWd ?lWd ?cWd ?kWd ?aAm ?lAm ?cAm ?kAm ?aLn ?lLn ?cLn ?kLn ?aRk ?lRk ?cRk ?kRk ?aRb ?lRb ?cRb ?kRb ?aWa ?lWa ?cWa ?kWa ?aLk ?lLk ?cLk ?kLk ?aCw ?lCw ?cCw ?kCw ?aRg ?lRg ?cRg ?kRg ?aPen ?lPen ?cPen ?kPen ?aDraw ?lDraw ?cDraw ?kDraw ?aSome ?lSome ?cSome ?kSome ?aWide ?lWide ?cWide ?kWide ?aTwo ?lTwo ?cTwo ?kTwo ?aWalk ?lWalk ?cWalk ?kWalk ?aBent ?lBent ?cBent ?kBent ?aLw ?lLw ?cLw ?kLw ?aLr ?lLr ?cLr ?kLr ?aLi ?lLi ?cLi ?kLi ?aLaw ?lLaw ?cLaw ?kLaw ?z_int ?z_len ?z_abs ?z_list ?z_range ?z_isinstance ?z_str ?z_set ?z_sorted ?z_tuple ?z_max ?z_min ?z_all ?z_sum ?z_zip ?z_repr
    (case aC => k_is); (case pgC => k_is); (case hdC => k_is); (case poC => k_is); (case saC => k_is); (case mkC => k_is)
    (case kcC => k_is); (case sfC => k_is); (case nC0 => k_is); (case nC1 => k_is); (case nC2 => k_is); (case nC3 => k_is)
    (case nC4 => k_is); (case nC5 => k_is); (case nC6 => k_is); (case aInit => k_is); (case iInit => k_is); (case lInit => k_is)
    (case uInit => k_is); (case cInit => k_is); (case kInit => k_is); (case u9 => k_is); (case nsys => kernel_rfl); (case aCt => k_is)
    (case iCt => k_is); (case lCt => k_is); (case cCt => k_is); (case kCt => k_is); (case aMb => k_is); (case gMb => k_is)
    (case tMb => k_is); (case rMb => k_is); (case lMb => k_is); (case cMb => k_is); (case kMb => k_is); (case aWd => k_is)
    (case gWd => k_is); (case tWd => k_is); (case rWd => k_is); (case lWd => k_is); (case cWd => k_is); (case kWd => k_is)
    (case aAm => k_is); (case lAm => k_is); (case cAm => k_is); (case kAm => k_is); (case aLn => k_is); (case lLn => k_is)
    (case cLn => k_is); (case kLn => k_is); (case aRk => k_is); (case lRk => k_is); (case cRk => k_is); (case kRk => k_is)
    (case aRb => k_is); (case lRb => k_is); (case cRb => k_is); (case kRb => k_is); (case aWa => k_is); (case lWa => k_is)
    (case cWa => k_is); (case kWa => k_is); (case aLk => k_is); (case lLk => k_is); (case cLk => k_is); (case kLk => k_is)
    (case aCw => k_is); (case lCw => k_is); (case cCw => k_is); (case kCw => k_is); (case aRg => k_is); (case lRg => k_is)
    (case cRg => k_is); (case kRg => k_is); (case aPen => k_is); (case lPen => k_is); (case cPen => k_is); (case kPen => k_is)
    (case aDraw => k_is); (case lDraw => k_is); (case cDraw => k_is); (case kDraw => k_is); (case aSome => k_is); (case lSome => k_is)
    (case cSome => k_is); (case kSome => k_is); (case aWide => k_is); (case lWide => k_is); (case cWide => k_is); (case kWide => k_is)
    (case aTwo => k_is); (case lTwo => k_is); (case cTwo => k_is); (case kTwo => k_is); (case aWalk => k_is); (case lWalk => k_is)
    (case cWalk => k_is); (case kWalk => k_is); (case aBent => k_is); (case lBent => k_is); (case cBent => k_is); (case kBent => k_is)
    (case aLw => k_is); (case lLw => k_is); (case cLw => k_is); (case kLw => k_is); (case aLr => k_is); (case lLr => k_is)
    (case cLr => k_is); (case kLr => k_is); (case aLi => k_is); (case lLi => k_is); (case cLi => k_is); (case kLi => k_is)
    (case aLaw => k_is); (case lLaw => k_is); (case cLaw => k_is); (case kLaw => k_is); (case z_int => k_is); (case z_len => k_is)
    (case z_abs => k_is); (case z_list => k_is); (case z_range => k_is); (case z_isinstance => k_is); (case z_str => k_is); (case z_set => k_is)
    (case z_sorted => k_is); (case z_tuple => k_is); (case z_max => k_is); (case z_min => k_is); (case z_all => k_is); (case z_sum => k_is)
    (case z_zip => k_is); (case z_repr => k_is)
