import PyProof.Rows.All
import Wide.All
import OpenK.AllK
import Wide.FinOn
import HandS.ForMost
import HandS.ForExc
import HandS.Wide
import HandS.SortInts
import HandS.Conv
import HandS.IsInst
import HandS.TupAny
import HandS.Style
import HandS.Strs
import KE.DataEq
import HandS.SetFor
import HandS.Property
import HandS.MakeKw
import HandS.ExcIs
import HandS.Defaults
import HandS.NamedTupSort
import PyProof.InstNe
import HandS.OwnEq
import KE.KOpsOwn
import PyProof.FitsInt
import HandS.TryOnly
import PyProof.ZipIter
import HandS.Zip
import HandS.Hot
import HandS.HotCalls
import HandS.ExcCtx
import HandS.ExcValueHot
import KE.KIsAll
import KE.KTryMore
import HandS.Text
import HandS.Gcd
import PyProof.CompFree
import HandS.SortRule
import PySem.Challenge.RW_scanranges_k06_boxes_put_together
set_option Elab.async false
set_option linter.all false
set_option maxRecDepth 100000
/-! Trees over the hand layer: what is never changed behind its making is told as a tree; a def's body is walked over trees. -/
namespace TL
open PySem PySem.Spec L2

/-- a tree -/
inductive D where
  | non | bl (b : Bool) | int (i : Int) | str (x : Str) | lst (ds : List D) | tup (ds : List D) | ins (C : Addr) (fs : List (Str × D)) | raw (v : V) | emp | scr (K : PySem.W.Frag) (ns : List Int) | dic (ks : List Key) (ds : List D) | lnt (q : Addr) (ys : List V) (ds : List D) | hp (φ : (Addr → Prop) → Hp → V → Prop)

mutual
inductive Dt (M : Addr → Prop) (H : Hp) : D → V → Prop
  | non : Dt M H .non .non
  | bl (b : Bool) : Dt M H (.bl b) (.bl b)
  | int (i : Int) : Dt M H (.int i) (.int i)
  | str (x : Str) : Dt M H (.str x) (.str x)
  | raw (v : V) : Dt M H (.raw v) v
  | lst {a : Addr} {xs : List V} {ds : List D} : ¬ M a → H a = some (.lst xs) → DtL M H ds xs → Dt M H (.lst ds) (.ref a)
  | tup {a : Addr} {xs : List V} {ds : List D} : ¬ M a → H a = some (.tup xs) → DtL M H ds xs → Dt M H (.tup ds) (.ref a)
  | emp {a : Addr} : ¬ M a → H a = some (.dK []) → Dt M H .emp (.ref a)
  | hp {φ : (Addr → Prop) → Hp → V → Prop} {v : V} : φ M H v → (∀ M' H', (∀ a o, ¬ M a → H a = some o → ¬ M' a ∧ H' a = some o) → φ M' H' v) → Dt M H (.hp φ) v
  | lnt {q : Addr} {ys : List V} {ds : List D} : DtL M H ds ys → Dt M H (.lnt q ys ds) (.ref q)
  | dic {a : Addr} {kvs : List (Key × V)} {ks : List Key} {ds : List D} : ¬ M a → H a = some (.dK kvs) → kvs.map (·.1) = ks → DtL M H ds (kvs.map (·.2)) → Dt M H (.dic ks ds) (.ref a)
  | scrT {a : Addr} {K : PySem.W.Frag} {ns : List Int} {o : HO} : ¬ M a → H a = some o → (o = .lst (ns.map V.int) ∨ ∃ b, o = .frz b (.lst (ns.map V.int))) → Dt M H (.scr K ns) (.ref a)
  | scrK {a : Addr} {K : PySem.W.Frag} {ns : List Int} : (∀ H' : Hp, SqL K H' a (ns.map V.int)) → Dt M H (.scr K ns) (.ref a)
  | ins {a dx C : Addr} {gs : List (Str × V)} {fs : List (Str × D)} : ¬ M a → H a = some (.ins C dx gs) → DtF M H fs gs → Dt M H (.ins C fs) (.ref a)
inductive DtL (M : Addr → Prop) (H : Hp) : List D → List V → Prop
  | nil : DtL M H [] []
  | cons {v : V} {vs : List V} {d : D} {ds : List D} : Dt M H d v → DtL M H ds vs → DtL M H (d :: ds) (v :: vs)
inductive DtF (M : Addr → Prop) (H : Hp) : List (Str × D) → List (Str × V) → Prop
  | nil : DtF M H [] []
  | cons {f : Str} {v : V} {vs : List (Str × V)} {d : D} {ds : List (Str × D)} : Dt M H d v → DtF M H ds vs → DtF M H ((f, d) :: ds) ((f, v) :: vs)
end

section
variable {M M' : Addr → Prop} {H H' : Hp}
mutual
theorem Dt.mono (k : ∀ a o, ¬ M a → H a = some o → ¬ M' a ∧ H' a = some o) : ∀ (d : D) (v : V), Dt M H d v → Dt M' H' d v
  | .non, _, h => by cases h; exact .non
  | .bl _, _, h => by cases h; exact .bl _
  | .int _, _, h => by cases h; exact .int _
  | .str _, _, h => by cases h; exact .str _
  | .raw _, _, h => by cases h; exact .raw _
  | .scr _ _, _, h => by
    cases h with
    | scrT n e z => exact .scrT (k _ _ n e).1 (k _ _ n e).2 z
    | scrK z => exact .scrK z
  | .emp, _, h => by
    cases h with
    | emp n e => exact .emp (k _ _ n e).1 (k _ _ n e).2
  | .hp _, _, h => by
    cases h with
    | hp h st => exact .hp (st _ _ k) fun M2 H2 k2 => st M2 H2 fun a o m z => k2 a o (k a o m z).1 (k a o m z).2
  | .lnt q ys ds, _, h => by
    cases h with
    | lnt r => exact .lnt (DtL.mono k ds _ r)
  | .dic ks ds, _, h => by
    cases h with
    | dic n e z r => exact .dic (k _ _ n e).1 (k _ _ n e).2 z (DtL.mono k ds _ r)
  | .lst ds, _, h => by
    cases h with
    | lst n e r => exact .lst (k _ _ n e).1 (k _ _ n e).2 (DtL.mono k ds _ r)
  | .tup ds, _, h => by
    cases h with
    | tup n e r => exact .tup (k _ _ n e).1 (k _ _ n e).2 (DtL.mono k ds _ r)
  | .ins C fs, _, h => by
    cases h with
    | ins n e r => exact .ins (k _ _ n e).1 (k _ _ n e).2 (DtF.mono k fs _ r)
theorem DtL.mono (k : ∀ a o, ¬ M a → H a = some o → ¬ M' a ∧ H' a = some o) : ∀ (ds : List D) (vs : List V), DtL M H ds vs → DtL M' H' ds vs
  | [], _, h => by cases h; exact .nil
  | d :: ds, _, h => by
    cases h with
    | cons h1 h2 => exact .cons (Dt.mono k d _ h1) (DtL.mono k ds _ h2)
theorem DtF.mono (k : ∀ a o, ¬ M a → H a = some o → ¬ M' a ∧ H' a = some o) : ∀ (fs : List (Str × D)) (vs : List (Str × V)), DtF M H fs vs → DtF M' H' fs vs
  | [], _, h => by cases h; exact .nil
  | (f, d) :: ds, _, h => by
    cases h with
    | cons h1 h2 => exact .cons (Dt.mono k d _ h1) (DtF.mono k ds _ h2)
end
theorem DtL.length : ∀ {ds : List D} {vs : List V}, DtL M H ds vs → vs.length = ds.length
  | _, _, .nil => rfl
  | _, _, .cons _ t => by rw [List.length_cons, List.length_cons, DtL.length t]
theorem DtL.get : ∀ {ds : List D} {vs : List V} {i : Nat} {d : D}, DtL M H ds vs → ds[i]? = some d → ∃ v, vs[i]? = some v ∧ Dt M H d v
  | _, _, _, _, .nil, e => by simp at e
  | _, _, 0, _, .cons r _, e => by simp at e; subst e; exact ⟨_, rfl, r⟩
  | _, _, i + 1, d, .cons _ t, e => by
    obtain ⟨v, h1, h2⟩ := DtL.get (i := i) (d := d) t (by simpa using e)
    exact ⟨v, by simpa using h1, h2⟩
theorem DtL.getV : ∀ {ds : List D} {vs : List V} {i : Nat} {v : V}, DtL M H ds vs → vs[i]? = some v → ∃ d, ds[i]? = some d ∧ Dt M H d v
  | _, _, _, _, .nil, e => by simp at e
  | _, _, 0, _, .cons r _, e => by simp at e; subst e; exact ⟨_, rfl, r⟩
  | _, _, i + 1, v, .cons _ t, e => by
    obtain ⟨d, h1, h2⟩ := DtL.getV (i := i) (v := v) t (by simpa using e)
    exact ⟨d, by simpa using h1, h2⟩
theorem DtL.append : ∀ {ds es : List D} {vs ws : List V}, DtL M H ds vs → DtL M H es ws → DtL M H (ds ++ es) (vs ++ ws)
  | _, _, _, _, .nil, s => s
  | _, _, _, _, .cons r t, s => .cons r (DtL.append t s)
theorem DtL.take : ∀ {ds : List D} {vs : List V} (n : Nat), DtL M H ds vs → DtL M H (ds.take n) (vs.take n)
  | _, _, 0, _ => .nil
  | _, _, _ + 1, .nil => .nil
  | _, _, n + 1, .cons r t => .cons r (DtL.take n t)
theorem DtL.drop : ∀ {ds : List D} {vs : List V} (n : Nat), DtL M H ds vs → DtL M H (ds.drop n) (vs.drop n)
  | _, _, 0, r => r
  | _, _, _ + 1, .nil => .nil
  | _, _, n + 1, .cons _ t => DtL.drop n t
theorem DtL.set {d : D} {v : V} (r : Dt M H d v) : ∀ {ds : List D} {vs : List V} (n : Nat), DtL M H ds vs → DtL M H (ds.set n d) (vs.set n v)
  | _, _, _, .nil => .nil
  | _, _, 0, .cons _ t => .cons r t
  | _, _, n + 1, .cons q t => .cons q (DtL.set r n t)
theorem DtL.eraseIdx : ∀ {ds : List D} {vs : List V} (n : Nat), DtL M H ds vs → DtL M H (ds.eraseIdx n) (vs.eraseIdx n)
  | _, _, _, .nil => .nil
  | _, _, 0, .cons _ t => t
  | _, _, n + 1, .cons q t => .cons q (DtL.eraseIdx n t)
theorem DtL.ints : ∀ {ns : List Int} {vs : List V}, DtL M H (ns.map D.int) vs → vs = ns.map V.int
  | [], _, h => by cases h; rfl
  | n :: ns, _, h => by
    cases h with
    | cons h1 h2 => cases h1; rw [DtL.ints h2]; rfl
theorem DtL.ofInts : ∀ (ns : List Int), DtL M H (ns.map D.int) (ns.map V.int)
  | [] => .nil
  | n :: ns => .cons (.int n) (DtL.ofInts ns)
theorem DtL.bls : ∀ {ns : List Bool} {vs : List V}, DtL M H (ns.map D.bl) vs → vs = ns.map V.bl
  | [], _, h => by cases h; rfl
  | n :: ns, _, h => by
    cases h with
    | cons h1 h2 => cases h1; rw [DtL.bls h2]; rfl
theorem DtF.lookup {f : Str} : ∀ {fs : List (Str × D)} {gs : List (Str × V)} {d : D}, DtF M H fs gs → fs.lookup f = some d → ∃ v, gs.lookup f = some v ∧ Dt M H d v
  | _, _, _, .nil, e => by simp at e
  | _, _, d, .cons (f := g) (d := d') h t, e => by
    by_cases q : (f == g) = true
    · rw [List.lookup_cons, q] at e
      rw [List.lookup_cons, q]
      cases e
      exact ⟨_, rfl, h⟩
    · have q' : (f == g) = false := by simpa using q
      rw [List.lookup_cons, q'] at e
      rw [List.lookup_cons, q']
      exact DtF.lookup t e
theorem DtF.lookupN {f : Str} : ∀ {fs : List (Str × D)} {gs : List (Str × V)}, DtF M H fs gs → fs.lookup f = none → gs.lookup f = none
  | _, _, .nil, e => rfl
  | _, _, .cons (f := g) h t, e => by
    by_cases q : (f == g) = true
    · rw [List.lookup_cons, q] at e
      cases e
    · have q' : (f == g) = false := by simpa using q
      rw [List.lookup_cons, q'] at e
      rw [List.lookup_cons, q']
      exact DtF.lookupN t e
theorem DtF.length : ∀ {fs : List (Str × D)} {gs : List (Str × V)}, DtF M H fs gs → gs.length = fs.length
  | _, _, .nil => rfl
  | _, _, .cons _ t => by rw [List.length_cons, List.length_cons, DtF.length t]
end

/-! ### worlds: what may change, and what it then is -/
/-- what goes along beside the heap (g), and what a tape then is -/
class Gh (G : Type) where
  le : G → G → Prop
  good : G → List Int → Prop
  g0 : G
  n0 : List Int
  ok : good g0 n0
  up : ∀ {g g' ns}, le g g' → good g ns → good g' ns
/-- what a tape is -/
def Gh.tp {G : Type} [Gh G] (g : G) (o : HO) : Prop := ∃ ns : List Int, o = .lst (ns.map V.int) ∧ Gh.good g ns
abbrev Wd (G : Type) := G → Addr → HO → Prop
variable {G : Type}
def Wd.M (W : Wd G) (a : Addr) : Prop := ∃ g o, W g a o
def Wd.J (W : Wd G) (g : G) (H : Hp) : Prop := ∀ a, W.M a → ∃ o, H a = some o ∧ W g a o
theorem Wd.J.nn {W : Wd G} {g : G} {H : Hp} {a : Addr} (j : W.J g H) (e : H a = none) : ¬ W.M a := fun m => by
  obtain ⟨o, q, _⟩ := j a m
  rw [e] at q; cases q
theorem Wd.J.new {W : Wd G} {g : G} {H : Hp} {a : Addr} {o : HO} (j : W.J g H) (e : H a = none) : W.J g (upd H a o) := fun b m => by
  obtain ⟨u, q, w⟩ := j b m
  exact ⟨u, by rw [upd_ne (ne_of_none q e)]; exact q, w⟩
structure Ext (W : Wd G) (H : Hp) (g : G) (H' : Hp) : Prop where
  keep : ∀ a o, ¬ W.M a → H a = some o → H' a = some o
  j : W.J g H'
section
variable {W : Wd G} {g g1 g2 : G} {H H1 H2 H' : Hp}
theorem Ext.refl (j : W.J g H) : Ext W H g H := ⟨fun _ _ _ e => e, j⟩
theorem Ext.trans (a : Ext W H g1 H1) (b : Ext W H1 g2 H2) : Ext W H g2 H2 := ⟨fun c o n e => b.keep c o n (a.keep c o n e), b.j⟩
theorem Ext.new {p : Addr} {o : HO} (j : W.J g H) (e : H p = none) : Ext W H g (upd H p o) := ⟨fun a u _ q => by rw [upd_ne (ne_of_none q e)]; exact q, j.new e⟩
theorem Ext.free {p : Addr} (x : Ext W H g H1) (e : H1 p = none) : H p = none := by
  cases q : H p with
  | none => rfl
  | some o =>
    have n : ¬ W.M p := x.j.nn e
    rw [x.keep p o n q] at e; cases e
theorem Dt.ext {d : D} {v : V} (x : Ext W H g H1) (h : Dt W.M H d v) : Dt W.M H1 d v := Dt.mono (fun a o n e => ⟨n, x.keep a o n e⟩) d v h
theorem DtL.ext {d : List D} {v : List V} (x : Ext W H g H1) (h : DtL W.M H d v) : DtL W.M H1 d v := DtL.mono (fun a o n e => ⟨n, x.keep a o n e⟩) d v h
theorem DtF.ext {d : List (Str × D)} {v : List (Str × V)} (x : Ext W H g H1) (h : DtF W.M H d v) : DtF W.M H1 d v := DtF.mono (fun a o n e => ⟨n, x.keep a o n e⟩) d v h
end

/-! ### results: a tree, or a list that is lent -/
inductive Rs where
  | v (d : D)
  | b (ds : List D)
inductive RsOk (W : Wd G) (H : Hp) : Rs → V → Prop
  | v {d : D} {x : V} : Dt W.M H d x → RsOk W H (.v d) x
  | b {ds : List D} {a : Addr} {xs : List V} : W.M a → (∀ g o, W g a o → o = .lst xs) → DtL W.M H ds xs → RsOk W H (.b ds) (.ref a)
theorem RsOk.ext {W : Wd G} {g : G} {H H1 : Hp} {r : Rs} {x : V} (e : Ext W H g H1) (h : RsOk W H r x) : RsOk W H1 r x := by
  cases h with
  | v h => exact .v (h.ext e)
  | b h1 h2 h3 => exact .b h1 h2 (h3.ext e)
inductive RsL (W : Wd G) (H : Hp) : List Rs → List V → Prop
  | nil : RsL W H [] []
  | cons {r : Rs} {x : V} {rs : List Rs} {xs : List V} : RsOk W H r x → RsL W H rs xs → RsL W H (r :: rs) (x :: xs)
theorem RsL.ext {W : Wd G} {g : G} {H H1 : Hp} (e : Ext W H g H1) : ∀ {rs : List Rs} {xs : List V}, RsL W H rs xs → RsL W H1 rs xs
  | _, _, .nil => .nil
  | _, _, .cons h t => .cons (h.ext e) (RsL.ext e t)
theorem RsL.length {W : Wd G} {H : Hp} : ∀ {rs : List Rs} {xs : List V}, RsL W H rs xs → xs.length = rs.length
  | _, _, .nil => rfl
  | _, _, .cons _ t => by rw [List.length_cons, List.length_cons, RsL.length t]
/-- a list, shared or lent -/
inductive LstOf : Rs → List D → Prop
  | v {ds : List D} : LstOf (.v (.lst ds)) ds
  | b {ds : List D} : LstOf (.b ds) ds
/-- a list or a tuple -/
inductive SeqOf : Rs → List D → Prop
  | v {ds : List D} : SeqOf (.v (.lst ds)) ds
  | b {ds : List D} : SeqOf (.b ds) ds
  | t {ds : List D} : SeqOf (.v (.tup ds)) ds
theorem LstOf.at {W : Wd G} {g : G} {H : Hp} {r : Rs} {x : V} {ds : List D} (l : LstOf r ds) (j : W.J g H) (h : RsOk W H r x) : ∃ a xs, x = .ref a ∧ H a = some (.lst xs) ∧ DtL W.M H ds xs ∧ ∀ g1 H1, Ext W H g1 H1 → H1 a = some (.lst xs) := by
  cases l with
  | v =>
    cases h with
    | v h =>
      cases h with
      | lst n e t => exact ⟨_, _, rfl, e, t, fun _ H1 x => x.keep _ _ n e⟩
  | b =>
    cases h with
    | b h1 h2 h3 =>
      have q : ∀ {g1 : G} {H1 : Hp}, W.J g1 H1 → H1 _ = some (.lst _) := fun {g1 H1} j1 => by
        obtain ⟨o, e, w⟩ := j1 _ h1
        rw [h2 g1 o w] at e
        exact e
      exact ⟨_, _, rfl, q j, h3, fun _ H1 x => q x.j⟩
theorem tup_at {W : Wd G} {H : Hp} {x : V} {ds : List D} (h : RsOk W H (.v (.tup ds)) x) : ∃ a xs, x = .ref a ∧ H a = some (.tup xs) ∧ DtL W.M H ds xs ∧ ∀ g1 H1, Ext W H g1 H1 → H1 a = some (.tup xs) := by
  cases h with
  | v h =>
    cases h with
    | tup n e t => exact ⟨_, _, rfl, e, t, fun _ H1 x => x.keep _ _ n e⟩

/-! ### the frame's values as trees -/
inductive Sl where
  | un
  | r (r : Rs)
  | ow (ds : List D)
  | oi (p C : Addr) (fs : List (Str × D))
  | tp (p : Addr)
inductive OiOk (W : Wd G) (H : Hp) (C : Addr) (fs : List (Str × D)) : V → Prop
  | mk {a dx : Addr} {gs : List (Str × V)} : W.M a → (∀ g o, W g a o → o = .ins C dx gs) → DtF W.M H fs gs → OiOk W H C fs (.ref a)
theorem OiOk.ext {W : Wd G} {g : G} {H H1 : Hp} {C : Addr} {fs : List (Str × D)} {x : V} (e : Ext W H g H1) (h : OiOk W H C fs x) : OiOk W H1 C fs x := by
  cases h with
  | mk h1 h2 h3 => exact .mk h1 h2 (h3.ext e)
def SlOk (W : Wd G) (H : Hp) : Sl → Option V → Prop
  | .un, _ => True
  | .r r, o => ∃ v, o = some v ∧ RsOk W H r v
  | .ow ds, o => ∃ v, o = some v ∧ RsOk W H (.b ds) v
  | .oi p C fs, o => ∃ v, o = some v ∧ v = .ref p ∧ OiOk W H C fs v
  | .tp p, o => o = some (.ref p)
abbrev Sl.v (d : D) : Sl := .r (.v d)
/-- a slot that owns its object -/
def Sl.own : Sl → Bool
  | .ow _ => true
  | .oi _ _ _ => true
  | .tp _ => true
  | _ => false
theorem SlOk.ext {W : Wd G} {g : G} {H H1 : Hp} {s : Sl} {o : Option V} (e : Ext W H g H1) (h : SlOk W H s o) : SlOk W H1 s o := by
  cases s with
  | un => trivial
  | r r => obtain ⟨v, q, h⟩ := h; exact ⟨v, q, h.ext e⟩
  | ow ds => obtain ⟨v, q, h⟩ := h; exact ⟨v, q, h.ext e⟩
  | oi p C fs => obtain ⟨v, q, z, h⟩ := h; exact ⟨v, q, z, h.ext e⟩
  | tp p => exact h
abbrev Rho := List Sl
/-- own objects: as they are, or a tape -/
abbrev Pins := List (Addr × Option HO)
def PinO [Gh G] (g : G) : Option HO → HO → Prop
  | some u, o => o = u
  | none, o => Gh.tp g o
variable [Gh G]
def pinW (W : Wd G) (ps : Pins) : Wd G := fun g a o => (∃ q, (a, q) ∈ ps ∧ PinO g q o) ∨ W g a o
theorem pinW_nil {W : Wd G} : pinW W [] = W := by
  funext g a o
  exact propext ⟨fun h => by rcases h with ⟨_, h, _⟩ | h; cases h; exact h, .inr⟩

/-- the world's words last while g grows -/
def Up (W : Wd G) : Prop := ∀ g g' a o, Gh.le g g' → W g a o → W g' a o
theorem Up.pin {W : Wd G} {ps : Pins} (u : Up W) : Up (pinW W ps) := fun g g' a o l w => by
  rcases w with ⟨q, h, z⟩ | w
  · refine .inl ⟨q, h, ?_⟩
    cases q with
    | some v => exact z
    | none => obtain ⟨ns, e, z⟩ := z; exact ⟨ns, e, Gh.up l z⟩
  · exact .inr (u g g' a o l w)
theorem Up.j {W : Wd G} {g g' : G} {H : Hp} (u : Up W) (l : Gh.le g g') (j : W.J g H) : W.J g' H := fun a m => by
  obtain ⟨o, e, w⟩ := j a m
  exact ⟨o, e, u g g' a o l w⟩
theorem Ext.up {W : Wd G} {g g' : G} {H H' : Hp} (e : Ext W H g H') (u : Up W) (l : Gh.le g g') : Ext W H g' H' := ⟨e.keep, u.j l e.j⟩
/-- at p there is a tape -/
def Tp (W : Wd G) (p : Addr) : Prop := ∀ g o, W g p o ↔ Gh.tp g o
theorem Tp.m {W : Wd G} {p : Addr} (t : Tp W p) : W.M p := ⟨Gh.g0, _, (t _ _).mpr ⟨Gh.n0 G, rfl, Gh.ok⟩⟩

/-- the state of a body: base world W, entry heap H0, own objects ps -/
structure Sta (W : Wd G) (H0 : Hp) (ps : Pins) (g : G) (H : Hp) (σ : L2.St) (ρ : Rho) : Prop where
  len : σ.length = ρ.length
  at_ : ∀ (i : Nat) (s : Sl), ρ[i]? = some s → ∃ o, σ[i]? = some o ∧ SlOk (pinW W ps) H s o
  nd : (ps.map (·.1)).Nodup
  out : ∀ p ∈ ps, H0 p.1 = none ∧ ¬ W.M p.1
  own : ∀ (i : Nat) (s : Sl), ρ[i]? = some s → s.own = true → ∃ a q, σ[i]? = some (some (.ref a)) ∧ (a, q) ∈ ps ∧ (q = none ↔ ∃ p, s = .tp p)
  one : ∀ (i j : Nat) (s t : Sl), ρ[i]? = some s → ρ[j]? = some t → s.own = true → t.own = true → σ[i]? = σ[j]? → i = j
  lent : ∀ (i : Nat) (ds : List D), ρ[i]? = some (.r (.b ds)) → ∃ a, σ[i]? = some (some (.ref a)) ∧ W.M a
  ext : Ext (pinW W ps) H0 g H
section
variable {W : Wd G} {g g1 g2 : G} {H0 H H1 : Hp} {ps : Pins} {σ : L2.St} {ρ : Rho}
theorem Sta.j (S : Sta W H0 ps g H σ ρ) : (pinW W ps).J g H := S.ext.j
theorem Sta.to (S : Sta W H0 ps g H σ ρ) (e : Ext (pinW W ps) H g1 H1) : Sta W H0 ps g1 H1 σ ρ :=
  ⟨S.len, fun i s h => by obtain ⟨o, q, k⟩ := S.at_ i s h; exact ⟨o, q, k.ext e⟩, S.nd, S.out, S.own, S.one, S.lent, S.ext.trans e⟩
theorem pin_m {a : Addr} (h : W.M a) : (pinW W ps).M a := by
  obtain ⟨g, o, h⟩ := h
  exact ⟨g, o, .inr h⟩
theorem PinO.inh (q : Option HO) : ∃ (g : G) (o : HO), PinO g q o := by
  cases q with
  | some u => exact ⟨Gh.g0, u, rfl⟩
  | none => exact ⟨Gh.g0, _, Gh.n0 G, rfl, Gh.ok⟩
theorem pin_in {a : Addr} {q : Option HO} (h : (a, q) ∈ ps) : (pinW W ps).M a := by
  obtain ⟨g, o, k⟩ := PinO.inh (G := G) q
  exact ⟨g, o, .inl ⟨q, h, k⟩⟩
theorem pin_out {a : Addr} (h : (pinW W ps).M a) (n : ¬ W.M a) : ∃ q, (a, q) ∈ ps := by
  obtain ⟨g, o, ⟨q, h, _⟩ | h⟩ := h
  · exact ⟨q, h⟩
  · exact absurd ⟨g, o, h⟩ n
theorem nd_pins {a : Addr} {xs ys : Option HO} : ∀ {ps : Pins}, (ps.map (·.1)).Nodup → (a, xs) ∈ ps → (a, ys) ∈ ps → xs = ys
  | [], _, h, _ => by cases h
  | (b, zs) :: r, nd, h, k => by
    rw [List.map_cons, List.nodup_cons] at nd
    obtain ⟨nd1, nd2⟩ := nd
    rcases List.mem_cons.mp h with h1 | h1
    · rcases List.mem_cons.mp k with k1 | k1
      · exact (Prod.mk.inj (h1.trans k1.symm)).2
      · refine absurd (List.mem_map.mpr ⟨(a, ys), k1, ?_⟩) nd1
        exact (Prod.mk.inj h1).1
    · rcases List.mem_cons.mp k with k1 | k1
      · refine absurd (List.mem_map.mpr ⟨(a, xs), h1, ?_⟩) nd1
        exact (Prod.mk.inj k1).1
      · exact nd_pins nd2 h1 k1
theorem Sta.up (S : Sta W H0 ps g H σ ρ) (u : Up W) (l : Gh.le g g1) : Sta W H0 ps g1 H σ ρ := ⟨S.len, S.at_, S.nd, S.out, S.own, S.one, S.lent, S.ext.up u.pin l⟩
/-- at a pinned address the world says what the pin says -/
theorem Sta.pinAt (S : Sta W H0 ps g H σ ρ) {a : Addr} {q : Option HO} (h : (a, q) ∈ ps) (g' : G) (o : HO) : pinW W ps g' a o ↔ PinO g' q o := ⟨fun w => by
  rcases w with ⟨q', k, z⟩ | w
  · rw [nd_pins S.nd k h] at z; exact z
  · exact absurd ⟨g', o, w⟩ (S.out _ h).2, fun z => .inl ⟨q, h, z⟩⟩
/-- the base world's own words hold too -/
theorem Sta.base (S : Sta W H0 ps g H σ ρ) : Ext W H0 g H := by
  refine ⟨fun a o n e => S.ext.keep a o (fun m => ?_) e, fun a m => ?_⟩
  · obtain ⟨xs, h⟩ := pin_out m n
    rw [(S.out _ h).1] at e; cases e
  · obtain ⟨o, e, w⟩ := S.j a (pin_m m)
    refine ⟨o, e, ?_⟩
    rcases w with ⟨q, h, _⟩ | w
    · exact absurd m (S.out _ h).2
    · exact w
theorem Sta.pin (S : Sta W H0 ps g H σ ρ) {a : Addr} {o : HO} (h : (a, some o) ∈ ps) : H a = some o := by
  obtain ⟨u, e, w⟩ := S.j a (pin_in h)
  have z : u = o := (S.pinAt h g u).mp w
  rw [z] at e; exact e
theorem Sta.pinN (S : Sta W H0 ps g H σ ρ) {a : Addr} {q : Option HO} (h : (a, q) ∈ ps) : H a ≠ none := fun z => by
  obtain ⟨u, e, w⟩ := S.j a (pin_in h)
  rw [z] at e; cases e
theorem Sta.slot (S : Sta W H0 ps g H σ ρ) {i : Nat} {r : Rs} (h : ρ[i]? = some (.r r)) : ∃ v, σ[i]? = some (some v) ∧ RsOk (pinW W ps) H r v := by
  obtain ⟨o, q, v, rfl, k⟩ := S.at_ i _ h
  exact ⟨v, q, k⟩
theorem Sta.tp (S : Sta W H0 ps g H σ ρ) {p : Addr} (h : Sl.tp p ∈ ρ) : Tp (pinW W ps) p := fun g' o => by
  obtain ⟨i, h⟩ := List.getElem?_of_mem h
  obtain ⟨o1, e1, z⟩ := S.at_ i _ h
  obtain ⟨a, q, e2, hm, hq⟩ := S.own i _ h rfl
  rw [e1] at e2
  have z' : o1 = some (.ref p) := z
  rw [z'] at e2
  cases e2
  obtain rfl := hq.mpr ⟨p, rfl⟩
  exact S.pinAt hm g' o
theorem Sta.tpW (S : Sta W H0 ps g H σ ρ) {p : Addr} (t : Tp W p) : Tp (pinW W ps) p := fun g' o => ⟨fun w => by
  rcases w with ⟨q, h, _⟩ | w
  · exact absurd t.m (S.out _ h).2
  · exact (t g' o).mp w, fun w => .inr ((t g' o).mpr w)⟩
theorem set_at {α : Type} {l : List α} {i j : Nat} {x y : α} (h : (l.set i x)[j]? = some y) : (i = j ∧ y = x ∧ j < l.length) ∨ (i ≠ j ∧ l[j]? = some y) := by
  by_cases e : i = j
  · subst e
    by_cases hl : i < l.length
    · rw [List.getElem?_set_self hl] at h
      exact .inl ⟨rfl, (Option.some.inj h).symm, hl⟩
    · rw [List.getElem?_eq_none (by rw [List.length_set]; omega)] at h; cases h
  · rw [List.getElem?_set_ne e] at h
    exact .inr ⟨e, h⟩
/-- a slot takes a thing that it does not own and that is not lent -/
theorem Sta.setP {i : Nat} {s : Sl} {o : Option V} (S : Sta W H0 ps g H σ ρ) (hs : s.own = false) (hb : ∀ ds, s ≠ .r (.b ds)) (h : SlOk (pinW W ps) H s o) : Sta W H0 ps g H (σ.set i o) (ρ.set i s) where
  len := by rw [List.length_set, List.length_set]; exact S.len
  at_ := fun j t e => by
    rcases set_at e with ⟨rfl, rfl, hl⟩ | ⟨hj, e⟩
    · exact ⟨_, List.getElem?_set_self (by rw [S.len]; exact hl), h⟩
    · rw [List.getElem?_set_ne hj]
      exact S.at_ j t e
  nd := S.nd
  out := S.out
  own := fun j t e ht => by
    rcases set_at e with ⟨rfl, rfl, hl⟩ | ⟨hj, e⟩
    · rw [hs] at ht; cases ht
    · rw [List.getElem?_set_ne hj]
      exact S.own j t e ht
  one := fun j k t u e1 e2 h1 h2 e3 => by
    rcases set_at e1 with ⟨rfl, rfl, _⟩ | ⟨n1, e1⟩
    · rw [hs] at h1; cases h1
    · rcases set_at e2 with ⟨rfl, rfl, _⟩ | ⟨n2, e2⟩
      · rw [hs] at h2; cases h2
      · rw [List.getElem?_set_ne n1, List.getElem?_set_ne n2] at e3
        exact S.one j k t u e1 e2 h1 h2 e3
  lent := fun j ds e => by
    rcases set_at e with ⟨rfl, q, _⟩ | ⟨hj, e⟩
    · exact absurd q.symm (hb ds)
    · rw [List.getElem?_set_ne hj]
      exact S.lent j ds e
  ext := S.ext
theorem Sta.set {i : Nat} {d : D} {v : V} (S : Sta W H0 ps g H σ ρ) (h : Dt (pinW W ps).M H d v) : Sta W H0 ps g H (σ.set i (some v)) (ρ.set i (.v d)) := S.setP rfl (fun _ z => nomatch z) ⟨v, rfl, .v h⟩
theorem Sta.wipe1 {i : Nat} (S : Sta W H0 ps g H σ ρ) : Sta W H0 ps g H (σ.set i none) (ρ.set i .un) := S.setP rfl (fun _ z => nomatch z) trivial
def wipeR (ρ : Rho) : List Nat → Rho
  | [] => ρ
  | v :: vs => (wipeR ρ vs).set v .un
theorem Sta.wipe (S : Sta W H0 ps g H σ ρ) : ∀ vs : List Nat, Sta W H0 ps g H (L2.wipe σ vs) (wipeR ρ vs)
  | [] => S
  | _ :: vs => (Sta.wipe S vs).wipe1
/-- what came behind: the own objects are the old ones or new, all else stands -/
structure Nxt (W : Wd G) (ps : Pins) (H : Hp) (ps' : Pins) (H' : Hp) : Prop where
  pins : ∀ p ∈ ps', (∃ o, (p.1, o) ∈ ps) ∨ H p.1 = none
  keep : ∀ a o, ¬ (pinW W ps).M a → H a = some o → H' a = some o
theorem Nxt.refl {H : Hp} : Nxt W ps H ps H := ⟨fun p h => .inl ⟨p.2, h⟩, fun _ _ _ e => e⟩
theorem Nxt.of (e : Ext (pinW W ps) H g H1) : Nxt W ps H ps H1 := ⟨fun p h => .inl ⟨p.2, h⟩, e.keep⟩
theorem Nxt.trans {ps1 ps2 : Pins} {H2 : Hp} (a : Nxt W ps H ps1 H1) (b : Nxt W ps1 H1 ps2 H2) (j1 : (pinW W ps1).J g1 H1) : Nxt W ps H ps2 H2 := by
  refine ⟨fun p h => ?_, fun c o n e => ?_⟩
  · rcases b.pins p h with ⟨o, h1⟩ | h1
    · exact a.pins (p.1, o) h1
    · cases q : H p.1 with
      | none => exact .inr rfl
      | some o =>
        refine .inl ?_
        by_cases m : (pinW W ps).M p.1
        · obtain ⟨g', u, ⟨q', m, _⟩ | m⟩ := m
          · exact ⟨q', m⟩
          · obtain ⟨u', q', _⟩ := j1 p.1 (pin_m ⟨g', u, m⟩)
            rw [h1] at q'; cases q'
        · rw [a.keep p.1 o m q] at h1; cases h1
  · refine b.keep c o (fun m => ?_) (a.keep c o n e)
    obtain ⟨g', u, ⟨q', h, _⟩ | h⟩ := m
    · rcases a.pins _ h with ⟨o', h'⟩ | h'
      · exact n (pin_in h')
      · rw [h'] at e; cases e
    · exact n ⟨g', u, .inr h⟩
end
end TL
set_option Elab.async false
set_option linter.all false
set_option maxRecDepth 100000
namespace TL
open PySem PySem.Spec L2
variable {G : Type} [Gh G]
/-! ### expressions over trees -/
def wpE (W : Wd G) (H0 : Hp) (g : G) (ρ : Rho) (te : TE) (k : Rs → G → Prop) : Prop := ∀ (ps : Pins) (H : Hp) (σ : L2.St), Sta W H0 ps g H σ ρ → ∀ Q : VK, (∀ r v g' H', k r g' → Ext (pinW W ps) H g' H' → RsOk (pinW W ps) H' r v → Q v H') → te σ H Q
def wpT (W : Wd G) (H0 : Hp) (g : G) (ρ : Rho) (t : TT) (k : Bool → G → Prop) : Prop := ∀ (ps : Pins) (H : Hp) (σ : L2.St), Sta W H0 ps g H σ ρ → ∀ Q : Bool → Hp → Prop, (∀ b g' H', k b g' → Ext (pinW W ps) H g' H' → Q b H') → t σ H Q
def wpA (W : Wd G) (H0 : Hp) (g : G) (ρ : Rho) (t : TA) (k : List Rs → G → Prop) : Prop := ∀ (ps : Pins) (H : Hp) (σ : L2.St), Sta W H0 ps g H σ ρ → ∀ Q : List V → Hp → Prop, (∀ rs vs g' H', k rs g' → Ext (pinW W ps) H g' H' → RsL (pinW W ps) H' rs vs → Q vs H') → t σ H Q
/-- two values' operation; one value's; a call's, by values; a method's -/
def wp2 (r : R2) (x y : Rs) (k : Rs → Prop) : Prop := ∀ (G : Type) (W : Wd G) (g : G) (H : Hp) (v u : V), W.J g H → RsOk W H x v → RsOk W H y u → ∀ Q : VK, (∀ z w H', k z → Ext W H g H' → RsOk W H' z w → Q w H') → r v u H Q
def wp1 (r : V → Hp → VK → Prop) (x : Rs) (k : Rs → Prop) : Prop := ∀ (G : Type) (W : Wd G) (g : G) (H : Hp) (v : V), W.J g H → RsOk W H x v → ∀ Q : VK, (∀ z w H', k z → Ext W H g H' → RsOk W H' z w → Q w H') → r v H Q
def wpC (r : List V → Hp → VK → Prop) (xs : List Rs) (k : Rs → Prop) : Prop := ∀ (G : Type) (W : Wd G) (g : G) (H : Hp) (vs : List V), W.J g H → RsL W H xs vs → ∀ Q : VK, (∀ z w H', k z → Ext W H g H' → RsOk W H' z w → Q w H') → r vs H Q
def wpM (r : V → List V → Hp → VK → Prop) (x : Rs) (xs : List Rs) (k : Rs → Prop) : Prop := ∀ (G : Type) (W : Wd G) (g : G) (H : Hp) (v : V) (vs : List V), W.J g H → RsOk W H x v → RsL W H xs vs → ∀ Q : VK, (∀ z w H', k z → Ext W H g H' → RsOk W H' z w → Q w H') → r v vs H Q

section
variable {W : Wd G} {H0 : Hp} {g : G} {ρ : Rho} {ta tb tc te : TE} {t u : TT} {tg tr : TA} {k k' : Rs → G → Prop} {kb : Bool → G → Prop} {ka : List Rs → G → Prop} {K : PySem.W.Frag}
theorem wpE.mono (h : wpE W H0 g ρ te k) (q : ∀ r g', k r g' → k' r g') : wpE W H0 g ρ te k' := fun ps H σ S Q hq => h ps H σ S Q fun r v g' H' z => hq r v g' H' (q r g' z)
theorem e_var {i : Nat} {r : Rs} (h : ρ[i]? = some (.r r)) (q : k r g) : wpE W H0 g ρ (tVar i) k := fun ps H σ S Q hq => by
  obtain ⟨v, e, o⟩ := S.slot h
  exact ⟨v, e, hq r v g H q (Ext.refl S.j) o⟩
theorem e_varO {i : Nat} {ds : List D} (h : ρ[i]? = some (.ow ds)) (q : k (.b ds) g) : wpE W H0 g ρ (tVar i) k := fun ps H σ S Q hq => by
  obtain ⟨o, e, v, rfl, w⟩ := S.at_ i _ h
  exact ⟨v, e, hq _ v g H q (Ext.refl S.j) w⟩
theorem e_varT {i : Nat} {p : Addr} (h : ρ[i]? = some (.tp p)) (q : k (.v (.raw (.ref p))) g) : wpE W H0 g ρ (tVar i) k := fun ps H σ S Q hq => by
  obtain ⟨o, e, w⟩ := S.at_ i _ h
  exact ⟨.ref p, e.trans (congrArg some w), hq _ _ g H q (Ext.refl S.j) (.v (.raw _))⟩
/-- at a later g -/
theorem e_up (u : Up W) {g' : G} (l : Gh.le g g') (h : wpE W H0 g' ρ te k) : wpE W H0 g ρ te k := fun ps H σ S Q hq => h ps H σ (S.up u l) Q hq
/-- an answer's g may be taken later -/
theorem e_upK (u : Up W) (h : wpE W H0 g ρ te fun r g1 => ∃ g2, Gh.le g1 g2 ∧ k r g2) : wpE W H0 g ρ te k := fun ps H σ S Q hq => h ps H σ S Q fun r v g1 H1 ⟨g2, l, kx⟩ e o => hq r v g2 H1 kx (e.up u.pin l) o
theorem e_int {n : Int} (q : k (.v (.int n)) g) : wpE W H0 g ρ (tC (.int n)) k := fun ps H σ S Q hq => hq _ _ g H q (Ext.refl S.j) (.v (.int n))
theorem e_bl {n : Bool} (q : k (.v (.bl n)) g) : wpE W H0 g ρ (tC (.bl n)) k := fun ps H σ S Q hq => hq _ _ g H q (Ext.refl S.j) (.v (.bl n))
theorem e_str {n : Str} (q : k (.v (.str n)) g) : wpE W H0 g ρ (tC (.str n)) k := fun ps H σ S Q hq => hq _ _ g H q (Ext.refl S.j) (.v (.str n))
theorem e_non (q : k (.v .non) g) : wpE W H0 g ρ (tC .non) k := fun ps H σ S Q hq => hq _ _ g H q (Ext.refl S.j) (.v .non)
theorem e_raw {v : V} (q : k (.v (.raw v)) g) : wpE W H0 g ρ (tC v) k := fun ps H σ S Q hq => hq _ _ g H q (Ext.refl S.j) (.v (.raw v))
theorem e_op {r : R2} (h : wpE W H0 g ρ ta fun x g1 => wpE W H0 g1 ρ tb fun y g2 => wp2 r x y fun z => k z g2) : wpE W H0 g ρ (tOp r ta tb) k := fun ps H σ S Q hq =>
  h ps H σ S _ fun x v g1 H1 kx e1 ox => kx ps H1 σ (S.to e1) _ fun y w g2 H2 ky e2 oy => ky _ _ g2 H2 v w e2.j (ox.ext e2) oy Q fun z w' H3 kz e3 oz => hq z w' g2 H3 kz ((e1.trans e2).trans e3) oz
theorem e_un {r : V → Hp → VK → Prop} (h : wpE W H0 g ρ ta fun x g1 => wp1 r x fun z => k z g1) : wpE W H0 g ρ (tUn r ta) k := fun ps H σ S Q hq =>
  h ps H σ S _ fun x v g1 H1 kx e1 ox => kx _ _ g1 H1 v e1.j ox Q fun z w' H3 kz e3 oz => hq z w' g1 H3 kz (e1.trans e3) oz
theorem a_nil (q : ka [] g) : wpA W H0 g ρ tNil ka := fun ps H σ S Q hq => hq [] [] g H q (Ext.refl S.j) .nil
theorem a_cons (h : wpE W H0 g ρ ta fun x g1 => wpA W H0 g1 ρ tr fun xs g2 => ka (x :: xs) g2) : wpA W H0 g ρ (tCons ta tr) ka := fun ps H σ S Q hq =>
  h ps H σ S _ fun x v g1 H1 kx e1 ox => kx ps H1 σ (S.to e1) _ fun xs vs g2 H2 ky e2 oy => hq _ _ g2 H2 ky (e1.trans e2) (.cons (ox.ext e2) oy)
theorem e_cb {r : List V → Hp → VK → Prop} (h : wpA W H0 g ρ tg fun xs g1 => wpC r xs fun z => k z g1) : wpE W H0 g ρ (tCB r tg) k := fun ps H σ S Q hq =>
  h ps H σ S _ fun xs vs g1 H1 kx e1 ox => kx _ _ g1 H1 vs e1.j ox Q fun z w' H3 kz e3 oz => hq z w' g1 H3 kz (e1.trans e3) oz
/-- trees alone, in a display -/
inductive Vs : List Rs → List D → Prop
  | nil : Vs [] []
  | cons {d : D} {rs : List Rs} {ds : List D} : Vs rs ds → Vs (.v d :: rs) (d :: ds)
theorem Vs.ok {G : Type} {H : Hp} {W : Wd G} : ∀ {rs : List Rs} {ds : List D} {vs : List V}, Vs rs ds → RsL W H rs vs → DtL W.M H ds vs
  | _, _, _, .nil, h => by cases h; exact .nil
  | _, _, _, .cons t, h => by
    cases h with
    | cons h1 h2 =>
      cases h1 with
      | v h1 => exact .cons h1 (Vs.ok t h2)
theorem Vs.length : ∀ {rs : List Rs} {ds : List D}, Vs rs ds → rs.length = ds.length
  | _, _, .nil => rfl
  | _, _, .cons t => by rw [List.length_cons, List.length_cons, Vs.length t]
theorem e_tup (h : wpA W H0 g ρ tg fun rs g1 => ∃ ds, Vs rs ds ∧ ds.length ≤ 1000 ∧ k (.v (.tup ds)) g1) : wpE W H0 g ρ (tTup tg) k := fun ps H σ S Q hq =>
  h ps H σ S _ fun xs vs g1 H1 kx e1 ox => by
    obtain ⟨ds, hv, hl, q⟩ := kx
    have len : vs.length = ds.length := ox.length.trans hv.length
    refine ⟨by rw [len]; exact Nat.le_trans hl (by decide), fun p hp => hq _ _ _ _ q (e1.trans (Ext.new e1.j hp)) (.v (.tup (e1.j.nn hp) upd_same ((hv.ok ox).ext (Ext.new e1.j hp))))⟩
theorem e_lst (h : wpA W H0 g ρ tg fun rs g1 => ∃ ds, Vs rs ds ∧ ds.length ≤ 1000 ∧ k (.v (.lst ds)) g1) : wpE W H0 g ρ (tLst tg) k := fun ps H σ S Q hq =>
  h ps H σ S _ fun xs vs g1 H1 kx e1 ox => by
    obtain ⟨ds, hv, hl, q⟩ := kx
    have len : vs.length = ds.length := ox.length.trans hv.length
    refine ⟨by rw [len]; exact Nat.le_trans hl (by decide), fun p hp => hq _ _ _ _ q (e1.trans (Ext.new e1.j hp)) (.v (.lst (e1.j.nn hp) upd_same ((hv.ok ox).ext (Ext.new e1.j hp))))⟩
/-! tests -/
theorem t_test (h : wpE W H0 g ρ te fun r g1 => ∃ b, r = .v (.bl b) ∧ kb b g1) : wpT W H0 g ρ (tTest te) kb := fun ps H σ S Q hq =>
  h ps H σ S _ fun r v g1 H1 kx e1 ox => by
    obtain ⟨b, rfl, q⟩ := kx
    cases ox with
    | v ox => cases ox; exact ⟨b, rfl, hq b g1 H1 q e1⟩
theorem t_B (h : wpE W H0 g ρ te fun r g1 => ∃ b, r = .v (.bl b) ∧ kb b g1) : wpT W H0 g ρ (tB te) kb := t_test h
theorem t_and (h : wpT W H0 g ρ t fun b g1 => (b = true → wpT W H0 g1 ρ u kb) ∧ (b = false → kb false g1)) : wpT W H0 g ρ (tAnd t u) kb := fun ps H σ S Q hq =>
  h ps H σ S _ fun b g1 H1 kx e1 => by
    cases b with
    | true => exact kx.1 rfl ps H1 σ (S.to e1) Q fun b g2 H2 q e2 => hq b g2 H2 q (e1.trans e2)
    | false => exact hq _ _ H1 (kx.2 rfl) e1
theorem t_or (h : wpT W H0 g ρ t fun b g1 => (b = true → kb true g1) ∧ (b = false → wpT W H0 g1 ρ u kb)) : wpT W H0 g ρ (tOr t u) kb := fun ps H σ S Q hq =>
  h ps H σ S _ fun b g1 H1 kx e1 => by
    cases b with
    | true => exact hq _ _ H1 (kx.1 rfl) e1
    | false => exact kx.2 rfl ps H1 σ (S.to e1) Q fun b g2 H2 q e2 => hq b g2 H2 q (e1.trans e2)
theorem t_not (h : wpT W H0 g ρ t fun b g1 => kb (!b) g1) : wpT W H0 g ρ (tNot t) kb := fun ps H σ S Q hq => h ps H σ S _ fun b g1 H1 kx e1 => hq _ g1 H1 kx e1
theorem e_andV (h : wpE W H0 g ρ ta fun r g1 => ∃ b, r = .v (.bl b) ∧ (b = true → wpE W H0 g1 ρ tb k) ∧ (b = false → k (.v (.bl false)) g1)) : wpE W H0 g ρ (tAndV ta tb) k := fun ps H σ S Q hq =>
  h ps H σ S _ fun r v g1 H1 kx e1 ox => by
    obtain ⟨b, rfl, q1, q2⟩ := kx
    cases ox with
    | v ox =>
      cases ox
      refine ⟨b, rfl, ?_⟩
      cases b with
      | true => exact q1 rfl ps H1 σ (S.to e1) Q fun z w g2 H2 kz e2 oz => hq z w g2 H2 kz (e1.trans e2) oz
      | false => exact hq _ _ _ H1 (q2 rfl) e1 (.v (.bl false))
theorem e_orV (h : wpE W H0 g ρ ta fun r g1 => ∃ b, r = .v (.bl b) ∧ (b = true → k (.v (.bl true)) g1) ∧ (b = false → wpE W H0 g1 ρ tb k)) : wpE W H0 g ρ (tOrV ta tb) k := fun ps H σ S Q hq =>
  h ps H σ S _ fun r v g1 H1 kx e1 ox => by
    obtain ⟨b, rfl, q1, q2⟩ := kx
    cases ox with
    | v ox =>
      cases ox
      refine ⟨b, rfl, ?_⟩
      cases b with
      | true => exact hq _ _ _ H1 (q1 rfl) e1 (.v (.bl true))
      | false => exact q2 rfl ps H1 σ (S.to e1) Q fun z w g2 H2 kz e2 oz => hq z w g2 H2 kz (e1.trans e2) oz
theorem e_notV (h : wpE W H0 g ρ ta fun r g1 => ∃ b, r = .v (.bl b) ∧ k (.v (.bl (!b))) g1) : wpE W H0 g ρ (tNotV ta) k := fun ps H σ S Q hq =>
  h ps H σ S _ fun r v g1 H1 kx e1 ox => by
    obtain ⟨b, rfl, q1⟩ := kx
    cases ox with
    | v ox =>
      cases ox
      exact ⟨b, rfl, hq _ _ _ H1 q1 e1 (.v (.bl (!b)))⟩
theorem e_if (h : wpT W H0 g ρ t fun b g1 => (b = true → wpE W H0 g1 ρ ta k) ∧ (b = false → wpE W H0 g1 ρ tb k)) : wpE W H0 g ρ (tIf t ta tb) k := fun ps H σ S Q hq =>
  h ps H σ S _ fun b g1 H1 kx e1 => by
    cases b with
    | true => exact kx.1 rfl ps H1 σ (S.to e1) Q fun z w g2 H2 kz e2 oz => hq z w g2 H2 kz (e1.trans e2) oz
    | false => exact kx.2 rfl ps H1 σ (S.to e1) Q fun z w g2 H2 kz e2 oz => hq z w g2 H2 kz (e1.trans e2) oz
theorem e_chain {r r' : R2} (h : wpE W H0 g ρ ta fun x g1 => wpE W H0 g1 ρ tb fun y g2 => wp2 r x y fun z => ∃ b, z = .v (.bl b) ∧ (b = true → wpE W H0 g2 ρ tc fun w g3 => wp2 r' y w fun z => k z g3) ∧ (b = false → k (.v (.bl false)) g2)) : wpE W H0 g ρ (tChain r r' ta tb tc) k := fun ps H σ S Q hq =>
  h ps H σ S _ fun x v g1 H1 kx e1 ox => kx ps H1 σ (S.to e1) _ fun y w g2 H2 ky e2 oy => ky _ _ g2 H2 v w e2.j (ox.ext e2) oy _ fun z w' H3 kz e3 oz => by
    obtain ⟨b, rfl, q1, q2⟩ := kz
    cases oz with
    | v oz =>
      cases oz
      have e13 := (e1.trans e2).trans e3
      refine ⟨b, rfl, ?_⟩
      cases b with
      | true => exact q1 rfl ps H3 σ (S.to e13) _ fun z' w'' g3 H4 kz' e4 oz' => kz' _ _ g3 H4 w w'' e4.j ((oy.ext e3).ext e4) oz' Q fun z5 w5 H5 k5 e5 o5 => hq z5 w5 g3 H5 k5 ((e13.trans e4).trans e5) o5
      | false => exact hq _ _ _ H3 (q2 rfl) e13 (.v (.bl false))
end
section
variable {G : Type} {W : Wd G} {k : Rs → Prop}
/-! operations by values -/
theorem v_int {H : Hp} {i : Int} {v : V} (h : RsOk W H (.v (.int i)) v) : v = .int i := by
  cases h with
  | v h => cases h; rfl
theorem v_bl {H : Hp} {i : Bool} {v : V} (h : RsOk W H (.v (.bl i)) v) : v = .bl i := by
  cases h with
  | v h => cases h; rfl
theorem v_str {H : Hp} {i : Str} {v : V} (h : RsOk W H (.v (.str i)) v) : v = .str i := by
  cases h with
  | v h => cases h; rfl
theorem v_non {H : Hp} {v : V} (h : RsOk W H (.v .non) v) : v = .non := by
  cases h with
  | v h => cases h; rfl
theorem v_raw {H : Hp} {u v : V} (h : RsOk W H (.v (.raw u)) v) : v = u := by
  cases h with
  | v h => cases h; rfl
theorem p_I0i {g : Int → Int → Int} {i j : Int} (q : k (.v (.int (g i j)))) : wp2 (rI0 fun i j => .int (g i j)) (.v (.int i)) (.v (.int j)) k := fun _ W g0 H v u J ox oy Q hq => by
  rw [v_int ox, v_int oy]
  exact ⟨i, j, rfl, rfl, hq _ _ H q (Ext.refl J) (.v (.int _))⟩
theorem p_I0b {g : Int → Int → Bool} {i j : Int} (q : k (.v (.bl (g i j)))) : wp2 (rI0 fun i j => .bl (g i j)) (.v (.int i)) (.v (.int j)) k := fun _ W g0 H v u J ox oy Q hq => by
  rw [v_int ox, v_int oy]
  exact ⟨i, j, rfl, rfl, hq _ _ H q (Ext.refl J) (.v (.bl _))⟩
theorem p_Ii {C : Int → Int → Prop} {g : Int → Int → Int} {i j : Int} (c : C i j) (q : k (.v (.int (g i j)))) : wp2 (rI C fun i j => .int (g i j)) (.v (.int i)) (.v (.int j)) k := fun _ W g0 H v u J ox oy Q hq => by
  rw [v_int ox, v_int oy]
  exact ⟨i, j, rfl, rfl, c, hq _ _ H q (Ext.refl J) (.v (.int _))⟩
theorem p_Ui {g : Int → Int} {i : Int} (q : k (.v (.int (g i)))) : wp1 (rU fun i => .int (g i)) (.v (.int i)) k := fun _ W g0 H v J ox Q hq => by
  rw [v_int ox]
  exact ⟨i, rfl, hq _ _ H q (Ext.refl J) (.v (.int _))⟩
end
end TL
set_option Elab.async false
set_option linter.all false
set_option maxRecDepth 100000
namespace TL
open PySem PySem.Spec L2
/-! ### trees as the library's data -/
mutual
def D.py : D → PyData
  | .non => .none
  | .bl b => .bool b
  | .int i => .int i
  | .str x => .str x
  | .lst ds => .list (D.pyL ds)
  | .tup ds => .tuple (D.pyL ds)
  | .ins _ _ => .none
  | .raw _ => .none
  | .emp => .none
  | .scr _ _ => .none
  | .dic _ _ => .none
  | .lnt _ _ _ => .none
  | .hp _ => .none
def D.pyL : List D → List PyData
  | [] => []
  | d :: ds => D.py d :: D.pyL ds
end
theorem D.pyL_map : ∀ ds : List D, D.pyL ds = ds.map D.py
  | [] => rfl
  | d :: ds => by rw [D.pyL, D.pyL_map ds]; rfl
/-- plain data, at most n deep -/
inductive Pl : Nat → D → Prop
  | non {n} : Pl n .non
  | bl {n b} : Pl n (.bl b)
  | int {n i} : Pl n (.int i)
  | str {n x} : Pl n (.str x)
  | lst {n} {ds : List D} : (∀ d ∈ ds, Pl n d) → Pl (n + 1) (.lst ds)
  | tup {n} {ds : List D} : (∀ d ∈ ds, Pl n d) → Pl (n + 1) (.tup ds)
theorem Pl.mono {m n : Nat} {d : D} (h : Pl m d) : m ≤ n → Pl n d := by
  induction h generalizing n with
  | non => intro _; exact .non
  | bl => intro _; exact .bl
  | int => intro _; exact .int
  | str => intro _; exact .str
  | lst h ih =>
    intro l
    obtain ⟨k, rfl⟩ : ∃ k, n = k + 1 := ⟨n - 1, by omega⟩
    exact .lst fun d hd => ih d hd (by omega)
  | tup h ih =>
    intro l
    obtain ⟨k, rfl⟩ : ∃ k, n = k + 1 := ⟨n - 1, by omega⟩
    exact .tup fun d hd => ih d hd (by omega)
theorem plainAll_of {f : D → PyData} : ∀ {ds : List D}, (∀ d ∈ ds, (f d).plain = true) → PyData.plainAll (ds.map f) = true
  | [], _ => rfl
  | d :: ds, h => by
    show ((f d).plain && PyData.plainAll (ds.map f)) = true
    rw [h d List.mem_cons_self, plainAll_of fun e he => h e (List.mem_cons_of_mem _ he)]; rfl
theorem depthAll_of {n : Nat} {f : D → PyData} : ∀ {ds : List D}, (∀ d ∈ ds, (f d).depth ≤ n) → PyData.depthAll (ds.map f) ≤ n
  | [], _ => Nat.zero_le _
  | d :: ds, h => by
    show max (f d).depth (PyData.depthAll (ds.map f)) ≤ n
    exact Nat.max_le.mpr ⟨h d List.mem_cons_self, depthAll_of fun e he => h e (List.mem_cons_of_mem _ he)⟩
theorem Pl.plain {n : Nat} {d : D} (h : Pl n d) : d.py.plain = true ∧ d.py.depth ≤ n := by
  induction h with
  | non => exact ⟨rfl, Nat.zero_le _⟩
  | bl => exact ⟨rfl, Nat.zero_le _⟩
  | int => exact ⟨rfl, Nat.zero_le _⟩
  | str => exact ⟨rfl, Nat.zero_le _⟩
  | lst h ih =>
    constructor
    · show PyData.plainAll (D.pyL _) = true
      rw [D.pyL_map]; exact plainAll_of fun d hd => (ih d hd).1
    · show PyData.depthAll (D.pyL _) + 1 ≤ _
      rw [D.pyL_map]; exact Nat.succ_le_succ (depthAll_of fun d hd => (ih d hd).2)
  | tup h ih =>
    constructor
    · show PyData.plainAll (D.pyL _) = true
      rw [D.pyL_map]; exact plainAll_of fun d hd => (ih d hd).1
    · show PyData.depthAll (D.pyL _) + 1 ≤ _
      rw [D.pyL_map]; exact Nat.succ_le_succ (depthAll_of fun d hd => (ih d hd).2)
section
variable {K : PySem.W.Frag} {M : Addr → Prop} {H : Hp}
theorem dpAll_of : ∀ {ds : List D} {xs : List V}, (∀ d ∈ ds, ∀ v, Dt M H d v → Dp K H v d.py) → DtL M H ds xs → DpAll K H xs (D.pyL ds)
  | [], _, _, h => by cases h; exact .nil
  | d :: ds, _, q, h => by
    cases h with
    | cons h1 h2 => exact .cons (q d List.mem_cons_self _ h1) (dpAll_of (fun e he => q e (List.mem_cons_of_mem _ he)) h2)
theorem Pl.dp {n : Nat} {d : D} (h : Pl n d) : ∀ v, Dt M H d v → Dp K H v d.py := by
  induction h with
  | non => intro v r; cases r; exact .non
  | bl => intro v r; cases r; exact .bl _
  | int => intro v r; cases r; exact .int _
  | str => intro v r; cases r; exact .str _
  | lst h ih =>
    intro v r
    cases r with
    | lst n e t => exact .lst (.inl (.inl e)) (dpAll_of ih t)
  | tup h ih =>
    intro v r
    cases r with
    | tup n e t => exact .tup (.inl (.inl e)) (dpAll_of ih t)
end
/-- what a result is as data -/
inductive PlR : Nat → Rs → PyData → Prop
  | v {n d} : Pl n d → PlR n (.v d) d.py
  | b {n} {ds : List D} : (∀ d ∈ ds, Pl n d) → PlR (n + 1) (.b ds) (.list (D.pyL ds))
theorem PlR.dp {G : Type} {g : G} {K : PySem.W.Frag} {W : Wd G} {H : Hp} {n : Nat} {r : Rs} {p : PyData} {v : V} (h : PlR n r p) (j : W.J g H) (o : RsOk W H r v) : Dp K H v p ∧ p.plain = true ∧ p.depth ≤ n := by
  cases h with
  | v h =>
    cases o with
    | v o => exact ⟨h.dp v o, h.plain⟩
  | b h =>
    have hl : Pl (_ + 1) (.lst _) := Pl.lst h
    obtain ⟨a, xs, rfl, e, t, _⟩ := LstOf.at .b j o
    exact ⟨.lst (.inl (.inl e)) (dpAll_of (fun d hd v r => (h d hd).dp v r) t), hl.plain⟩
/-! ### == and != of data -/
def rEqP (K : PySem.W.Frag) : R2 := fun x y H Q => ∃ d e, Dp K H x d ∧ Dp K H y e ∧ d.plain = true ∧ e.plain = true ∧ d.depth ≤ 64 ∧ Q (.bl (PyData.eqv d e)) H
def rNeP (K : PySem.W.Frag) : R2 := fun x y H Q => ∃ d e, Dp K H x d ∧ Dp K H y e ∧ d.plain = true ∧ e.plain = true ∧ d.depth ≤ 64 ∧ Q (.bl (!PyData.eqv d e)) H
section
variable {X : Cx}
theorem op_eqP (hu : X.A.units + 64 < cLine) : OpR X (compareOp .Eq) (rEqP X.K) := by
  intro pins s σ H x y v u Q I rx ry h
  obtain ⟨d, e, hd, he, sd, se, dd, q⟩ := h
  obtain ⟨as, r1⟩ := Dp.reads I d x v hd rx
  obtain ⟨bs, r2⟩ := Dp.reads I e y u he ry
  exact SeqAt.eq_plain r1 r2 sd se (by have := Nat.min_le_left d.depth e.depth; omega) ⟨.bl _, H, I, rfl, q⟩
theorem op_neP (hu : X.A.units + 64 < cLine) : OpR X (compareOp .NotEq) (rNeP X.K) := by
  intro pins s σ H x y v u Q I rx ry h
  obtain ⟨d, e, hd, he, sd, se, dd, q⟩ := h
  obtain ⟨as, r1⟩ := Dp.reads I d x v hd rx
  obtain ⟨bs, r2⟩ := Dp.reads I e y u he ry
  exact SeqAt.ne_plain r1 r2 sd se (by have := Nat.min_le_left d.depth e.depth; omega) ⟨.bl _, H, I, rfl, q⟩
end
section
variable {K : PySem.W.Frag} {x y : Rs} {k : Rs → Prop}
theorem p_eqP {p q : PyData} {m n : Nat} (hx : PlR m x p) (hy : PlR n y q) (hm : m ≤ 64) (h : k (.v (.bl (PyData.eqv p q)))) : wp2 (rEqP K) x y k := fun _ W g0 H v u J ox oy Q hq => by
  obtain ⟨h1, h2, h3⟩ := hx.dp (K := K) J ox
  obtain ⟨g1, g2, g3⟩ := hy.dp (K := K) J oy
  exact ⟨p, q, h1, g1, h2, g2, Nat.le_trans h3 hm, hq _ _ H h (Ext.refl J) (.v (.bl _))⟩
theorem p_neP {p q : PyData} {m n : Nat} (hx : PlR m x p) (hy : PlR n y q) (hm : m ≤ 64) (h : k (.v (.bl (!PyData.eqv p q)))) : wp2 (rNeP K) x y k := fun _ W g0 H v u J ox oy Q hq => by
  obtain ⟨h1, h2, h3⟩ := hx.dp (K := K) J ox
  obtain ⟨g1, g2, g3⟩ := hy.dp (K := K) J oy
  exact ⟨p, q, h1, g1, h2, g2, Nat.le_trans h3 hm, hq _ _ H h (Ext.refl J) (.v (.bl _))⟩
end
end TL
set_option Elab.async false
set_option linter.all false
set_option maxRecDepth 100000
namespace TL
open PySem PySem.Spec L2
section
variable {M : Addr → Prop} {H : Hp}
theorem DtL.atI {ds : List D} {xs : List V} {i : Int} {d : D} (h : DtL M H ds xs) (e : L2.atI ds i = some d) : ∃ v, L2.atI xs i = some v ∧ Dt M H d v := by
  unfold L2.atI at e ⊢
  rw [h.length]
  cases q : ixN ds.length i with
  | none => rw [q] at e; cases e
  | some j =>
    rw [q] at e
    exact h.get e
/-- a slice's part -/
def cut (ds : List D) (lo hi : Option Int) : List D := (ds.drop (HT.sIx ds.length 0 lo)).take (HT.sIx ds.length ds.length hi - HT.sIx ds.length 0 lo)
theorem DtL.cut {ds : List D} {xs : List V} (h : DtL M H ds xs) (lo hi : Option Int) : DtL M H (TL.cut ds lo hi) (cutV xs lo hi) := by
  unfold TL.cut cutV
  rw [h.length]
  exact (h.drop _).take _
end
section
variable {X : Cx}
theorem or2 {f : Value → Value → Sem Value} {r r' : R2} (h : OpR X f r) (h' : OpR X f r') : OpR X f (fun x y H Q => r x y H Q ∨ r' x y H Q) := fun pins s σ H x y v u Q I rx ry q => by
  rcases q with q | q
  · exact h pins s σ H x y v u Q I rx ry q
  · exact h' pins s σ H x y v u Q I rx ry q
theorem orSl {r r' : V → Option Int → Option Int → Hp → VK → Prop} (h : SlR X r) (h' : SlR X r') : SlR X (fun x l u H Q => r x l u H Q ∨ r' x l u H Q) := fun pins s σ H x v vl vu lo hi sl Q I rx hs pl pu q => by
  rcases q with q | q
  · exact h pins s σ H x v vl vu lo hi sl Q I rx hs pl pu q
  · exact h' pins s σ H x v vl vu lo hi sl Q I rx hs pl pu q
def rStrCat : R2 := fun x y H Q => ∃ i j, x = .str i ∧ y = .str j ∧ i.length + j.length ≤ sizeLine ∧ Q (.str (i ++ j)) H
/-- + of ints, lists, tuples, texts -/
def rPlus (K : PySem.W.Frag) : R2 := fun x y H Q => (rI0 fun i j => .int (i + j)) x y H Q ∨ rCat x y H Q ∨ rCatA K x y H Q ∨ rStrCat x y H Q
theorem op_plus : OpR X (binaryOp .Add) (rPlus X.K) := or2 op_add (or2 op_cat (or2 op_catA op_add_str))
/-- * of ints, of a list and an int -/
def rStar : R2 := fun x y H Q => (rI CMulW fun i j => .int (i * j)) x y H Q ∨ rRep x y H Q
theorem op_star : OpR X (binaryOp .Mult) rStar := or2 op_mulW op_rep
/-- a slice of a list, of a tuple -/
def rCut (K : PySem.W.Frag) : V → Option Int → Option Int → Hp → VK → Prop := fun x l u H Q => rSlL K x l u H Q ∨ rSlA K x l u H Q
theorem sl_any : SlR X (rCut X.K) := orSl sl_list sl_tupA
/-- ** of whole numbers of any size -/
def CPowW (i j : Int) : Prop := 0 ≤ j ∧ (Builtin.Int.intBits i : Int) * j ≤ 2 ^ 27
theorem op_powW : OpR X (binaryOp .Pow) (rI CPowW fun i j => .int (i ^ j.toNat)) := fun pins s σ H x y v u Q I rx ry h => by
  obtain ⟨i, j, rfl, rfl, c, q⟩ := h
  obtain ⟨t, rfl⟩ := rx
  obtain ⟨t', rfl⟩ := ry
  exact PyProof.Rows.pow_int c.1 c.2 ⟨.int (i ^ j.toNat), H, I.tok _, ⟨_, rfl⟩, q⟩
end

section
variable {G : Type} {g : G} {W : Wd G} {k k' : Rs → Prop} {K : PySem.W.Frag} {r x y : Rs} {ds es : List D} {d : D} {i j n : Int}
theorem SeqOf.at {H : Hp} {v : V} (l : SeqOf r ds) (j : W.J g H) (h : RsOk W H r v) : ∃ a xs, v = .ref a ∧ (SqL K H a xs ∨ SqT K H a xs) ∧ DtL W.M H ds xs := by
  cases l with
  | v => obtain ⟨a, xs, e, p, t, _⟩ := LstOf.v.at j h; exact ⟨a, xs, e, .inl (.inl (.inl p)), t⟩
  | b => obtain ⟨a, xs, e, p, t, _⟩ := LstOf.b.at j h; exact ⟨a, xs, e, .inl (.inl (.inl p)), t⟩
  | t => obtain ⟨a, xs, e, p, t, _⟩ := tup_at h; exact ⟨a, xs, e, .inr (.inl (.inl p)), t⟩
theorem RsL.one {H : Hp} {vs : List V} (h : RsL W H [r] vs) : ∃ v, vs = [v] ∧ RsOk W H r v := by
  cases h with
  | cons h1 h2 => cases h2; exact ⟨_, rfl, h1⟩
theorem RsL.two {H : Hp} {vs : List V} (h : RsL W H [r, x] vs) : ∃ v u, vs = [v, u] ∧ RsOk W H r v ∧ RsOk W H x u := by
  cases h with
  | cons h1 h2 => obtain ⟨u, rfl, h3⟩ := h2.one; exact ⟨_, u, rfl, h1, h3⟩
theorem p_ix (l : SeqOf x ds) (e : L2.atI ds i = some d) (q : k (.v d)) : wp2 (rIx K) x (.v (.int i)) k := fun _ W g0 H v u J ox oy Q hq => by
  rw [v_int oy]
  obtain ⟨a, xs, rfl, s, t⟩ := l.at (K := K) J ox
  obtain ⟨w, e1, h1⟩ := t.atI e
  rcases s with s | s
  · exact .inl ⟨a, xs, i, w, rfl, rfl, s, e1, hq _ _ H q (Ext.refl J) (.v h1)⟩
  · exact .inr (.inl ⟨a, xs, i, w, rfl, rfl, s, e1, hq _ _ H q (Ext.refl J) (.v h1)⟩)
theorem new_lst {H : Hp} {a : Addr} {xs : List V} (J : W.J g H) (e : H a = none) (t : DtL W.M H ds xs) : RsOk W (upd H a (.lst xs)) (.v (.lst ds)) (.ref a) := .v (.lst (J.nn e) upd_same (t.ext (Ext.new J e)))
theorem new_tup {H : Hp} {a : Addr} {xs : List V} (J : W.J g H) (e : H a = none) (t : DtL W.M H ds xs) : RsOk W (upd H a (.tup xs)) (.v (.tup ds)) (.ref a) := .v (.tup (J.nn e) upd_same (t.ext (Ext.new J e)))
theorem p_addI (q : k (.v (.int (i + j)))) : wp2 (rPlus K) (.v (.int i)) (.v (.int j)) k := fun _ W g0 H v u J ox oy Q hq => .inl (p_I0i (g := fun i j => i + j) q _ W g0 H v u J ox oy Q hq)
theorem p_cat (l : LstOf x ds) (m : LstOf y es) (z : ds.length + es.length ≤ 1000000) (q : k (.v (.lst (ds ++ es)))) : wp2 (rPlus K) x y k := fun _ W g0 H v u J ox oy Q hq => by
  obtain ⟨a, xs, rfl, p1, t1, _⟩ := l.at J ox
  obtain ⟨b, ys, rfl, p2, t2, _⟩ := m.at J oy
  refine .inr (.inl ⟨a, b, xs, ys, rfl, rfl, p1, p2, ?_, fun p hp => hq _ _ _ q (Ext.new J hp) (new_lst J hp (t1.append t2))⟩)
  rw [t1.length, t2.length]
  exact Nat.le_trans z (by decide)
theorem p_catT (z : ds.length + es.length ≤ 1000000) (q : k (.v (.tup (ds ++ es)))) : wp2 (rPlus K) (.v (.tup ds)) (.v (.tup es)) k := fun _ W g0 H v u J ox oy Q hq => by
  obtain ⟨a, xs, rfl, p1, t1, _⟩ := tup_at ox
  obtain ⟨b, ys, rfl, p2, t2, _⟩ := tup_at oy
  refine .inr (.inr (.inl ⟨a, b, xs, ys, rfl, rfl, .inl (.inl p1), .inl (.inl p2), ?_, fun h => ?_, fun _ h => ?_, fun _ _ p hp => hq _ _ _ q (Ext.new J hp) (new_tup J hp (t1.append t2))⟩))
  · rw [t1.length, t2.length]; exact Nat.le_trans z (by decide)
  · subst h; cases t1; exact hq _ _ H q (Ext.refl J) oy
  · subst h; cases t2
    rw [List.append_nil] at q
    exact hq _ _ H q (Ext.refl J) ox
theorem p_catS {a b : Str} (z : a.length + b.length ≤ 1000000) (q : k (.v (.str (a ++ b)))) : wp2 (rPlus K) (.v (.str a)) (.v (.str b)) k := fun _ W g0 H v u J ox oy Q hq => by
  rw [v_str ox, v_str oy]
  exact .inr (.inr (.inr ⟨a, b, rfl, rfl, Nat.le_trans z (by decide), hq _ _ H q (Ext.refl J) (.v (.str _))⟩))
theorem p_mulI (c : CMulW i j) (q : k (.v (.int (i * j)))) : wp2 rStar (.v (.int i)) (.v (.int j)) k := fun _ W g0 H v u J ox oy Q hq => .inl (p_Ii (g := fun i j => i * j) c q _ W g0 H v u J ox oy Q hq)
theorem rep_len {α : Type} (l : List α) (n : Nat) : (List.replicate n l).flatten.length = n * l.length := by simp
/-! calls of built-ins -/
def rLen (K : PySem.W.Frag) : List V → Hp → VK → Prop := fun xs H Q => ∃ x n, xs = [x] ∧ LenV K x H n ∧ Q (.int n) H
theorem cr_len {X : Cx} : CallR X (.builtin "len") (rLen X.K) := call_len
theorem c_len (l : SeqOf r ds) (q : k (.v (.int (ds.length : Int)))) : wpC (rLen K) [r] k := fun _ W g0 H vs J oo Q hq => by
  obtain ⟨v, rfl, o⟩ := oo.one
  obtain ⟨a, xs, rfl, s, t⟩ := l.at (K := K) J o
  refine ⟨_, xs.length, rfl, ?_, ?_⟩
  · rcases s with s | s
    · exact .inl ⟨xs, s, rfl⟩
    · exact .inr ⟨xs, s, rfl⟩
  · rw [t.length]; exact hq _ _ H q (Ext.refl J) (.v (.int _))
def rAbs : List V → Hp → VK → Prop := fun xs H Q => ∃ i, xs = [.int i] ∧ Q (.int (if i < 0 then -i else i)) H
theorem cr_abs {X : Cx} : CallR X (.builtin "abs") rAbs := call_abs
theorem c_abs (q : k (.v (.int (if i < 0 then -i else i)))) : wpC rAbs [.v (.int i)] k := fun _ W g0 H vs J oo Q hq => by
  obtain ⟨v, rfl, o⟩ := oo.one
  rw [v_int o]
  exact ⟨i, rfl, hq _ _ H q (Ext.refl J) (.v (.int _))⟩
def rMax2 : List V → Hp → VK → Prop := fun xs H Q => ∃ i j, xs = [.int i, .int j] ∧ Q (.int (if j > i then j else i)) H
def rMin2 : List V → Hp → VK → Prop := fun xs H Q => ∃ i j, xs = [.int i, .int j] ∧ Q (.int (if j < i then j else i)) H
theorem cr_max2 {X : Cx} (hc : X.calm = true) : CallR X (.builtin "max") rMax2 := call_max2 hc
theorem cr_min2 {X : Cx} (hc : X.calm = true) : CallR X (.builtin "min") rMin2 := call_min2 hc
theorem c_max2 (q : k (.v (.int (if j > i then j else i)))) : wpC rMax2 [.v (.int i), .v (.int j)] k := fun _ W g0 H vs J oo Q hq => by
  obtain ⟨v, u, rfl, o1, o2⟩ := oo.two
  rw [v_int o1, v_int o2]
  exact ⟨i, j, rfl, hq _ _ H q (Ext.refl J) (.v (.int _))⟩
theorem c_min2 (q : k (.v (.int (if j < i then j else i)))) : wpC rMin2 [.v (.int i), .v (.int j)] k := fun _ W g0 H vs J oo Q hq => by
  obtain ⟨v, u, rfl, o1, o2⟩ := oo.two
  rw [v_int o1, v_int o2]
  exact ⟨i, j, rfl, hq _ _ H q (Ext.refl J) (.v (.int _))⟩
def rInt : List V → Hp → VK → Prop := fun xs H Q => (∃ i, xs = [.int i] ∧ Q (.int i) H) ∨ ∃ k, xs = [.bl k] ∧ Q (.int (if k then 1 else 0)) H
theorem cr_int {X : Cx} : CallR X (.type "int") rInt := call_int1
theorem c_int (q : k (.v (.int i))) : wpC rInt [.v (.int i)] k := fun _ W g0 H vs J oo Q hq => by
  obtain ⟨v, rfl, o⟩ := oo.one
  rw [v_int o]
  exact .inl ⟨i, rfl, hq _ _ H q (Ext.refl J) (.v (.int _))⟩
theorem c_intB {b : Bool} (q : k (.v (.int (if b then 1 else 0)))) : wpC rInt [.v (.bl b)] k := fun _ W g0 H vs J oo Q hq => by
  obtain ⟨v, rfl, o⟩ := oo.one
  rw [v_bl o]
  exact .inr ⟨b, rfl, hq _ _ H q (Ext.refl J) (.v (.int _))⟩
def rListOf (K : PySem.W.Frag) : List V → Hp → VK → Prop := fun xs H Q => ∃ p ys, xs = [.ref p] ∧ (SqL K H p ys ∨ SqT K H p ys) ∧ ∀ l, H l = none → Q (.ref l) (upd H l (.lst ys))
theorem cr_list {X : Cx} : CallR X (.type "list") (rListOf X.K) := call_list_of
theorem c_list (l : SeqOf r ds) (q : k (.v (.lst ds))) : wpC (rListOf K) [r] k := fun _ W g0 H vs J oo Q hq => by
  obtain ⟨v, rfl, o⟩ := oo.one
  obtain ⟨a, xs, rfl, s, t⟩ := l.at (K := K) J o
  exact ⟨a, xs, rfl, s, fun p hp => hq _ _ _ q (Ext.new J hp) (new_lst J hp t)⟩
def rTupleOf (K : PySem.W.Frag) : List V → Hp → VK → Prop := fun xs H Q => ∃ p ys, xs = [.ref p] ∧ ((SqL K H p ys ∧ ∀ l, H l = none → Q (.ref l) (upd H l (.tup ys))) ∨ (SqT K H p ys ∧ Q (.ref p) H))
theorem cr_tuple {X : Cx} : CallR X (.type "tuple") (rTupleOf X.K) := call_tuple_of
theorem c_tuple (l : LstOf r ds) (q : k (.v (.tup ds))) : wpC (rTupleOf K) [r] k := fun _ W g0 H vs J oo Q hq => by
  obtain ⟨v, rfl, o⟩ := oo.one
  obtain ⟨a, xs, rfl, s, t, _⟩ := l.at J o
  exact ⟨a, xs, rfl, .inl ⟨.inl (.inl s), fun p hp => hq _ _ _ q (Ext.new J hp) (new_tup J hp t)⟩⟩
theorem c_sum {ns : List Int} (l : LstOf r (ns.map D.int)) (q : k (.v (.int ns.sum))) : wpC (rSum K) [r] k := fun _ W g0 H vs J oo Q hq => by
  obtain ⟨v, rfl, o⟩ := oo.one
  obtain ⟨a, xs, rfl, s, t, _⟩ := l.at J o
  rw [t.ints] at s
  exact ⟨a, ns, rfl, .inl (.inl s), hq _ _ H q (Ext.refl J) (.v (.int _))⟩
theorem c_any {bs : List Bool} (l : LstOf r (bs.map D.bl)) (q : k (.v (.bl (bs.any id)))) : wpC (rAny K) [r] k := fun _ W g0 H vs J oo Q hq => by
  obtain ⟨v, rfl, o⟩ := oo.one
  obtain ⟨a, xs, rfl, s, t, _⟩ := l.at J o
  rw [t.bls] at s
  exact ⟨a, bs, rfl, .inl (.inl s), hq _ _ H q (Ext.refl J) (.v (.bl _))⟩
theorem c_all {bs : List Bool} (l : LstOf r (bs.map D.bl)) (q : k (.v (.bl (bs.all id)))) : wpC (rAll K) [r] k := fun _ W g0 H vs J oo Q hq => by
  obtain ⟨v, rfl, o⟩ := oo.one
  obtain ⟨a, xs, rfl, s, t, _⟩ := l.at J o
  rw [t.bls] at s
  exact ⟨a, bs, rfl, .inl (.inl s), hq _ _ H q (Ext.refl J) (.v (.bl _))⟩
theorem c_sorted {ns : List Int} (l : LstOf r (ns.map D.int)) (q : ∀ ns' : List Int, ns'.Perm ns → ns'.Pairwise (· ≤ ·) → k (.v (.lst (ns'.map D.int)))) : wpC (rSortedI K) [r] k := fun _ W g0 H vs J oo Q hq => by
  obtain ⟨v, rfl, o⟩ := oo.one
  obtain ⟨a, xs, rfl, s, t, _⟩ := l.at J o
  rw [t.ints] at s
  exact ⟨a, ns, rfl, .inl (.inl s), fun ns' p h1 h2 hp => hq _ _ _ (q ns' h1 h2) (Ext.new J hp) (new_lst J hp (DtL.ofInts ns'))⟩
/-! is None, is a bool, in -/
def rIsN : R2 := fun x y H Q => y = .non ∧ Q (.bl (decide (x = .non))) H
def rNotN : R2 := fun x y H Q => y = .non ∧ Q (.bl (!decide (x = .non))) H
theorem op_isN' {X : Cx} : OpR X (compareOp .Is) rIsN := op_isN
theorem op_notN' {X : Cx} : OpR X (compareOp .IsNot) rNotN := op_notN
def D.isNon : D → Bool
  | .non => true
  | _ => false
/-- not an unknown value -/
def D.known : D → Bool
  | .raw _ => false
  | .hp _ => false
  | _ => true
theorem isNon_ok {H : Hp} {v : V} (h : d.known = true) (o : RsOk W H (.v d) v) : decide (v = .non) = d.isNon := by
  cases o with
  | v o =>
    cases o with
    | non => rfl
    | raw => cases h
    | hp => cases h
    | _ => exact decide_eq_false (fun z => nomatch z)
theorem p_isN (h : d.known = true) (q : k (.v (.bl d.isNon))) : wp2 rIsN (.v d) (.v .non) k := fun _ W g0 H v u J ox oy Q hq => by
  rw [v_non oy]
  refine ⟨rfl, ?_⟩
  rw [isNon_ok h ox]
  exact hq _ _ H q (Ext.refl J) (.v (.bl _))
theorem p_notN (h : d.known = true) (q : k (.v (.bl (!d.isNon)))) : wp2 rNotN (.v d) (.v .non) k := fun _ W g0 H v u J ox oy Q hq => by
  rw [v_non oy]
  refine ⟨rfl, ?_⟩
  rw [isNon_ok h ox]
  exact hq _ _ H q (Ext.refl J) (.v (.bl _))
theorem p_isB {a b : Bool} (q : k (.v (.bl (decide (a = b))))) : wp2 rIsB (.v (.bl a)) (.v (.bl b)) k := fun _ W g0 H v u J ox oy Q hq => by
  rw [v_bl ox, v_bl oy]
  exact ⟨a, b, rfl, rfl, hq _ _ H q (Ext.refl J) (.v (.bl _))⟩
end
section
variable {G : Type} [Gh G] {g : G} {W : Wd G} {H0 : Hp} {ρ : Rho} {ta tb tc te : TE} {tl th : TO} {tg tr : TA} {k k' : Rs → G → Prop} {K : PySem.W.Frag} {r x y : Rs} {ds es : List D} {d : D} {i j n : Int}
/-! slices -/
def wpO (W : Wd G) (H0 : Hp) (g : G) (ρ : Rho) (t : TO) (k : Option Int → G → Prop) : Prop := ∀ (ps : Pins) (H : Hp) (σ : L2.St), Sta W H0 ps g H σ ρ → ∀ Q : Option Int → Hp → Prop, (∀ o g' H', k o g' → Ext (pinW W ps) H g' H' → Q o H') → t σ H Q
theorem o_no {ko : Option Int → G → Prop} (q : ko none g) : wpO W H0 g ρ tNoPart ko := fun ps H σ S Q hq => hq _ _ H q (Ext.refl S.j)
theorem o_some {ko : Option Int → G → Prop} (h : wpE W H0 g ρ te fun x g1 => ∃ i, x = .v (.int i) ∧ ko (some i) g1) : wpO W H0 g ρ (tPart te) ko := fun ps H σ S Q hq => h ps H σ S _ fun x v g1 H1 kx e1 ox => by
  obtain ⟨i, rfl, q⟩ := kx
  exact ⟨i, v_int ox, hq _ _ H1 q e1⟩
theorem e_sl (h : wpE W H0 g ρ te fun x g1 => wpO W H0 g1 ρ tl fun lo g2 => wpO W H0 g2 ρ th fun hi g3 => (∃ ds, LstOf x ds ∧ k (.v (.lst (cut ds lo hi))) g3) ∨ ∃ ds, x = .v (.tup ds) ∧ k (.v (.tup (cut ds lo hi))) g3) : wpE W H0 g ρ (tSl (rCut K) te tl th) k := fun ps H σ S Q hq =>
  h ps H σ S _ fun x v g1 H1 kx e1 ox => kx ps H1 σ (S.to e1) _ fun lo g2 H2 k2 e2 => k2 ps H2 σ (S.to (e1.trans e2)) _ fun hi g3 H3 k3 e3 => by
    have o3 := (ox.ext e2).ext e3
    have e := (e1.trans e2).trans e3
    rcases k3 with ⟨ds, l, q⟩ | ⟨ds, rfl, q⟩
    · obtain ⟨a, xs, rfl, p1, t1, _⟩ := l.at e3.j o3
      exact .inl ⟨a, xs, rfl, .inl (.inl p1), fun p hp => hq _ _ _ _ q (e.trans (Ext.new e.j hp)) (new_lst e.j hp (t1.cut lo hi))⟩
    · obtain ⟨a, xs, rfl, p1, t1, _⟩ := tup_at o3
      refine .inr ⟨a, xs, rfl, .inl (.inl p1), fun h => ?_, fun _ p hp => hq _ _ _ _ q (e.trans (Ext.new e.j hp)) (new_tup e.j hp (t1.cut lo hi))⟩
      have : cut ds lo hi = ds := by
        unfold cut
        rw [← t1.length, h.1, h.2, t1.length]
        rw [List.drop_zero, Nat.sub_zero, List.take_length]
      rw [this] at q
      exact hq _ _ _ _ q e o3
/-! attributes of instances -/
theorem e_fld {f : Str} (h : wpE W H0 g ρ te fun x g1 => ∃ C fs d, x = .v (.ins C fs) ∧ Cls K C ∧ NoAttr K C f ∧ fs.lookup f = some d ∧ k (.v d) g1) : wpE W H0 g ρ (tFld K te f) k := fun ps H σ S Q hq => h ps H σ S _ fun x v g1 H1 kx e1 ox => by
  obtain ⟨C, fs, d, rfl, c, n, l, q⟩ := kx
  cases ox with
  | v ox =>
    cases ox with
    | ins m e t =>
      obtain ⟨w, l2, h2⟩ := t.lookup l
      exact ⟨_, C, _, _, w, rfl, e, c, n, l2, hq _ _ _ H1 q e1 (.v h2)⟩
end
end TL
set_option Elab.async false
set_option linter.all false
set_option maxRecDepth 100000
namespace TL
open PySem PySem.Spec L2
/-! ### statements over trees -/
structure TK (G : Type) where
  nx : Rho → G → Prop
  rt : D → G → Prop
  bk : Rho → G → Prop
  ct : Rho → G → Prop
variable {G : Type} [Gh G]
structure KOk (K : TK G) (W : Wd G) (H0 : Hp) (ps : Pins) (H : Hp) (De : Ends) : Prop where
  nx : ∀ ps' g' H' σ' ρ', K.nx ρ' g' → Sta W H0 ps' g' H' σ' ρ' → Nxt W ps H ps' H' → De.nx σ' H'
  rt : ∀ d v g' H', K.rt d g' → Ext W H0 g' H' → Dt W.M H' d v → De.rt v H'
  bk : ∀ ps' g' H' σ' ρ', K.bk ρ' g' → Sta W H0 ps' g' H' σ' ρ' → Nxt W ps H ps' H' → De.bk σ' H'
  ct : ∀ ps' g' H' σ' ρ', K.ct ρ' g' → Sta W H0 ps' g' H' σ' ρ' → Nxt W ps H ps' H' → De.ct σ' H'
def wpS (W : Wd G) (H0 : Hp) (g : G) (ρ : Rho) (t : TS) (K : TK G) : Prop := ∀ (ps : Pins) (H : Hp) (σ : L2.St) (De : Ends), Sta W H0 ps g H σ ρ → KOk K W H0 ps H De → t De σ H
def wpG (W : Wd G) (H0 : Hp) (g : G) (ρ : Rho) (gt : TG) (d : D) (k : Rho → Prop) : Prop := ∀ (ps : Pins) (H : Hp) (σ : L2.St) (v : V), Sta W H0 ps g H σ ρ → Dt (pinW W ps).M H d v → ∀ Q : L2.St → Hp → Prop, (∀ ρ' σ', k ρ' → Sta W H0 ps g H σ' ρ' → Q σ' H) → gt v σ H Q
section
variable {W : Wd G} {g g1 g2 : G} {H0 H H1 H2 : Hp} {ρ ρ' : Rho} {ps ps1 ps2 : Pins} {σ : L2.St} {ta tb te : TE} {t u w : TS} {tt : TT} {tg tr : TA} {K : TK G} {gt : TG} {wi : TI} {F : PySem.W.Frag} {ds es : List D} {d : D} {i j : Nat}
theorem Nxt.dt {d : D} {v : V} (n : Nxt W ps H ps1 H1) (h : Dt (pinW W ps).M H d v) : Dt (pinW W ps1).M H1 d v := Dt.mono (fun a o m e => ⟨fun q => by
  obtain ⟨u, w, ⟨q', q, _⟩ | q⟩ := q
  · rcases n.pins _ q with ⟨o', q'⟩ | q'
    · exact m (pin_in q')
    · rw [q'] at e; cases e
  · exact m ⟨u, w, .inr q⟩, n.keep a o m e⟩) d v h
theorem Nxt.dtL {d : List D} {v : List V} (n : Nxt W ps H ps1 H1) (h : DtL (pinW W ps).M H d v) : DtL (pinW W ps1).M H1 d v := DtL.mono (fun a o m e => ⟨fun q => by
  obtain ⟨u, w, ⟨q', q, _⟩ | q⟩ := q
  · rcases n.pins _ q with ⟨o', q'⟩ | q'
    · exact m (pin_in q')
    · rw [q'] at e; cases e
  · exact m ⟨u, w, .inr q⟩, n.keep a o m e⟩) d v h
theorem Dt.base {d : D} {v : V} (h : Dt (pinW W ps).M H d v) : Dt W.M H d v := Dt.mono (fun a o m e => ⟨fun q => m (pin_m q), e⟩) d v h
theorem KOk.after {De : Ends} (k : KOk K W H0 ps H De) (n : Nxt W ps H ps1 H1) (j : (pinW W ps1).J g1 H1) : KOk K W H0 ps1 H1 De :=
  ⟨fun ps' g' H' σ' ρ' q S m => k.nx ps' g' H' σ' ρ' q S (n.trans m j), k.rt, fun ps' g' H' σ' ρ' q S m => k.bk ps' g' H' σ' ρ' q S (n.trans m j), fun ps' g' H' σ' ρ' q S m => k.ct ps' g' H' σ' ρ' q S (n.trans m j)⟩
theorem s_seq (h : wpS W H0 g ρ t { K with nx := fun ρ' g' => wpS W H0 g' ρ' u K }) : wpS W H0 g ρ (tSeq t u) K := fun ps H σ De S k =>
  h ps H σ { De with nx := u De } S ⟨fun ps' g' H' σ' ρ' q S' n => q ps' H' σ' De S' (k.after n S'.j), k.rt, k.bk, k.ct⟩
theorem s_up (u : Up W) {g' : G} (l : Gh.le g g') (h : wpS W H0 g' ρ t K) : wpS W H0 g ρ t K := fun ps H σ De S k => h ps H σ De (S.up u l) k
theorem s_next (h : K.nx ρ g) : wpS W H0 g ρ tNext K := fun ps H σ De S k => k.nx ps g H σ ρ h S Nxt.refl
theorem s_brk (h : K.bk ρ g) : wpS W H0 g ρ tBreak K := fun ps H σ De S k => k.bk ps g H σ ρ h S Nxt.refl
theorem s_cont (h : K.ct ρ g) : wpS W H0 g ρ tCont K := fun ps H σ De S k => k.ct ps g H σ ρ h S Nxt.refl
theorem s_asgG (h : wpE W H0 g ρ te fun r g1 => ∃ d, r = .v d ∧ wpG W H0 g1 ρ gt d fun ρ' => K.nx ρ' g1) : wpS W H0 g ρ (tAsg te gt) K := fun ps H σ De S k =>
  h ps H σ S _ fun r v g1 H1 q e o => by
    obtain ⟨d, rfl, q⟩ := q
    cases o with
    | v o => exact q ps H1 σ v (S.to e) o _ fun ρ' σ' hk S' => k.nx ps g1 H1 σ' ρ' hk S' (Nxt.of e)
theorem g_name {k : Rho → Prop} (h : k (ρ.set i (.v d))) : wpG W H0 g ρ (gName i) d k := fun ps H σ v S o Q hq => hq _ _ h (S.set o)
theorem s_asg (h : wpE W H0 g ρ te fun r g1 => ∃ d, r = .v d ∧ K.nx (ρ.set i (.v d)) g1) : wpS W H0 g ρ (tAsg te (gName i)) K := s_asgG (h.mono fun r g' ⟨d, e, q⟩ => ⟨d, e, g_name q⟩)
/-- a, b (, ..) = a tuple -/
theorem g_tup2 {k : Rho → Prop} {a b : D} (h : k ((ρ.set i (.v a)).set j (.v b))) : wpG W H0 g ρ (gTup F 2 (gCons (gName i) (gCons (gName j) gNil))) (.tup [a, b]) k := fun ps H σ v S o Q hq => by
  obtain ⟨p, xs, rfl, e, t, _⟩ := tup_at (.v o)
  cases t with
  | cons h1 t =>
    cases t with
    | cons h2 t =>
      cases t
      exact ⟨p, _, rfl, .inl (.inl e), rfl, _, _, rfl, _, _, rfl, rfl, hq _ _ h ((S.set h1).set h2)⟩
theorem g_tup3 {k : Rho → Prop} {a b c : D} {l : Nat} (h : k (((ρ.set i (.v a)).set j (.v b)).set l (.v c))) : wpG W H0 g ρ (gTup F 3 (gCons (gName i) (gCons (gName j) (gCons (gName l) gNil)))) (.tup [a, b, c]) k := fun ps H σ v S o Q hq => by
  obtain ⟨p, xs, rfl, e, t, _⟩ := tup_at (.v o)
  cases t with
  | cons h1 t =>
    cases t with
    | cons h2 t =>
      cases t with
      | cons h3 t =>
        cases t
        exact ⟨p, _, rfl, .inl (.inl e), rfl, _, _, rfl, _, _, rfl, _, _, rfl, rfl, hq _ _ h (((S.set h1).set h2).set h3)⟩
theorem s_par (h : wpA W H0 g ρ tg fun rs g1 => ∃ a b, rs = [.v a, .v b] ∧ K.nx ((ρ.set i (.v a)).set j (.v b)) g1) : wpS W H0 g ρ (tPar i j tg) K := fun ps H σ De S k =>
  h ps H σ S _ fun rs vs g1 H1 q e o => by
    obtain ⟨a, b, rfl, q⟩ := q
    obtain ⟨v, u, rfl, o1, o2⟩ := o.two
    cases o1 with
    | v o1 =>
      cases o2 with
      | v o2 => exact ⟨v, u, rfl, k.nx ps g1 H1 _ _ q (((S.to e).set o1).set o2) (Nxt.of e)⟩
theorem s_ret (h : wpE W H0 g ρ te fun r g1 => ∃ d, r = .v d ∧ K.rt d g1) : wpS W H0 g ρ (tRet te) K := fun ps H σ De S k =>
  h ps H σ S _ fun r v g1 H1 q e o => by
    obtain ⟨d, rfl, q⟩ := q
    cases o with
    | v o => exact k.rt d v g1 H1 q (S.to e).base o.base
theorem s_retU (u : Up W) (h : wpE W H0 g ρ te fun r g1 => ∃ d, r = .v d ∧ ∃ g2, Gh.le g1 g2 ∧ K.rt d g2) : wpS W H0 g ρ (tRet te) K := s_ret (e_upK u (h.mono fun r g1 ⟨d, e, g2, l, q⟩ => ⟨g2, l, d, e, q⟩))
theorem s_retN (h : K.rt .non g) : wpS W H0 g ρ tRetN K := fun ps H σ De S k => k.rt .non .non g H h S.base .non
theorem s_drop (h : wpE W H0 g ρ te fun _ g1 => K.nx ρ g1) : wpS W H0 g ρ (tDrop te) K := fun ps H σ De S k =>
  h ps H σ S _ fun r v g1 H1 q e o => k.nx ps g1 H1 σ ρ q (S.to e) (Nxt.of e)
theorem s_if (h : wpT W H0 g ρ tt fun b g1 => (b = true → wpS W H0 g1 ρ t K) ∧ (b = false → wpS W H0 g1 ρ u K)) : wpS W H0 g ρ (tIfS tt t u) K := fun ps H σ De S k =>
  h ps H σ S _ fun b g1 H1 q e => by
    cases b with
    | true => exact q.1 rfl ps H1 σ De (S.to e) (k.after (Nxt.of e) e.j)
    | false => exact q.2 rfl ps H1 σ De (S.to e) (k.after (Nxt.of e) e.j)
theorem wpS.mono {K' : TK G} (h : wpS W H0 g ρ t K) (h1 : ∀ ρ g, K.nx ρ g → K'.nx ρ g) (h2 : ∀ d g, K.rt d g → K'.rt d g) (h3 : ∀ ρ g, K.bk ρ g → K'.bk ρ g) (h4 : ∀ ρ g, K.ct ρ g → K'.ct ρ g) : wpS W H0 g ρ t K' := fun ps H σ De S k =>
  h ps H σ De S ⟨fun a g b c d q => k.nx a g b c d (h1 _ _ q), fun a b g c q => k.rt a b g c (h2 _ _ q), fun a g b c d q => k.bk a g b c d (h3 _ _ q), fun a g b c d q => k.ct a g b c d (h4 _ _ q)⟩
/-! ### what is walked -/
structure IterOk (W : Wd G) (ps : Pins) (H : Hp) (J : It) (ds : List D) : Prop where
  go : ∀ ps' g' H', Nxt W ps H ps' H' → (pinW W ps').J g' H' → ∀ i d, ds[i]? = some d → J.go i H' ∧ ∀ x H2, J.yld i H' x H2 → Ext (pinW W ps') H' g' H2 ∧ Dt (pinW W ps').M H2 d x
  stop : ∀ ps' g' H', Nxt W ps H ps' H' → (pinW W ps').J g' H' → J.stop ds.length H'
def wpI (W : Wd G) (H0 : Hp) (g : G) (ρ : Rho) (wi : TI) (k : List D → G → Prop) : Prop := ∀ (ps : Pins) (H : Hp) (σ : L2.St), Sta W H0 ps g H σ ρ → ∀ R : It → Hp → Prop, (∀ ds J g' H', k ds g' → Ext (pinW W ps) H g' H' → IterOk W ps H' J ds → R J H') → wi σ H R
theorem i_list {k : List D → G → Prop} (h : wpE W H0 g ρ te fun r g1 => ∃ ds, r = .v (.lst ds) ∧ k ds g1) : wpI W H0 g ρ (iList F te) k := fun ps H σ S R hR => h ps H σ S _ fun r v g1 H1 q e o => by
  obtain ⟨ds, rfl, q⟩ := q
  cases o with
  | v o =>
    cases o with
    | @lst a xs _ m p t =>
      refine ⟨a, rfl, ⟨xs, .inl (.inl p)⟩, hR ds _ _ H1 q e ⟨fun ps' _ H' n j i d hd => ?_, fun ps' _ H' n j => ?_⟩⟩
      · have p' := n.keep a _ m p
        obtain ⟨w, hw, r⟩ := (n.dtL t).get hd
        refine ⟨⟨xs, w, .inl (.inl p'), hw⟩, fun x H2 y => ?_⟩
        obtain ⟨rfl, y⟩ := y
        have hx := y xs (.inl (.inl p'))
        rw [hw] at hx
        cases hx
        exact ⟨Ext.refl j, r⟩
      · exact ⟨xs, .inl (.inl (n.keep a _ m p)), by rw [t.length]; exact Nat.le_refl _⟩
theorem i_tup {k : List D → G → Prop} (h : wpE W H0 g ρ te fun r g1 => ∃ ds, r = .v (.tup ds) ∧ k ds g1) : wpI W H0 g ρ (iTup F te) k := fun ps H σ S R hR => h ps H σ S _ fun r v g1 H1 q e o => by
  obtain ⟨ds, rfl, q⟩ := q
  cases o with
  | v o =>
    cases o with
    | @tup a xs _ m p t =>
      refine ⟨a, rfl, ⟨xs, .inl (.inl p)⟩, hR ds _ _ H1 q e ⟨fun ps' _ H' n j i d hd => ?_, fun ps' _ H' n j => ?_⟩⟩
      · have p' := n.keep a _ m p
        obtain ⟨w, hw, r⟩ := (n.dtL t).get hd
        refine ⟨⟨xs, w, .inl (.inl p'), hw⟩, fun x H2 y => ?_⟩
        obtain ⟨rfl, y⟩ := y
        have hx := y xs (.inl (.inl p'))
        rw [hw] at hx
        cases hx
        exact ⟨Ext.refl j, r⟩
      · exact ⟨xs, .inl (.inl (n.keep a _ m p)), by rw [t.length]; exact Nat.le_refl _⟩
/-- lo, lo + 1, .. -/
def irs (lo : Int) (n : Nat) : List D := (List.range n).map fun (i : Nat) => D.int (lo + (i : Int))
theorem irs_len (lo : Int) (n : Nat) : (irs lo n).length = n := by unfold irs; rw [List.length_map, List.length_range]
theorem irs_get {lo : Int} {n i : Nat} {d : D} (h : (irs lo n)[i]? = some d) : i < n ∧ d = .int (lo + (i : Int)) := by
  unfold irs at h
  rw [List.getElem?_map] at h
  by_cases hi : i < n
  · rw [List.getElem?_range hi] at h
    exact ⟨hi, (Option.some.inj h).symm⟩
  · rw [List.getElem?_eq_none (by rw [List.length_range]; omega)] at h; cases h
theorem iter_range {lo : Int} {n : Nat} : IterOk W ps H (Itr lo n) (irs lo n) := ⟨fun ps' _ H' _ j i d hd => by
  obtain ⟨hi, rfl⟩ := irs_get hd
  exact ⟨hi, fun x H2 y => by obtain ⟨rfl, rfl⟩ := y; exact ⟨Ext.refl j, .int _⟩⟩, fun ps' _ H' _ j => by rw [irs_len]; exact Nat.le_refl _⟩
theorem i_rng1 {k : List D → G → Prop} (h : wpA W H0 g ρ tg fun rs g1 => ∃ n : Int, rs = [.v (.int n)] ∧ -1000000000 ≤ n ∧ n ≤ 1000000000 ∧ k (irs 0 n.toNat) g1) : wpI W H0 g ρ (iRng1 tg) k := fun ps H σ S R hR => h ps H σ S _ fun rs vs g1 H1 q e o => by
  obtain ⟨n, rfl, l1, l2, q⟩ := q
  obtain ⟨v, rfl, o1⟩ := o.one
  exact ⟨n, by rw [v_int o1], by omega, by omega, hR _ _ _ H1 q e iter_range⟩
theorem i_rng2 {k : List D → G → Prop} (h : wpA W H0 g ρ tg fun rs g1 => ∃ m n : Int, rs = [.v (.int m), .v (.int n)] ∧ -1000000000 ≤ m ∧ m ≤ 1000000000 ∧ -1000000000 ≤ n ∧ n ≤ 1000000000 ∧ k (irs m (n - m).toNat) g1) : wpI W H0 g ρ (iRng2 tg) k := fun ps H σ S R hR => h ps H σ S _ fun rs vs g1 H1 q e o => by
  obtain ⟨m, n, rfl, l1, l2, l3, l4, q⟩ := q
  obtain ⟨v, u, rfl, o1, o2⟩ := o.two
  exact ⟨m, n, by rw [v_int o1, v_int o2], ⟨by omega, by omega, by omega, by omega⟩, hR _ _ _ H1 q e iter_range⟩
/-- lo, lo + c, .. -/
def intsC (lo c : Int) (n : Nat) : List D := (List.range n).map fun (i : Nat) => D.int (lo + (i : Int) * c)
theorem intsC_len (lo c : Int) (n : Nat) : (intsC lo c n).length = n := by unfold intsC; rw [List.length_map, List.length_range]
theorem intsC_get {lo c : Int} {n i : Nat} {d : D} (h : (intsC lo c n)[i]? = some d) : i < n ∧ d = .int (lo + (i : Int) * c) := by
  unfold intsC at h
  rw [List.getElem?_map] at h
  by_cases hi : i < n
  · rw [List.getElem?_range hi] at h
    exact ⟨hi, (Option.some.inj h).symm⟩
  · rw [List.getElem?_eq_none (by rw [List.length_range]; omega)] at h; cases h
theorem RsL.three {r x y : Rs} {H : Hp} {vs : List V} (h : RsL W H [r, x, y] vs) : ∃ v u w, vs = [v, u, w] ∧ RsOk W H r v ∧ RsOk W H x u ∧ RsOk W H y w := by
  cases h with
  | cons h1 h2 => obtain ⟨u, w, rfl, h3, h4⟩ := h2.two; exact ⟨_, u, w, rfl, h1, h3, h4⟩
theorem i_rng3 {k : List D → G → Prop} (h : wpA W H0 g ρ tg fun rs g1 => ∃ (m n c : Int) (z : Nat), rs = [.v (.int m), .v (.int n), .v (.int c)] ∧ RgC m n c z ∧ k (intsC m c z) g1) : wpI W H0 g ρ (iRng3 tg) k := fun ps H σ S R hR => h ps H σ S _ fun rs vs g1 H1 q e o => by
  obtain ⟨m, n, c, z, rfl, l1, q⟩ := q
  obtain ⟨v, u, w, rfl, o1, o2, o3⟩ := o.three
  refine ⟨m, n, c, z, by rw [v_int o1, v_int o2, v_int o3], l1, hR _ _ _ H1 q e ⟨fun ps' _ H' _ j i d hd => ?_, fun ps' _ H' _ j => by rw [intsC_len]; exact Nat.le_refl _⟩⟩
  obtain ⟨hi, rfl⟩ := intsC_get hd
  exact ⟨hi, fun x H2 y => by obtain ⟨rfl, rfl⟩ := y; exact ⟨Ext.refl j, .int _⟩⟩
/-- pairs of two lists' items -/
def pairs : List D → List D → List D
  | a :: as, b :: bs => .tup [a, b] :: pairs as bs
  | _, _ => []
theorem pairs_get : ∀ {as bs : List D} {i : Nat} {d : D}, (pairs as bs)[i]? = some d → ∃ a b, as[i]? = some a ∧ bs[i]? = some b ∧ d = .tup [a, b]
  | [], _, _, _, h => by simp [pairs] at h
  | _ :: _, [], _, _, h => by simp [pairs] at h
  | a :: as, b :: bs, 0, d, h => ⟨a, b, rfl, rfl, (Option.some.inj h).symm⟩
  | a :: as, b :: bs, i + 1, d, h => by
    have h' : (pairs as bs)[i]? = some d := by simpa [pairs] using h
    obtain ⟨x, y, h1, h2, h3⟩ := pairs_get h'
    exact ⟨x, y, by simpa using h1, by simpa using h2, h3⟩
theorem pairs_len : ∀ (as bs : List D), (pairs as bs).length = min as.length bs.length
  | [], _ => by simp [pairs]
  | _ :: _, [] => by simp [pairs]
  | a :: as, b :: bs => by simp only [pairs, List.length_cons]; rw [pairs_len as bs]; omega
theorem i_zip {k : List D → G → Prop} (h : wpA W H0 g ρ tg fun rs g1 => ∃ ds es : List D, rs = [.v (.lst ds), .v (.lst es)] ∧ k (pairs ds es) g1) : wpI W H0 g ρ (iZip F tg) k := fun ps H σ S R hR => h ps H σ S _ fun rs vs g1 H1 q e o => by
  obtain ⟨ds, es, rfl, q⟩ := q
  obtain ⟨v, u, rfl, o1, o2⟩ := o.two
  cases o1 with
  | v o1 =>
    cases o2 with
    | v o2 =>
      cases o1 with
      | @lst a xs _ m p t =>
        cases o2 with
        | @lst b ys _ m' p' t' =>
          refine ⟨a, b, xs, ys, rfl, .inl (.inl p), .inl (.inl p'), hR _ _ _ H1 q e ⟨fun ps' _ H' n j i d hd => ?_, fun ps' _ H' n j => ?_⟩⟩
          · obtain ⟨x, y, hx, hy, rfl⟩ := pairs_get hd
            have pa := n.keep a _ m p
            have pb := n.keep b _ m' p'
            obtain ⟨w, hw, r⟩ := (n.dtL t).get hx
            obtain ⟨w', hw', r'⟩ := (n.dtL t').get hy
            refine ⟨⟨xs, ys, w, w', .inl (.inl pa), .inl (.inl pb), hw, hw'⟩, fun z H2 yl => ?_⟩
            obtain ⟨T, x1, y1, rfl, hT, rfl, q1, q2⟩ := yl
            have e1 := q1 xs (.inl (.inl pa))
            have e2 := q2 ys (.inl (.inl pb))
            rw [hw] at e1
            rw [hw'] at e2
            cases e1
            cases e2
            have ex := Ext.new (W := pinW W ps') (o := .tup [w, w']) j hT
            exact ⟨ex, .tup (j.nn hT) upd_same (.cons (r.ext ex) (.cons (r'.ext ex) .nil))⟩
          · refine ⟨xs, ys, .inl (.inl (n.keep a _ m p)), .inl (.inl (n.keep b _ m' p')), ?_⟩
            rw [t.length, t'.length, pairs_len]
            omega
theorem i_revV {k : List D → G → Prop} (h : wpA W H0 g ρ tg fun rs g1 => ∃ ds : List D, rs = [.v (.lst ds)] ∧ k ds.reverse g1) : wpI W H0 g ρ (iRev F tg) k := fun ps H σ S R hR => h ps H σ S _ fun rs vs g1 H1 q e o => by
  obtain ⟨ds, rfl, q⟩ := q
  obtain ⟨v, rfl, o1⟩ := o.one
  cases o1 with
  | v o1 =>
    cases o1 with
    | @lst a xs _ m p t =>
      refine ⟨a, xs, rfl, .inl (.inl p), hR _ _ _ H1 q e ⟨fun ps' _ H' n j i d hd => ?_, fun ps' _ H' n j => ?_⟩⟩
      · have p' := n.keep a _ m p
        have hi : i < ds.length := by
          have := (List.getElem?_eq_some_iff.mp hd).1
          rw [List.length_reverse] at this
          exact this
        have hd' : ds[xs.length - 1 - i]? = some d := by
          rw [List.getElem?_reverse hi] at hd
          rw [t.length]
          exact hd
        obtain ⟨w, hw, r⟩ := (n.dtL t).get hd'
        refine ⟨⟨by rw [t.length]; exact hi, xs, w, .inl (.inl p'), hw⟩, fun x H2 y => ?_⟩
        obtain ⟨rfl, y⟩ := y
        have hx := y xs (.inl (.inl p'))
        rw [hw] at hx
        cases hx
        exact ⟨Ext.refl j, r⟩
      · rw [List.length_reverse]
        exact Nat.le_of_eq t.length
theorem s_for (h : wpI W H0 g ρ wi fun ds g1 => ∃ I : Nat → Rho → G → Prop, I 0 ρ g1 ∧ (∀ i d ρ' g', ds[i]? = some d → I i ρ' g' → wpG W H0 g' ρ' gt d fun ρ2 => wpS W H0 g' ρ2 t ⟨I (i + 1), K.rt, K.nx, I (i + 1)⟩) ∧ ∀ ρ' g', I ds.length ρ' g' → K.nx ρ' g') : wpS W H0 g ρ (tFor wi gt t) K := fun ps H σ De S k =>
  h ps H σ S _ fun ds J g1 H1 q e it => by
    obtain ⟨I, i0, turn, fin⟩ := q
    have S1 := S.to e
    have k1 := k.after (Nxt.of e) e.j
    refine ⟨fun i m σ' H' => m = ds.length - i ∧ i ≤ ds.length ∧ ∃ ps' ρ' g', I i ρ' g' ∧ Sta W H0 ps' g' H' σ' ρ' ∧ Nxt W ps H1 ps' H', ⟨ds.length, rfl, Nat.zero_le _, ps, ρ, g1, i0, S1, Nxt.refl⟩, ?_⟩
    rintro i m σ' H' ⟨rfl, hi, ps', ρ', g', hI, S', n⟩
    by_cases hlt : i < ds.length
    · obtain ⟨hgo, hy⟩ := it.go ps' g' H' n S'.j i _ (List.getElem?_eq_getElem hlt)
      refine .inr ⟨hgo, fun σ2 H2 => ∃ ps2 ρ2 g2, I (i + 1) ρ2 g2 ∧ Sta W H0 ps2 g2 H2 σ2 ρ2 ∧ Nxt W ps H1 ps2 H2, fun σ2 H2 ⟨ps2, ρ2, g2, q2, S2, n2⟩ => ⟨ds.length - (i + 1), by omega, rfl, hlt, ps2, ρ2, g2, q2, S2, n2⟩, fun x H2 y => ?_⟩
      obtain ⟨ex, dx⟩ := hy x H2 y
      have n2 := n.trans (Nxt.of ex) S'.j
      refine turn i _ ρ' g' (List.getElem?_eq_getElem hlt) hI ps' H2 σ' x (S'.to ex) dx _ fun ρ3 σ3 w3 S3 => ?_
      refine w3 ps' H2 σ3 _ S3 ⟨fun ps4 g4 H4 σ4 ρ4 q4 S4 n4 => ⟨ps4, ρ4, g4, q4, S4, n2.trans n4 S3.j⟩, k1.rt, fun ps4 g4 H4 σ4 ρ4 q4 S4 n4 => k1.nx ps4 g4 H4 σ4 ρ4 q4 S4 (n2.trans n4 S3.j), fun ps4 g4 H4 σ4 ρ4 q4 S4 n4 => ⟨ps4, ρ4, g4, q4, S4, n2.trans n4 S3.j⟩⟩
    · have he : i = ds.length := by omega
      subst he
      exact .inl ⟨it.stop ps' g' H' n S'.j, k1.nx ps' g' H' σ' ρ' (fin ρ' g' hI) S' n⟩
/-- while: I by a measure -/
theorem s_while (I : Nat → Rho → G → Prop) (m0 : Nat) (h0 : I m0 ρ g) (h : ∀ m ρ' g', I m ρ' g' → wpT W H0 g' ρ' tt fun b g1 => (b = true → wpS W H0 g1 ρ' t ⟨fun ρ2 g2 => ∃ m', m' < m ∧ I m' ρ2 g2, K.rt, K.nx, fun ρ2 g2 => ∃ m', m' < m ∧ I m' ρ2 g2⟩) ∧ (b = false → K.nx ρ' g1)) : wpS W H0 g ρ (tWhile tt t) K := fun ps H σ De S k => by
  refine ⟨fun m σ' H' => ∃ ps' ρ' g', I m ρ' g' ∧ Sta W H0 ps' g' H' σ' ρ' ∧ Nxt W ps H ps' H', ⟨m0, ps, ρ, g, h0, S, Nxt.refl⟩, ?_⟩
  rintro m σ' H' ⟨ps', ρ', g', hI, S', n⟩
  refine h m ρ' g' hI ps' H' σ' S' _ fun b g1 H2 q e => ?_
  have n2 := n.trans (Nxt.of e) S'.j
  cases b with
  | true =>
    refine ⟨fun σ2 H3 => ∃ m', m' < m ∧ ∃ ps2 ρ2 g2, I m' ρ2 g2 ∧ Sta W H0 ps2 g2 H3 σ2 ρ2 ∧ Nxt W ps H ps2 H3, fun σ2 H3 ⟨m', l, z⟩ => ⟨m', l, z⟩, ?_⟩
    exact q.1 rfl ps' H2 σ' _ (S'.to e) ⟨fun ps4 g4 H4 σ4 ρ4 ⟨m', l, q4⟩ S4 n4 => ⟨m', l, ps4, ρ4, g4, q4, S4, n2.trans n4 e.j⟩, k.rt, fun ps4 g4 H4 σ4 ρ4 q4 S4 n4 => k.nx ps4 g4 H4 σ4 ρ4 q4 S4 (n2.trans n4 e.j), fun ps4 g4 H4 σ4 ρ4 ⟨m', l, q4⟩ S4 n4 => ⟨m', l, ps4, ρ4, g4, q4, S4, n2.trans n4 e.j⟩⟩
  | false => exact k.nx ps' g1 H2 σ' ρ' (q.2 rfl) (S'.to e) n2
end
end TL
set_option Elab.async false
set_option linter.all false
set_option maxRecDepth 100000
namespace TL
open PySem PySem.Spec L2
/-! ### own objects: made, changed, shared -/
def repl (ps : Pins) (a : Addr) (o : Option HO) : Pins := ps.map fun p => if p.1 = a then (a, o) else p
def drp (ps : Pins) (a : Addr) : Pins := ps.filter fun p => decide (p.1 ≠ a)
theorem mem_repl {ps : Pins} {a b : Addr} {o u : Option HO} : (b, u) ∈ repl ps a o ↔ (b ≠ a ∧ (b, u) ∈ ps) ∨ (b = a ∧ u = o ∧ ∃ o', (a, o') ∈ ps) := by
  unfold repl
  rw [List.mem_map]
  constructor
  · rintro ⟨⟨c, w⟩, hm, e⟩
    by_cases h : c = a
    · subst h
      rw [if_pos rfl] at e
      cases e
      exact .inr ⟨rfl, rfl, w, hm⟩
    · rw [if_neg h] at e
      cases e
      exact .inl ⟨h, hm⟩
  · rintro (⟨h, hm⟩ | ⟨rfl, rfl, o', hm⟩)
    · exact ⟨(b, u), hm, if_neg h⟩
    · exact ⟨_, hm, if_pos rfl⟩
theorem mem_drp {ps : Pins} {a b : Addr} {u : Option HO} : (b, u) ∈ drp ps a ↔ b ≠ a ∧ (b, u) ∈ ps := by
  unfold drp
  rw [List.mem_filter]
  constructor
  · rintro ⟨h1, h2⟩
    exact ⟨of_decide_eq_true h2, h1⟩
  · rintro ⟨h1, h2⟩
    exact ⟨h2, decide_eq_true h1⟩
theorem nd_repl {a : Addr} {o : Option HO} : ∀ {ps : Pins}, (ps.map (·.1)).Nodup → ((repl ps a o).map (·.1)).Nodup := fun {ps} h => by
  have e : (repl ps a o).map (·.1) = ps.map (·.1) := by
    unfold repl
    rw [List.map_map]
    refine List.map_congr_left fun p _ => ?_
    show (if p.1 = a then (a, o) else p).1 = p.1
    by_cases h : p.1 = a
    · rw [if_pos h]; exact h.symm
    · rw [if_neg h]
  rw [e]; exact h
theorem nd_drp {a : Addr} {ps : Pins} (h : (ps.map (·.1)).Nodup) : ((drp ps a).map (·.1)).Nodup := h.sublist (List.filter_sublist.map _)
section
variable {G : Type} [Gh G] {W : Wd G} {g g1 g2 : G} {H0 H H1 H' : Hp} {ρ ρ' : Rho} {ps ps' : Pins} {σ : L2.St} {a : Addr} {o o' : Option HO} {ob : HO}
/-- two sets of own objects that agree at b -/
theorem SlOk.move {s : Sl} {v : Option V} (h : SlOk (pinW W ps) H s v) (n : Nxt W ps H ps' H') (j : (pinW W ps).J g H)
    (same : ∀ b, (pinW W ps).M b → v = some (.ref b) → (s.own = true ∨ ∃ ds, s = .r (.b ds)) → ∀ g u, (pinW W ps') g b u ↔ (pinW W ps) g b u) : SlOk (pinW W ps') H' s v := by
  cases s with
  | un => trivial
  | tp p => exact h
  | r r =>
    obtain ⟨w, rfl, h⟩ := h
    cases h with
    | v h => exact ⟨w, rfl, .v (n.dt h)⟩
    | b h1 h2 h3 =>
      have q := same _ h1 rfl (.inr ⟨_, rfl⟩)
      obtain ⟨g', u, hu⟩ := h1
      exact ⟨_, rfl, .b ⟨g', u, (q g' u).mpr hu⟩ (fun g' o ho => h2 g' o ((q g' o).mp ho)) (n.dtL h3)⟩
  | ow ds =>
    obtain ⟨w, rfl, h⟩ := h
    cases h with
    | b h1 h2 h3 =>
      have q := same _ h1 rfl (.inl rfl)
      obtain ⟨g', u, hu⟩ := h1
      exact ⟨_, rfl, .b ⟨g', u, (q g' u).mpr hu⟩ (fun g' o ho => h2 g' o ((q g' o).mp ho)) (n.dtL h3)⟩
  | oi p C fs =>
    obtain ⟨w, rfl, hp, h⟩ := h
    cases h with
    | mk h1 h2 h3 =>
      have q := same _ h1 rfl (.inl rfl)
      obtain ⟨g', u, hu⟩ := h1
      refine ⟨_, rfl, hp, .mk ⟨g', u, (q g' u).mpr hu⟩ (fun g' o ho => h2 g' o ((q g' o).mp ho)) (DtF.mono (fun b o m e => ⟨fun q => ?_, n.keep b o m e⟩) _ _ h3)⟩
      obtain ⟨g', u, ⟨z, q, _⟩ | q⟩ := q
      · rcases n.pins _ q with ⟨o', q'⟩ | q'
        · exact m (pin_in q')
        · rw [q'] at e; cases e
      · exact m ⟨g', u, .inr q⟩
/-- a new own object -/
theorem Sta.grow (S : Sta W H0 ps g H σ ρ) (e : Ext (pinW W ps) H g1 H') (hn : H a = none) (ha : H' a = some ob) (hp : PinO g1 o ob) : Sta W H0 ((a, o) :: ps) g1 H' σ ρ ∧ Nxt W ps H ((a, o) :: ps) H' := by
  have notin : ∀ u, (a, u) ∉ ps := fun u h => S.pinN h hn
  have nM : ¬ (pinW W ps).M a := S.j.nn hn
  have n : Nxt W ps H ((a, o) :: ps) H' := ⟨fun p h => by
    rcases List.mem_cons.mp h with rfl | h
    · exact .inr hn
    · exact .inl ⟨p.2, h⟩, e.keep⟩
  have same : ∀ b, (pinW W ps).M b → ∀ g u, (pinW W ((a, o) :: ps)) g b u ↔ (pinW W ps) g b u := fun b m g u => by
    constructor
    · rintro (⟨q, h, z⟩ | h)
      · rcases List.mem_cons.mp h with h | h
        · cases h; exact absurd m nM
        · exact .inl ⟨q, h, z⟩
      · exact .inr h
    · rintro (⟨q, h, z⟩ | h)
      · exact .inl ⟨q, List.mem_cons_of_mem _ h, z⟩
      · exact .inr h
  refine ⟨⟨S.len, fun i s h => ?_, ?_, fun p h => ?_, fun i s h hs => ?_, S.one, S.lent, ?_⟩, n⟩
  · obtain ⟨v, e1, k⟩ := S.at_ i s h
    exact ⟨v, e1, k.move n S.j fun b m _ _ => same b m⟩
  · rw [List.map_cons, List.nodup_cons]
    refine ⟨fun h => ?_, S.nd⟩
    obtain ⟨⟨b, u⟩, h1, h2⟩ := List.mem_map.mp h
    have h2' : b = a := h2
    subst h2'
    exact notin u h1
  · rcases List.mem_cons.mp h with rfl | h
    · exact ⟨S.ext.free hn, fun m => nM (pin_m m)⟩
    · exact S.out p h
  · obtain ⟨b, u, h1, h2, h3⟩ := S.own i s h hs
    exact ⟨b, u, h1, List.mem_cons_of_mem _ h2, h3⟩
  · refine ⟨fun b u m q => e.keep b u (fun z => m ?_) (S.ext.keep b u (fun z => m ?_) q), fun b m => ?_⟩
    · obtain ⟨g', w, z⟩ := z
      exact ⟨g', w, (same b ⟨g', w, z⟩ g' w).mpr z⟩
    · obtain ⟨g', w, z⟩ := z
      exact ⟨g', w, (same b ⟨g', w, z⟩ g' w).mpr z⟩
    · by_cases hb : b = a
      · subst hb
        exact ⟨ob, ha, .inl ⟨o, List.mem_cons_self, hp⟩⟩
      · obtain ⟨g', u, m⟩ := m
        have m' : (pinW W ps).M b := by
          rcases m with ⟨q, m, z⟩ | m
          · rcases List.mem_cons.mp m with m | m
            · cases m; exact absurd rfl hb
            · exact ⟨g', u, .inl ⟨q, m, z⟩⟩
          · exact ⟨g', u, .inr m⟩
        obtain ⟨u', q1, q2⟩ := e.j b m'
        exact ⟨u', q1, (same b m' _ u').mpr q2⟩
/-- a slot takes over an own object that no slot owns -/
theorem Sta.take {i : Nat} {s : Sl} (S : Sta W H0 ps g H σ ρ) (hs : s.own = true) (hm : (a, o) ∈ ps) (ht : o = none ↔ ∃ p, s = .tp p) (free : ∀ (j : Nat) (t : Sl), ρ[j]? = some t → t.own = true → σ[j]? ≠ some (some (.ref a))) (h : SlOk (pinW W ps) H s (some (.ref a))) :
    Sta W H0 ps g H (σ.set i (some (.ref a))) (ρ.set i s) where
  len := by rw [List.length_set, List.length_set]; exact S.len
  at_ := fun j t e => by
    rcases set_at e with ⟨rfl, rfl, hl⟩ | ⟨hj, e⟩
    · exact ⟨_, List.getElem?_set_self (by rw [S.len]; exact hl), h⟩
    · rw [List.getElem?_set_ne hj]
      exact S.at_ j t e
  nd := S.nd
  out := S.out
  own := fun j t e hq => by
    rcases set_at e with ⟨rfl, rfl, hl⟩ | ⟨hj, e⟩
    · exact ⟨a, o, List.getElem?_set_self (by rw [S.len]; exact hl), hm, ht⟩
    · rw [List.getElem?_set_ne hj]
      exact S.own j t e hq
  one := fun j k t u e1 e2 h1 h2 e3 => by
    rcases set_at e1 with ⟨z1, y1, l1⟩ | ⟨n1, f1⟩
    · rcases set_at e2 with ⟨z2, y2, _⟩ | ⟨n2, f2⟩
      · rw [← z1, ← z2]
      · subst z1
        rw [List.getElem?_set_self (by rw [S.len]; exact l1), List.getElem?_set_ne n2] at e3
        exact absurd e3.symm (free k u f2 h2)
    · rcases set_at e2 with ⟨z2, y2, l2⟩ | ⟨n2, f2⟩
      · subst z2
        rw [List.getElem?_set_self (by rw [S.len]; exact l2), List.getElem?_set_ne n1] at e3
        exact absurd e3 (free j t f1 h1)
      · rw [List.getElem?_set_ne n1, List.getElem?_set_ne n2] at e3
        exact S.one j k t u f1 f2 h1 h2 e3
  lent := fun j ds e => by
    rcases set_at e with ⟨rfl, q, _⟩ | ⟨hj, e⟩
    · subst q; cases hs
    · rw [List.getElem?_set_ne hj]
      exact S.lent j ds e
  ext := S.ext
theorem Sta.fresh (S : Sta W H0 ps g H σ ρ) (hn : H a = none) (j : Nat) (t : Sl) (h : ρ[j]? = some t) (ht : t.own = true) : σ[j]? ≠ some (some (.ref a)) := fun z => by
  obtain ⟨b, u, h1, h2, _⟩ := S.own j t h ht
  rw [h1] at z
  cases z
  exact S.pinN h2 hn
/-- the own object at a is changed; its slot i takes what it is now -/
theorem Sta.change {i : Nat} {s s' : Sl} (S : Sta W H0 ps g H σ ρ) (hi : ρ[i]? = some s) (hs : s.own = true) (hv : σ[i]? = some (some (.ref a))) (hm : (a, o) ∈ ps) (ha : H' a = some ob) (hp : PinO g o' ob) (ht' : o' = none ↔ ∃ p, s' = .tp p) (hk : ∀ b u, b ≠ a → H b = some u → H' b = some u)
    (hs' : s'.own = true) (h : SlOk (pinW W (repl ps a o')) H' s' (some (.ref a))) : Sta W H0 (repl ps a o') g H' σ (ρ.set i s') ∧ Nxt W ps H (repl ps a o') H' := by
  have nW : ¬ W.M a := (S.out _ hm).2
  have n : Nxt W ps H (repl ps a o') H' := ⟨fun p h => by
    obtain ⟨b, u⟩ := p
    rcases mem_repl.mp h with ⟨_, h⟩ | ⟨h, _, u', hu⟩
    · exact .inl ⟨u, h⟩
    · subst h; exact .inl ⟨u', hu⟩, fun b u m q => hk b u (fun z => m (by subst z; exact pin_in hm)) q⟩
  have same : ∀ b, b ≠ a → ∀ g u, (pinW W (repl ps a o')) g b u ↔ (pinW W ps) g b u := fun b hb g u => by
    constructor
    · rintro (⟨q, h, z⟩ | h)
      · rcases mem_repl.mp h with ⟨_, h⟩ | ⟨h, _⟩
        · exact .inl ⟨q, h, z⟩
        · exact absurd h hb
      · exact .inr h
    · rintro (⟨q, h, z⟩ | h)
      · exact .inl ⟨q, mem_repl.mpr (.inl ⟨hb, h⟩), z⟩
      · exact .inr h
  have sameM : ∀ b, (pinW W (repl ps a o')).M b ↔ (pinW W ps).M b := fun b => by
    by_cases hb : b = a
    · subst hb
      exact ⟨fun _ => pin_in hm, fun _ => pin_in (mem_repl.mpr (.inr ⟨rfl, rfl, o, hm⟩))⟩
    · exact ⟨fun ⟨g', u, h⟩ => ⟨g', u, (same b hb g' u).mp h⟩, fun ⟨g', u, h⟩ => ⟨g', u, (same b hb g' u).mpr h⟩⟩
  have li : i < σ.length := (List.getElem?_eq_some_iff.mp hv).1
  refine ⟨⟨by rw [List.length_set]; exact S.len, fun j t e => ?_, nd_repl S.nd, fun p h => ?_, fun j t e ht => ?_, fun j k t u e1 e2 h1 h2 e3 => ?_, fun j ds e => ?_, ?_⟩, n⟩
  · rcases set_at e with ⟨rfl, rfl, hl⟩ | ⟨hj, e⟩
    · exact ⟨_, hv, h⟩
    · obtain ⟨v, e1, k⟩ := S.at_ j t e
      refine ⟨v, e1, k.move n S.j fun b m q own => same b fun z => ?_⟩
      subst z
      subst q
      rcases own with own | ⟨ds, rfl⟩
      · exact hj (S.one i j s t hi e hs own (by rw [hv, e1]))
      · obtain ⟨c, q, m⟩ := S.lent j ds e
        rw [e1] at q
        cases q
        exact nW m
  · obtain ⟨b, u⟩ := p
    rcases mem_repl.mp h with ⟨_, h⟩ | ⟨h, _, u', hu⟩
    · exact S.out _ h
    · subst h; exact S.out (b, u') hu
  · rcases set_at e with ⟨rfl, rfl, hl⟩ | ⟨hj, e⟩
    · exact ⟨a, o', hv, mem_repl.mpr (.inr ⟨rfl, rfl, o, hm⟩), ht'⟩
    · obtain ⟨b, u, h1, h2, h3⟩ := S.own j t e ht
      by_cases hb : b = a
      · subst hb
        exact absurd (S.one i j s t hi e hs ht (by rw [hv, h1])) hj
      · exact ⟨b, u, h1, mem_repl.mpr (.inl ⟨hb, h2⟩), h3⟩
  · have old : ∀ (m : Nat) (x : Sl), (ρ.set i s')[m]? = some x → x.own = true → ∃ y : Sl, ρ[m]? = some y ∧ y.own = true := fun m x e hx => by
      rcases set_at e with ⟨rfl, rfl, _⟩ | ⟨_, e⟩
      · exact ⟨s, hi, hs⟩
      · exact ⟨x, e, hx⟩
    obtain ⟨y1, f1, g1⟩ := old j t e1 h1
    obtain ⟨y2, f2, g2⟩ := old k u e2 h2
    exact S.one j k y1 y2 f1 f2 g1 g2 e3
  · rcases set_at e with ⟨rfl, q, _⟩ | ⟨hj, e⟩
    · subst q; cases hs'
    · exact S.lent j ds e
  · refine ⟨fun b u m q => n.keep b u (fun z => m ((sameM b).mpr z)) (S.ext.keep b u (fun z => m ((sameM b).mpr z)) q), fun b m => ?_⟩
    by_cases hb : b = a
    · subst hb
      exact ⟨ob, ha, .inl ⟨o', mem_repl.mpr (.inr ⟨rfl, rfl, o, hm⟩), hp⟩⟩
    · obtain ⟨u, q1, q2⟩ := S.j b ((sameM b).mp m)
      exact ⟨u, hk b u hb q1, (same b hb _ u).mpr q2⟩
/-- the own object at a is shared from now on -/
theorem Sta.share {i : Nat} {s s' : Sl} (S : Sta W H0 ps g H σ ρ) (hi : ρ[i]? = some s) (hs : s.own = true) (hv : σ[i]? = some (some (.ref a))) (hm : (a, o) ∈ ps)
    (hs' : s'.own = false) (hb' : ∀ ds, s' ≠ .r (.b ds)) (h : SlOk (pinW W (drp ps a)) H s' (some (.ref a))) : Sta W H0 (drp ps a) g H σ (ρ.set i s') ∧ Nxt W ps H (drp ps a) H := by
  have nW : ¬ W.M a := (S.out _ hm).2
  have n : Nxt W ps H (drp ps a) H := ⟨fun p h => .inl ⟨p.2, (mem_drp.mp h).2⟩, fun b u m q => q⟩
  have same : ∀ b, b ≠ a → ∀ g u, (pinW W (drp ps a)) g b u ↔ (pinW W ps) g b u := fun b hb g u => by
    constructor
    · rintro (⟨q, h, z⟩ | h)
      · exact .inl ⟨q, (mem_drp.mp h).2, z⟩
      · exact .inr h
    · rintro (⟨q, h, z⟩ | h)
      · exact .inl ⟨q, mem_drp.mpr ⟨hb, h⟩, z⟩
      · exact .inr h
  refine ⟨⟨by rw [List.length_set]; exact S.len, fun j t e => ?_, nd_drp S.nd, fun p h => S.out p (mem_drp.mp h).2, fun j t e ht => ?_, fun j k t u e1 e2 h1 h2 e3 => ?_, fun j ds e => ?_, ?_⟩, n⟩
  · rcases set_at e with ⟨rfl, rfl, hl⟩ | ⟨hj, e⟩
    · exact ⟨_, hv, h⟩
    · obtain ⟨v, e1, k⟩ := S.at_ j t e
      refine ⟨v, e1, k.move n S.j fun b m q own => same b fun z => ?_⟩
      subst z
      subst q
      rcases own with own | ⟨ds, rfl⟩
      · exact hj (S.one i j s t hi e hs own (by rw [hv, e1]))
      · obtain ⟨c, q, m⟩ := S.lent j ds e
        rw [e1] at q
        cases q
        exact nW m
  · rcases set_at e with ⟨rfl, rfl, hl⟩ | ⟨hj, e⟩
    · rw [hs'] at ht; cases ht
    · obtain ⟨b, u, h1, h2, h3⟩ := S.own j t e ht
      refine ⟨b, u, h1, mem_drp.mpr ⟨fun z => ?_, h2⟩, h3⟩
      subst z
      exact hj (S.one i j s t hi e hs ht (by rw [hv, h1]))
  · rcases set_at e1 with ⟨rfl, rfl, _⟩ | ⟨_, e1⟩
    · rw [hs'] at h1; cases h1
    · rcases set_at e2 with ⟨rfl, rfl, _⟩ | ⟨_, e2⟩
      · rw [hs'] at h2; cases h2
      · exact S.one j k t u e1 e2 h1 h2 e3
  · rcases set_at e with ⟨rfl, q, _⟩ | ⟨hj, e⟩
    · exact absurd q.symm (hb' ds)
    · exact S.lent j ds e
  · refine ⟨fun b u m q => ?_, fun b m => ?_⟩
    · by_cases hb : b = a
      · subst hb
        rw [(S.out _ hm).1] at q; cases q
      · refine S.ext.keep b u (fun ⟨g', w, z⟩ => m ⟨g', w, (same b hb g' w).mpr z⟩) q
    · by_cases hb : b = a
      · subst hb
        obtain ⟨g', u, ⟨_, z, _⟩ | z⟩ := m
        · exact absurd rfl (mem_drp.mp z).1
        · exact absurd ⟨g', u, z⟩ nW
      · obtain ⟨g', w, z⟩ := m
        obtain ⟨u, q1, q2⟩ := S.j b ⟨g', w, (same b hb g' w).mp z⟩
        exact ⟨u, q1, (same b hb _ u).mpr q2⟩
end
end TL
set_option Elab.async false
set_option linter.all false
set_option maxRecDepth 100000
namespace TL
open PySem PySem.Spec L2
variable {G : Type} [Gh G]
/-- a new list that nobody else has -/
def wpN (W : Wd G) (H0 : Hp) (g : G) (ρ : Rho) (te : TE) (k : List D → G → Prop) : Prop := ∀ (ps : Pins) (H : Hp) (σ : L2.St), Sta W H0 ps g H σ ρ → ∀ Q : VK,
  (∀ ds a xs g' H', k ds g' → H a = none → Ext (pinW W ps) H g' H' → H' a = some (.lst xs) → DtL (fun b => (pinW W ps).M b ∨ b = a) H' ds xs → Q (.ref a) H') → te σ H Q
section
variable {W : Wd G} {g g1 g2 : G} {H0 H H1 H2 : Hp} {ρ ρ' : Rho} {ps ps1 ps2 : Pins} {σ : L2.St} {ta tb te : TE} {t u w : TS} {tt : TT} {tg tr : TA} {K : TK G} {gt : TG} {wi : TI} {F : PySem.W.Frag} {ds es : List D} {d : D} {i j : Nat} {kn : List D → G → Prop}
theorem DtL.newAt {M : Addr → Prop} {a : Addr} {o : HO} {xs : List V} (hn : H a = none) (h : DtL M H ds xs) : DtL (fun b => M b ∨ b = a) (upd H a o) ds xs := DtL.mono (fun b u m e => by
  have hb : b ≠ a := ne_of_none e hn
  exact ⟨fun z => z.elim m hb, by rw [upd_ne hb]; exact e⟩) _ _ h
theorem n_lst (h : wpA W H0 g ρ tg fun rs g1 => ∃ ds, Vs rs ds ∧ ds.length ≤ 1000 ∧ kn ds g1) : wpN W H0 g ρ (tLst tg) kn := fun ps H σ S Q hq => h ps H σ S _ fun rs vs g1 H1 q e o => by
  obtain ⟨ds, hv, hl, q⟩ := q
  have len : vs.length = ds.length := o.length.trans hv.length
  exact ⟨by rw [len]; exact Nat.le_trans hl (by decide), fun p hp => hq ds p vs _ _ q (e.free hp) (e.trans (Ext.new e.j hp)) upd_same (DtL.newAt hp (hv.ok o))⟩
theorem n_list (h : wpA W H0 g ρ tg fun rs g1 => ∃ r ds, rs = [r] ∧ SeqOf r ds ∧ kn ds g1) : wpN W H0 g ρ (tCB (rListOf F) tg) kn := fun ps H σ S Q hq => h ps H σ S _ fun rs vs g1 H1 q e o => by
  obtain ⟨r, ds, rfl, l, q⟩ := q
  obtain ⟨v, rfl, o1⟩ := o.one
  obtain ⟨a, xs, rfl, s, t⟩ := l.at (K := F) e.j o1
  exact ⟨a, xs, rfl, s, fun p hp => hq ds p xs _ _ q (e.free hp) (e.trans (Ext.new e.j hp)) upd_same (DtL.newAt hp t)⟩
theorem e_new {k : Rs → G → Prop} (h : wpN W H0 g ρ te fun ds g1 => k (.v (.lst ds)) g1) : wpE W H0 g ρ te k := fun ps H σ S Q hq => h ps H σ S Q fun ds a xs g' H' q hn e ha t =>
  hq _ _ _ H' q e (.v (.lst (S.j.nn hn) ha (DtL.mono (fun b u m z => ⟨fun y => m (.inl y), z⟩) _ _ t)))
theorem s_new (h : wpN W H0 g ρ te fun ds g1 => K.nx (ρ.set i (.ow ds)) g1) : wpS W H0 g ρ (tAsg te (gName i)) K := fun ps H σ De S k => h ps H σ S _ fun ds a xs g' H' q hn e ha t => by
  obtain ⟨S1, n1⟩ := S.grow (o := some (.lst xs)) e hn ha rfl
  have hm : (a, some (HO.lst xs)) ∈ ((a, some (HO.lst xs)) :: ps) := List.mem_cons_self
  have ok : SlOk (pinW W ((a, some (.lst xs)) :: ps)) H' (.ow ds) (some (.ref a)) := by
    refine ⟨_, rfl, .b (pin_in hm) (fun g o z => (S1.pinAt hm g o).mp z) (DtL.mono (fun b u m z => ⟨fun y => m ?_, z⟩) _ _ t)⟩
    obtain ⟨g, o, ⟨q, y, w⟩ | y⟩ := y
    · rcases List.mem_cons.mp y with y | y
      · exact .inr (Prod.mk.inj y).1
      · exact .inl (pin_in y)
    · exact .inl ⟨g, o, .inr y⟩
  exact k.nx _ _ H' _ _ q (S1.take (i := i) (s := .ow ds) rfl hm ⟨(fun z => nomatch z), fun ⟨_, z⟩ => nomatch z⟩ (S.fresh hn) ok) n1
/-- a new list of a tape's form becomes a tape -/
theorem s_newT (h : wpN W H0 g ρ te fun ds g1 => ∃ ns : List Int, ds = ns.map D.int ∧ Gh.tp g1 (.lst (ns.map V.int)) ∧ ∀ p, W.M p = False → K.nx (ρ.set i (.tp p)) g1) : wpS W H0 g ρ (tAsg te (gName i)) K := fun ps H σ De S k => h ps H σ S _ fun ds a xs g' H' q hn e ha t => by
  obtain ⟨ns, rfl, ht, q⟩ := q
  rw [t.ints] at ha
  obtain ⟨S1, n1⟩ := S.grow (o := none) e hn ha ht
  have hm : (a, (none : Option HO)) ∈ ((a, none) :: ps) := List.mem_cons_self
  have nW : W.M a = False := eq_false (S1.out _ hm).2
  exact k.nx _ _ H' _ _ (q a nW) (S1.take (i := i) (s := .tp a) rfl hm ⟨fun _ => ⟨a, rfl⟩, fun _ => rfl⟩ (S.fresh hn) rfl) n1
theorem Sta.ownL {a : Addr} {u : Option HO} {o : HO} {P : Prop} (S : Sta W H0 ps g H σ ρ) (hm : (a, u) ∈ ps) (np : ¬ P) (hu : u = none ↔ P) (h : ∀ g' o', pinW W ps g' a o' → o' = o) : u = some o := by
  cases u with
  | none => exact absurd (hu.mp rfl) np
  | some w => rw [h g w ((S.pinAt hm g w).mpr rfl)]
/-- a slot's own list is shared from now on -/
theorem s_shr (i : Nat) (hi : ρ[i]? = some (.ow ds)) (h : wpS W H0 g (ρ.set i (.v (.lst ds))) t K) : wpS W H0 g ρ t K := fun ps H σ De S k => by
  obtain ⟨o, e1, v, rfl, w⟩ := S.at_ i _ hi
  obtain ⟨a, u, e2, hm, hu⟩ := S.own i _ hi rfl
  rw [e1] at e2
  cases e2
  cases w with
  | b h1 h2 h3 =>
    obtain rfl : u = some _ := S.ownL hm (fun ⟨_, z⟩ => nomatch z) hu h2
    have na : ¬ (pinW W (drp ps a)).M a := fun m => by
      obtain ⟨g', u, ⟨_, m, _⟩ | m⟩ := m
      · exact (mem_drp.mp m).1 rfl
      · exact (S.out _ hm).2 ⟨g', u, m⟩
    have t' : DtL (pinW W (drp ps a)).M H ds _ := DtL.mono (fun b u m z => ⟨fun y => m (by
      obtain ⟨g', u, ⟨_, y, _⟩ | y⟩ := y
      · exact pin_in (mem_drp.mp y).2
      · exact ⟨g', u, .inr y⟩), z⟩) _ _ h3
    obtain ⟨S1, n1⟩ := S.share (s' := .v (.lst ds)) hi rfl e1 hm rfl (fun _ z => nomatch z) ⟨_, rfl, .v (.lst na (S.pin hm) t')⟩
    exact h _ H σ De S1 (k.after n1 S1.j)
/-- what an own list becomes -/
theorem Sta.lst {a : Addr} {xs ys : List V} (S : Sta W H0 ps g H σ ρ) (hi : ρ[i]? = some (.ow ds)) (hv : σ[i]? = some (some (.ref a))) (hx : H a = some (.lst xs)) (ht : DtL (pinW W ps).M H es ys) :
    Sta W H0 (repl ps a (some (.lst ys))) g (upd H a (.lst ys)) σ (ρ.set i (.ow es)) ∧ Nxt W ps H (repl ps a (some (.lst ys))) (upd H a (.lst ys)) := by
  obtain ⟨b, u, e2, hm, _⟩ := S.own i _ hi rfl
  rw [hv] at e2
  cases e2
  have hin : (a, some (HO.lst ys)) ∈ repl ps a (some (.lst ys)) := mem_repl.mpr (.inr ⟨rfl, rfl, u, hm⟩)
  refine S.change hi rfl hv hm upd_same rfl ⟨(fun z => nomatch z), fun ⟨_, z⟩ => nomatch z⟩ (fun b u hb e => by rw [upd_ne hb]; exact e) rfl ⟨_, rfl, .b (pin_in hin) (fun g o z => ?_) (DtL.mono (fun b w m e => ?_) _ _ ht)⟩
  · rcases z with ⟨q, z, w⟩ | z
    · rcases mem_repl.mp z with ⟨z, _⟩ | ⟨_, z, _⟩
      · exact absurd rfl z
      · subst z; exact w
    · exact absurd ⟨g, o, z⟩ (S.out _ hm).2
  · have hb : b ≠ a := fun z => m (by subst z; exact pin_in hm)
    refine ⟨fun ⟨g, x, z⟩ => m ?_, by rw [upd_ne hb]; exact e⟩
    rcases z with ⟨_, z, _⟩ | z
    · rcases mem_repl.mp z with ⟨_, z⟩ | ⟨z, _⟩
      · exact pin_in z
      · exact absurd z hb
    · exact ⟨g, x, .inr z⟩
theorem Sta.ow (S : Sta W H0 ps g H σ ρ) (hi : ρ[i]? = some (.ow ds)) : ∃ a xs, σ[i]? = some (some (.ref a)) ∧ H a = some (.lst xs) ∧ DtL (pinW W ps).M H ds xs ∧ ∀ g1 H1, Ext (pinW W ps) H g1 H1 → H1 a = some (.lst xs) := by
  obtain ⟨o, e1, v, rfl, w⟩ := S.at_ i _ hi
  obtain ⟨a, xs, rfl, p, t, st⟩ := LstOf.at .b S.j w
  exact ⟨a, xs, e1, p, t, st⟩
theorem s_app (hi : ρ[i]? = some (.ow ds)) (hl : ds.length ≤ 1000000) (h : wpE W H0 g ρ te fun r g1 => ∃ d, r = .v d ∧ K.nx (ρ.set i (.ow (ds ++ [d]))) g1) : wpS W H0 g ρ (tDrop (tBM F "list" rAppend (tVar i) (tCons te tNil))) K := fun ps H σ De S k => by
  obtain ⟨a, xs, e1, p, t, st⟩ := S.ow hi
  refine ⟨_, e1, .inl ⟨rfl, xs, .inl (.inl p)⟩, h ps H σ S _ fun r v g1 H1 q e o => ?_⟩
  obtain ⟨d, rfl, q⟩ := q
  cases o with
  | v o =>
    have t1 := t.ext e
    obtain ⟨S2, n2⟩ := (S.to e).lst (es := ds ++ [d]) (ys := xs ++ [v]) hi e1 (st g1 H1 e) (t1.append (.cons o .nil))
    refine ⟨a, xs, v, rfl, rfl, st g1 H1 e, ?_, k.nx _ _ _ _ _ q S2 ((Nxt.of e).trans n2 e.j)⟩
    rw [t.length]
    exact Nat.lt_of_le_of_lt hl (by decide)
theorem s_clear (hi : ρ[i]? = some (.ow ds)) (h : K.nx (ρ.set i (.ow [])) g) : wpS W H0 g ρ (tDrop (tBM0 F "list" rClear (tVar i))) K := fun ps H σ De S k => by
  obtain ⟨a, xs, e1, p, t, st⟩ := S.ow hi
  obtain ⟨S2, n2⟩ := S.lst (es := []) (ys := []) hi e1 p .nil
  exact ⟨_, e1, .inl ⟨rfl, xs, .inl (.inl p)⟩, a, xs, rfl, rfl, p, k.nx _ _ _ _ _ h S2 n2⟩
theorem s_pop0 {e0 : D} {es : List D} (hi : ρ[i]? = some (.ow (e0 :: es))) (hl : es.length ≤ 1000000) (h : K.nx (ρ.set i (.ow es)) g) : wpS W H0 g ρ (tDrop (tBM F "list" rPopAt (tVar i) (tCons (tC (.int 0)) tNil))) K := fun ps H σ De S k => by
  obtain ⟨a, xs, e1, p, t, st⟩ := S.ow hi
  cases t with
  | @cons x xs _ _ h1 t =>
    obtain ⟨S2, n2⟩ := S.lst (es := es) (ys := xs) hi e1 p t
    refine ⟨_, e1, .inl ⟨rfl, _, .inl (.inl p)⟩, a, x :: xs, 0, 0, x, rfl, rfl, p, by decide, by decide, ?_, rfl, k.nx _ _ _ _ _ h S2 n2⟩
    unfold seqIndex?
    simp
theorem s_setL {n : Int} {l : Nat} (hi : ρ[i]? = some (.ow ds)) (h : wpE W H0 g ρ te fun r g1 => ∃ d, r = .v d ∧ wpE W H0 g1 ρ tb fun y g2 => ∃ (n : Int) (l : Nat), y = .v (.int n) ∧ ixN ds.length n = some l ∧ K.nx (ρ.set i (.ow (ds.set l d))) g2) :
    wpS W H0 g ρ (tAsg te (gSub (tVar i) tb rSetL)) K := fun ps H σ De S k => h ps H σ S _ fun r v g1 H1 q e o => by
  obtain ⟨d, rfl, q⟩ := q
  cases o with
  | v o =>
    obtain ⟨a, xs, e1, p, t, st⟩ := (S.to e).ow hi
    refine ⟨_, e1, q ps H1 σ (S.to e) _ fun y u g2 H2 q2 e2 o2 => ?_⟩
    obtain ⟨n, l, rfl, hn, q2⟩ := q2
    rw [v_int o2]
    have p2 := st g2 H2 e2
    have t2 := t.ext e2
    obtain ⟨S2, n2⟩ := ((S.to e).to e2).lst (es := ds.set l d) (ys := xs.set l v) hi e1 p2 (DtL.set (o.ext e2) l t2)
    exact ⟨a, xs, n, l, rfl, rfl, p2, by rw [t2.length]; exact hn, k.nx _ _ _ _ _ q2 S2 ((Nxt.of (e.trans e2)).trans n2 (e.trans e2).j)⟩
/-! ### list comprehensions -/
theorem t_yes {kb : Bool → G → Prop} (h : kb true g) : wpT W H0 g ρ tYes kb := fun ps H σ S Q hq => hq true g H h (Ext.refl S.j)
theorem set_end {α : Type} (l : List α) (x y : α) : (l ++ [x]).set l.length y = l ++ [y] := by simp
theorem get_end {α : Type} (l : List α) (x : α) : (l ++ [x])[l.length]? = some x := by simp
theorem get_app {α : Type} {l : List α} {x y : α} {i : Nat} (h : l[i]? = some y) : (l ++ [x])[i]? = some y := by
  have hi : i < l.length := (List.getElem?_eq_some_iff.mp h).1
  rw [List.getElem?_append_left hi]; exact h
theorem Sta.pop {v : Option V} {s : Sl} (S : Sta W H0 ps g H (σ ++ [v]) (ρ ++ [s])) : Sta W H0 ps g H σ ρ := by
  have l : σ.length = ρ.length := by have := S.len; simp at this; exact this
  have up : ∀ {i : Nat} {t : Sl}, ρ[i]? = some t → (ρ ++ [s])[i]? = some t := fun h => get_app h
  have dn : ∀ {i : Nat} {t : Sl}, ρ[i]? = some t → (σ ++ [v])[i]? = σ[i]? := fun {i t} h => by
    have hi : i < ρ.length := (List.getElem?_eq_some_iff.mp h).1
    rw [List.getElem?_append_left (by omega)]
  refine ⟨l, fun i t h => ?_, S.nd, S.out, fun i t h ht => ?_, fun i j t u h1 h2 h3 h4 h5 => ?_, fun i ds h => ?_, S.ext⟩
  · obtain ⟨o, e, k⟩ := S.at_ i t (up h)
    rw [dn h] at e
    exact ⟨o, e, k⟩
  · obtain ⟨a, o, e, k⟩ := S.own i t (up h) ht
    rw [dn h] at e
    exact ⟨a, o, e, k⟩
  · refine S.one i j t u (up h1) (up h2) h3 h4 ?_
    rw [dn h1, dn h2]; exact h5
  · obtain ⟨a, e, k⟩ := S.lent i ds (up h)
    rw [dn h] at e
    exact ⟨a, e, k⟩
theorem Sta.push {a : Addr} {xs : List V} {acc : List D} (S : Sta W H0 ((a, some (.lst xs)) :: ps) g H σ ρ) (free : ∀ (j : Nat) (t : Sl), ρ[j]? = some t → t.own = true → σ[j]? ≠ some (some (.ref a))) (h : DtL (pinW W ((a, some (.lst xs)) :: ps)).M H acc xs) :
    Sta W H0 ((a, some (.lst xs)) :: ps) g H (σ ++ [some (.ref a)]) (ρ ++ [.ow acc]) := by
  have hm : (a, some (HO.lst xs)) ∈ ((a, some (HO.lst xs)) :: ps) := List.mem_cons_self
  have ok : SlOk (pinW W ((a, some (.lst xs)) :: ps)) H (.ow acc) (some (.ref a)) := ⟨_, rfl, .b (pin_in hm) (fun g o z => (S.pinAt hm g o).mp z) h⟩
  have cs : ∀ {i : Nat} {t : Sl}, (ρ ++ [.ow acc])[i]? = some t → (ρ[i]? = some t ∧ (σ ++ [some (.ref a)])[i]? = σ[i]?) ∨ (i = ρ.length ∧ t = .ow acc ∧ (σ ++ [some (V.ref a)])[i]? = some (some (.ref a))) := fun {i t} h => by
    by_cases hi : i < ρ.length
    · rw [List.getElem?_append_left hi] at h
      exact .inl ⟨h, by rw [List.getElem?_append_left (by rw [S.len]; exact hi)]⟩
    · have he : i = ρ.length := by
        have := (List.getElem?_eq_some_iff.mp h).1
        simp at this
        omega
      subst he
      rw [get_end] at h
      exact .inr ⟨rfl, (Option.some.inj h).symm, by rw [← S.len]; exact get_end σ _⟩
  refine ⟨by simp [S.len], fun i t h => ?_, S.nd, S.out, fun i t h ht => ?_, fun i j t u h1 h2 h3 h4 h5 => ?_, fun i ds h => ?_, S.ext⟩
  · rcases cs h with ⟨h, e⟩ | ⟨_, rfl, e⟩
    · rw [e]; exact S.at_ i t h
    · exact ⟨_, e, ok⟩
  · rcases cs h with ⟨h, e⟩ | ⟨_, rfl, e⟩
    · rw [e]; exact S.own i t h ht
    · exact ⟨a, _, e, hm, (fun z => nomatch z), fun ⟨_, z⟩ => nomatch z⟩
  · rcases cs h1 with ⟨g1, e1⟩ | ⟨q1, _, e1⟩
    · rcases cs h2 with ⟨g2, e2⟩ | ⟨q2, _, e2⟩
      · rw [e1, e2] at h5
        exact S.one i j t u g1 g2 h3 h4 h5
      · rw [e1, e2] at h5
        exact absurd h5 (free i t g1 h3)
    · rcases cs h2 with ⟨g2, e2⟩ | ⟨q2, _, e2⟩
      · rw [e1, e2] at h5
        exact absurd h5.symm (free j u g2 h4)
      · rw [q1, q2]
  · rcases cs h with ⟨h, e⟩ | ⟨_, h, e⟩
    · rw [e]; exact S.lent i ds h
    · cases h
theorem repl_head {a : Addr} {o o' : Option HO} (h : ∀ u, (a, u) ∉ ps) : repl ((a, o) :: ps) a o' = (a, o') :: ps := by
  unfold repl
  rw [List.map_cons, if_pos rfl]
  congr 1
  have : ∀ p ∈ ps, (if p.1 = a then (a, o') else p) = p := fun p hp => if_neg fun z => h p.2 (by subst z; exact hp)
  rw [List.map_congr_left this, List.map_id']
/-- a target, what it makes of the frame -/
def GT (vs : List Nat) (gt : TG) (d : D) (f : Rho → Rho) : Prop := ∀ (G : Type) (_ : Gh G) (W : Wd G) (H0 : Hp) (g : G) (ρ : Rho) (ps : Pins) (H : Hp) (σ : L2.St) (v : V), Sta W H0 ps g H (L2.wipe σ vs) ρ → Dt (pinW W ps).M H d v →
  ∃ σ2, (∀ Q : L2.St → Hp → Prop, Q σ2 H → gt v (L2.wipe σ vs) H Q) ∧ Sta W H0 ps g H σ2 (f ρ) ∧ L2.wipe σ2 vs = L2.wipe σ vs
theorem gt_name : GT [j] (gName j) d (fun ρ => ρ.set j (.v d)) := fun _ _ W H0 g ρ ps H σ v S o => ⟨_, fun Q q => q, S.set o, by
  show ((σ.set j none).set j (some v)).set j none = σ.set j none
  rw [List.set_set, List.set_set]⟩
theorem wipe2 {α : Type} {i j : Nat} (hij : i ≠ j) (l : List (Option α)) (x y : Option α) : ((((((l.set j none).set i none).set i x).set j y).set j none).set i none) = (l.set j none).set i none := by
  have e1 : ((l.set j none).set i none).set i x = (l.set j none).set i x := List.set_set none
  have e2 : ((((l.set j none).set i x).set j y).set j none) = ((l.set j none).set i x).set j none := List.set_set y
  have e3 : ((l.set j none).set i x).set j none = ((l.set j none).set j none).set i x := List.set_comm x none hij
  rw [e1, e2, e3, List.set_set none, List.set_set x]
theorem gt_tup2 {a b : D} (hij : i ≠ j) : GT [i, j] (gTup F 2 (gCons (gName i) (gCons (gName j) gNil))) (.tup [a, b]) (fun ρ => (ρ.set i (.v a)).set j (.v b)) := fun _ _ W H0 g ρ ps H σ v S o => by
  obtain ⟨p, xs, rfl, e, t, _⟩ := tup_at (.v o)
  cases t with
  | cons h1 t =>
    cases t with
    | cons h2 t =>
      cases t
      refine ⟨_, fun Q q => ⟨p, _, rfl, .inl (.inl e), rfl, _, _, rfl, _, _, rfl, rfl, q⟩, (S.set h1).set h2, ?_⟩
      exact wipe2 hij _ _ _
theorem n_lc {vs : List Nat} (h : wpI W H0 g ρ wi fun ds g1 => ds.length ≤ 1000000 ∧ ∃ I : Nat → List D → G → Prop, I 0 [] g1 ∧
      (∀ i d acc g2, ds[i]? = some d → I i acc g2 → ∃ f, GT vs gt d f ∧ wpT W H0 g2 (f (wipeR ρ vs)) tt fun b g3 => (b = true → wpE W H0 g3 (f (wipeR ρ vs)) te fun r g4 => ∃ e, r = .v e ∧ I (i + 1) (acc ++ [e]) g4) ∧ (b = false → I (i + 1) acc g3)) ∧
      ∀ acc g2, I ds.length acc g2 → kn acc g2) : wpN W H0 g ρ (tLc wi gt tt te vs) kn := fun ps H σ S Q hq => h ps H σ S _ fun ds J g1 H1 q e it => by
  obtain ⟨hz, I, i0, turn, fin⟩ := q
  intro A hA
  have S1 := S.to e
  have notin : ∀ u, (A, u) ∉ ps := fun u h => S1.pinN h hA
  obtain ⟨S2, n2⟩ := S1.grow (o := some (.lst [])) (Ext.new S1.j hA) hA upd_same rfl
  refine ⟨fun i m H' => m = ds.length - i ∧ i ≤ ds.length ∧ ∃ acc xs g', I i acc g' ∧ xs.length ≤ i ∧ Sta W H0 ((A, some (.lst xs)) :: ps) g' H' (σ ++ [some (.ref A)]) (ρ ++ [.ow acc]) ∧ Nxt W ps H1 ((A, some (.lst xs)) :: ps) H', ⟨ds.length, rfl, Nat.zero_le _, [], [], g1, i0, Nat.le_refl _, S2.push (S1.fresh hA) .nil, n2⟩, ?_⟩
  rintro i m H' ⟨rfl, hi, acc, xs, g', hI, hx, S', n⟩
  by_cases hlt : i < ds.length
  · obtain ⟨hgo, hy⟩ := it.go _ _ H' n S'.j i _ (List.getElem?_eq_getElem hlt)
    refine .inr ⟨hgo, fun H2 => ∃ acc xs g', I (i + 1) acc g' ∧ xs.length ≤ i + 1 ∧ Sta W H0 ((A, some (.lst xs)) :: ps) g' H2 (σ ++ [some (.ref A)]) (ρ ++ [.ow acc]) ∧ Nxt W ps H1 ((A, some (.lst xs)) :: ps) H2, fun H2 z => ⟨ds.length - (i + 1), by omega, rfl, hlt, z⟩, fun x H2 y => ?_⟩
    obtain ⟨ex, dx⟩ := hy x H2 y
    obtain ⟨f, gt, wt⟩ := turn i _ acc g' (List.getElem?_eq_getElem hlt) hI
    have S3 := S'.to ex
    obtain ⟨σ2, gq, S4, hw⟩ := gt _ _ W H0 _ _ _ H2 σ x (S3.pop.wipe vs) dx
    refine gq _ ⟨hw, wt _ H2 σ2 S4 _ fun b g3 H3 qb e3 => ?_⟩
    cases b with
    | false =>
      exact ⟨acc, xs, g3, qb.2 rfl, by omega, S3.to e3, n.trans (Nxt.of (ex.trans e3)) S'.j⟩
    | true =>
      refine qb.1 rfl _ H3 σ2 (S4.to e3) _ fun r v g4 H4 qe e4 o => ?_
      obtain ⟨el, rfl, qe⟩ := qe
      cases o with
      | v o =>
        have S5 := (S3.to e3).to e4
        have g5 : (ρ ++ [Sl.ow acc])[ρ.length]? = some (.ow acc) := get_end _ _
        obtain ⟨a', xs', v1, p1, t1, _⟩ := S5.ow g5
        have v2 : (σ ++ [some (V.ref A)])[ρ.length]? = some (some (.ref A)) := by rw [← S.len]; exact get_end _ _
        rw [v2] at v1
        cases v1
        have pA : H4 A = some (.lst xs) := S5.pin List.mem_cons_self
        rw [pA] at p1
        cases p1
        obtain ⟨S6, n6⟩ := S5.lst (es := acc ++ [el]) (ys := xs ++ [v]) g5 v2 pA (t1.append (.cons o .nil))
        rw [set_end, repl_head notin] at S6
        rw [repl_head notin] at n6
        refine ⟨xs, pA, ?_, acc ++ [el], xs ++ [v], g4, qe, by simp; omega, S6, ?_⟩
        · refine Nat.lt_of_le_of_lt (Nat.le_trans hx (Nat.le_of_lt (Nat.lt_of_lt_of_le hlt hz))) (by decide)
        · exact (n.trans (Nxt.of ((ex.trans e3).trans e4)) S'.j).trans n6 S5.j
  · have he : i = ds.length := by omega
    subst he
    refine .inl ⟨it.stop _ _ H' n S'.j, ?_⟩
    have g5 : (ρ ++ [Sl.ow acc])[ρ.length]? = some (.ow acc) := get_end _ _
    obtain ⟨a', xs', v1, p1, t1, _⟩ := S'.ow g5
    have v2 : (σ ++ [some (V.ref A)])[ρ.length]? = some (some (.ref A)) := by rw [← S.len]; exact get_end _ _
    rw [v2] at v1
    cases v1
    have pA : H' A = some (.lst xs) := S'.pin List.mem_cons_self
    rw [pA] at p1
    cases p1
    refine hq acc A xs g' H' (fin acc g' hI) (e.free hA) (e.trans ⟨n.keep, fun b m => ?_⟩) pA (DtL.mono (fun b u m z => ⟨fun y => m ?_, z⟩) _ _ t1)
    · obtain ⟨g0, w, m⟩ := m
      have hb : b ≠ A := fun z => by
        subst z
        obtain ⟨o, q1, _⟩ := S1.j b ⟨g0, w, m⟩
        rw [hA] at q1; cases q1
      obtain ⟨o, q1, q2⟩ := S'.j b (by
        rcases m with ⟨q, m, z⟩ | m
        · exact ⟨g0, w, .inl ⟨q, List.mem_cons_of_mem _ m, z⟩⟩
        · exact ⟨g0, w, .inr m⟩)
      refine ⟨o, q1, ?_⟩
      rcases q2 with ⟨q, q2, z⟩ | q2
      · rcases List.mem_cons.mp q2 with q2 | q2
        · cases q2; exact absurd rfl hb
        · exact .inl ⟨q, q2, z⟩
      · exact .inr q2
    · rcases y with ⟨g0, w, y⟩ | y
      · rcases y with ⟨q, y, z⟩ | y
        · exact ⟨g0, w, .inl ⟨q, List.mem_cons_of_mem _ y, z⟩⟩
        · exact ⟨g0, w, .inr y⟩
      · subst y
        exact ⟨g', _, .inl ⟨_, List.mem_cons_self, rfl⟩⟩
end
end TL
set_option Elab.async false
set_option linter.all false
set_option maxRecDepth 100000
namespace TL
open PySem PySem.Spec L2
/-! ### what a def promises, over trees -/
variable {G : Type} [Gh G]
/-- W' has W's words, and more -/
structure Sub (W W' : Wd G) : Prop where
  w : ∀ a, W.M a → ∀ g o, W' g a o ↔ W g a o
  up : Up W → Up W'
theorem Sub.refl {W : Wd G} : Sub W W := ⟨fun _ _ _ _ => Iff.rfl, id⟩
theorem Sub.tp {W W' : Wd G} (s : Sub W W') {p : Addr} (t : Tp W p) : Tp W' p := fun g o => (s.w p t.m g o).trans (t g o)
/-- by the world, the arguments, what is wanted of the answer, of a raised class -/
abbrev Ct (G : Type) := Wd G → G → List Rs → (D → G → Prop) → (Value → G → Prop) → Prop
def mkSp (C : Ct G) : Sp := fun vs H Q E => ∃ (W : Wd G) (g : G) (rs : List Rs) (k : D → G → Prop) (x : Value → G → Prop), RsL W H rs vs ∧ W.J g H ∧ C W g rs k x ∧
  (∀ d v g' H', k d g' → Ext W H g' H' → Dt W.M H' d v → Q v H') ∧ ∀ c g' H', x c g' → Ext W H g' H' → E c none H'
/-- nothing is raised -/
abbrev noX : Value → G → Prop := fun _ _ => False
theorem Sta.sub {W : Wd G} {g : G} {H0 H : Hp} {ps : Pins} {σ : L2.St} {ρ : Rho} (S : Sta W H0 ps g H σ ρ) : Sub W (pinW W ps) := ⟨fun a m g o => ⟨fun h => by
  rcases h with ⟨_, h, _⟩ | h
  · exact absurd m (S.out _ h).2
  · exact h, .inr⟩, Up.pin⟩
/-- what a call sees of the caller's world -/
structure In (W W' : Wd G) (ρ : Rho) : Prop where
  sub : Sub W W'
  tp : ∀ p, Sl.tp p ∈ ρ → Tp W' p
theorem Sta.in_ {W : Wd G} {g : G} {H0 H : Hp} {ps : Pins} {σ : L2.St} {ρ : Rho} (S : Sta W H0 ps g H σ ρ) : In W (pinW W ps) ρ := ⟨S.sub, fun _ h => S.tp h⟩
section
variable {W : Wd G} {g : G} {H0 : Hp} {ρ : Rho} {ta te : TE} {tg tk : TA} {k : Rs → G → Prop} {C : Ct G} {E : XK} {Cc : Addr}
theorem e_call (h : wpA W H0 g ρ tg fun rs g1 => ∀ W', In W W' ρ → C W' g1 rs (fun d => k (.v d)) noX) : wpE W H0 g ρ (tCall (mkSp C) [] E tg) k := fun ps H σ S Q hq => h ps H σ S _ fun rs vs g1 H1 q e o => by
  show mkSp C (vs ++ []) H1 Q E
  rw [List.append_nil]
  exact ⟨_, g1, rs, _, _, o, e.j, q _ (S.to e).in_, fun d v g' H' kd e2 od => hq _ v g' H' kd (e.trans e2) (.v od), fun c g' H' z => z.elim⟩
/-- a call that may raise: what is raised goes to Wx -/
theorem e_callS {Wx : WX} {x : Value → G → Prop} (hx : ∀ ps g H σ c, x c g → Sta W H0 ps g H σ ρ → Wx c none σ H) (h : wpA W H0 g ρ tg fun rs g1 => ∀ W', In W W' ρ → C W' g1 rs (fun d => k (.v d)) x) : wpE W H0 g ρ (tCallS (mkSp C) (WE Wx) tg) k := fun ps H σ S Q hq => h ps H σ S _ fun rs vs g1 H1 q e o => by
  exact ⟨_, g1, rs, _, _, o, e.j, q _ (S.to e).in_, fun d v g' H' kd e2 od => hq _ v g' H' kd (e.trans e2) (.v od), fun c g' H' z e2 => hx ps g' H' σ c z (S.to (e.trans e2))⟩
/-- a call that may raise, in a def whose own promise wishes E -/
theorem e_callX {x : Value → G → Prop} (hx : ∀ c g' H', x c g' → Ext W H0 g' H' → E c none H') (h : wpA W H0 g ρ tg fun rs g1 => ∀ W', In W W' ρ → C W' g1 rs (fun d => k (.v d)) x) : wpE W H0 g ρ (tCall (mkSp C) [] E tg) k := fun ps H σ S Q hq => h ps H σ S _ fun rs vs g1 H1 q e o => by
  show mkSp C (vs ++ []) H1 Q E
  rw [List.append_nil]
  exact ⟨_, g1, rs, _, _, o, e.j, q _ (S.to e).in_, fun d v g' H' kd e2 od => hq _ v g' H' kd (e.trans e2) (.v od), fun c g' H' z e2 => hx c g' H' z (S.to (e.trans e2)).base⟩
theorem e_callK {gV : List V → List V → List V} {gR : List Rs → List Rs → List Rs} (hg : ∀ (W : Wd G) H rs vs zs ws, RsL W H rs vs → RsL W H zs ws → RsL W H (gR rs zs) (gV vs ws)) (h : wpA W H0 g ρ tg fun rs g1 => wpA W H0 g1 ρ tk fun zs g2 => ∀ W', In W W' ρ → C W' g2 (gR rs zs) (fun d => k (.v d)) noX) :
    wpE W H0 g ρ (tCallK (mkSp C) gV E tg tk) k := fun ps H σ S Q hq => h ps H σ S _ fun rs vs g1 H1 q e o => q ps H1 σ (S.to e) _ fun zs ws g2 H2 q2 e2 o2 =>
  ⟨_, g2, _, _, _, hg _ _ _ _ _ _ (o.ext e2) o2, e2.j, q2 _ (S.to (e.trans e2)).in_, fun d v g' H' kd e3 od => hq _ v g' H' kd ((e.trans e2).trans e3) (.v od), fun c g' H' z => z.elim⟩
theorem e_meth {m : Str} (h : wpE W H0 g ρ ta fun r g1 => ∃ fs, r = .v (.ins Cc fs) ∧ fs.lookup m = none ∧ wpA W H0 g1 ρ tg fun rs g2 => ∀ W', In W W' ρ → C W' g2 (r :: rs) (fun d => k (.v d)) noX) : wpE W H0 g ρ (tMeth Cc m (mkSp C) [] E ta tg) k := fun ps H σ S Q hq => h ps H σ S _ fun r v g1 H1 q e o => by
  obtain ⟨fs, rfl, l, q⟩ := q
  have o' := o
  cases o with
  | v o =>
    cases o with
    | ins n p t =>
      refine ⟨_, _, _, rfl, p, t.lookupN l, q ps H1 σ (S.to e) _ fun rs vs g2 H2 q2 e2 o2 => ?_⟩
      show mkSp C (_ :: (vs ++ [])) H2 Q E
      rw [List.append_nil]
      exact ⟨_, g2, _, _, _, .cons (o'.ext e2) o2, e2.j, q2 _ (S.to (e.trans e2)).in_, fun d v g' H' kd e3 od => hq _ v g' H' kd ((e.trans e2).trans e3) (.v od), fun c g' H' z => z.elim⟩
theorem e_methX {m : Str} {x : Value → G → Prop} (hx : ∀ c g' H', x c g' → Ext W H0 g' H' → E c none H') (h : wpE W H0 g ρ ta fun r g1 => ∃ fs, r = .v (.ins Cc fs) ∧ fs.lookup m = none ∧ wpA W H0 g1 ρ tg fun rs g2 => ∀ W', In W W' ρ → C W' g2 (r :: rs) (fun d => k (.v d)) x) : wpE W H0 g ρ (tMeth Cc m (mkSp C) [] E ta tg) k := fun ps H σ S Q hq => h ps H σ S _ fun r v g1 H1 q e o => by
  obtain ⟨fs, rfl, l, q⟩ := q
  have o' := o
  cases o with
  | v o =>
    cases o with
    | ins n p t =>
      refine ⟨_, _, _, rfl, p, t.lookupN l, q ps H1 σ (S.to e) _ fun rs vs g2 H2 q2 e2 o2 => ?_⟩
      show mkSp C (_ :: (vs ++ [])) H2 Q E
      rw [List.append_nil]
      exact ⟨_, g2, _, _, _, .cons (o'.ext e2) o2, e2.j, q2 _ (S.to (e.trans e2)).in_, fun d v g' H' kd e3 od => hq _ v g' H' kd ((e.trans e2).trans e3) (.v od), fun c g' H' z e3 => hx c g' H' z (S.to ((e.trans e2).trans e3)).base⟩
theorem e_prop (h : wpE W H0 g ρ ta fun r g1 => ∃ fs, r = .v (.ins Cc fs) ∧ ∀ W', In W W' ρ → C W' g1 [r] (fun d => k (.v d)) noX) : wpE W H0 g ρ (tProp Cc (mkSp C) [] E ta) k := fun ps H σ S Q hq => h ps H σ S _ fun r v g1 H1 q e o => by
  obtain ⟨fs, rfl, q⟩ := q
  have o' := o
  cases o with
  | v o =>
    cases o with
    | ins n p t => exact ⟨_, _, _, rfl, p, _, g1, _, _, _, .cons o' .nil, e.j, q _ (S.to e).in_, fun d v g' H' kd e3 od => hq _ v g' H' kd (e.trans e3) (.v od), fun c g' H' z => z.elim⟩
end
/-! ### a new instance -/
/-- what __init__ promises: of the arguments behind self, the attributes that it leaves -/
abbrev Ci (G : Type) := Wd G → G → List Rs → (List (Str × D) → G → Prop) → (Value → G → Prop) → Prop
/-- the heap without the object at p -/
def hole (H : Hp) (p : Addr) : Hp := fun b => if b = p then none else H b
theorem hole_eq {H : Hp} {p : Addr} : hole H p p = none := by unfold hole; rw [if_pos rfl]
theorem hole_ne {H : Hp} {p b : Addr} (h : b ≠ p) : hole H p b = H b := by unfold hole; rw [if_neg h]
def inSp (Cc : Addr) (C : Ci G) : Sp := fun vs H Q E => ∃ (W : Wd G) (g : G) (rs : List Rs) (k : List (Str × D) → G → Prop) (x : Value → G → Prop) (p dx : Addr) (us : List V), vs = .ref p :: us ∧ H p = some (.ins Cc dx []) ∧ W.J g (hole H p) ∧ RsL W (hole H p) rs us ∧ C W g rs k x ∧
  (∀ fs gs dy g' H', k fs g' → Ext W (hole H p) g' H' → ¬ W.M p → H' p = some (.ins Cc dy gs) → DtF W.M H' fs gs → Q .non H') ∧ ∀ c g' H', x c g' → Ext W (hole H p) g' H' → E c none H'
section
variable {W : Wd G} {g : G} {H0 : Hp} {ρ : Rho} {ta te : TE} {tg tk : TA} {k : Rs → G → Prop} {C : Ci G} {E : XK} {Cc : Addr}
theorem RsOk.of {G : Type} {W : Wd G} {H H' : Hp} (hk : ∀ a o, H a = some o → H' a = some o) {r : Rs} {v : V} (h : RsOk W H r v) : RsOk W H' r v := by
  cases h with
  | v h => exact .v (Dt.mono (fun a o m e => ⟨m, hk a o e⟩) _ _ h)
  | b h1 h2 h3 => exact .b h1 h2 (DtL.mono (fun a o m e => ⟨m, hk a o e⟩) _ _ h3)
theorem RsL.of {G : Type} {W : Wd G} {H H' : Hp} (hk : ∀ a o, H a = some o → H' a = some o) : ∀ {rs : List Rs} {vs : List V}, RsL W H rs vs → RsL W H' rs vs
  | _, _, .nil => .nil
  | _, _, .cons h t => .cons (h.of hk) (RsL.of hk t)
/-- the heap in which __init__ of a new instance begins -/
theorem made {G : Type} {g : G} {W : Wd G} {H : Hp} {x dx : Addr} {Cc : Addr} (j : W.J g H) (nx : H x = none) (nd : H dx = none) (ne : dx ≠ x) : Ext W H g (hole (upd (upd H dx (.own x)) x (.ins Cc dx [])) x) ∧ ∀ a o, H a = some o → hole (upd (upd H dx (.own x)) x (.ins Cc dx [])) x a = some o := by
  have up : ∀ a o, H a = some o → hole (upd (upd H dx (.own x)) x (.ins Cc dx [])) x a = some o := fun a o e => by
    have h1 : a ≠ x := ne_of_none e nx
    rw [hole_ne h1, upd_ne h1, upd_ne (ne_of_none e nd)]; exact e
  refine ⟨⟨fun a o _ e => up a o e, fun a m => ?_⟩, up⟩
  obtain ⟨o, e, w⟩ := j a m
  exact ⟨o, up a o e, w⟩
theorem unhole {G : Type} {g g' : G} {W : Wd G} {H H' : Hp} {x dx : Addr} {Cc : Addr} (j : W.J g H) (nx : H x = none) (nd : H dx = none) (ne : dx ≠ x) (e : Ext W (hole (upd (upd H dx (.own x)) x (.ins Cc dx [])) x) g' H') : Ext W H g' H' := (made j nx nd ne).1.trans e
theorem e_make (h : wpA W H0 g ρ tg fun rs g1 => ∀ W', In W W' ρ → C W' g1 rs (fun fs => k (.v (.ins Cc fs))) noX) : wpE W H0 g ρ (tMake Cc (inSp Cc C) [] E tg) k := fun ps H σ S Q hq => h ps H σ S _ fun rs vs g1 H1 q e o => by
  intro x dx nx nd ne
  have m := made (Cc := Cc) e.j nx nd ne
  show inSp Cc C (.ref x :: (vs ++ [])) _ _ E
  rw [List.append_nil]
  refine ⟨_, g1, rs, _, _, x, dx, vs, rfl, upd_same, m.1.j, o.of m.2, q _ (S.to e).in_, fun fs gs dy g' H' kf e2 n p t => ⟨rfl, hq _ _ g' H' kf (e.trans (m.1.trans e2)) (.v (.ins n p t))⟩, fun c g' H' z => z.elim⟩
/-- .. that may raise: what is raised goes to Wx -/
theorem e_makeX {x : Value → G → Prop} (hx : ∀ c g' H', x c g' → Ext W H0 g' H' → E c none H') (h : wpA W H0 g ρ tg fun rs g1 => ∀ W', In W W' ρ → C W' g1 rs (fun fs => k (.v (.ins Cc fs))) x) : wpE W H0 g ρ (tMake Cc (inSp Cc C) [] E tg) k := fun ps H σ S Q hq => h ps H σ S _ fun rs vs g1 H1 q e o => by
  intro x dx nx nd ne
  have m := made (Cc := Cc) e.j nx nd ne
  show inSp Cc C (.ref x :: (vs ++ [])) _ _ E
  rw [List.append_nil]
  refine ⟨_, g1, rs, _, _, x, dx, vs, rfl, upd_same, m.1.j, o.of m.2, q _ (S.to e).in_, fun fs gs dy g' H' kf e2 n p t => ⟨rfl, hq _ _ g' H' kf (e.trans (m.1.trans e2)) (.v (.ins n p t))⟩, fun c g' H' z e2 => hx c g' H' z (S.to (e.trans (m.1.trans e2))).base⟩
end
/-! ### the rule for a def -/
/-- the frame at the entry -/
def st0 (n : Nat) (rs : List Rs) : Rho := rs.map Sl.r ++ List.replicate (n - rs.length) .un
theorem RsL.get {G : Type} {W : Wd G} {H : Hp} : ∀ {rs : List Rs} {vs : List V} {i : Nat} {r : Rs}, RsL W H rs vs → rs[i]? = some r → ∃ v, vs[i]? = some v ∧ RsOk W H r v
  | _, _, _, _, .nil, e => by simp at e
  | _, _, 0, _, .cons r _, e => by simp at e; subst e; exact ⟨_, rfl, r⟩
  | _, _, i + 1, d, .cons _ t, e => by
    obtain ⟨v, h1, h2⟩ := RsL.get (i := i) (r := d) t (by simpa using e)
    exact ⟨v, by simpa using h1, h2⟩
theorem sta0 {W : Wd G} {g : G} {H : Hp} {N : List Str} {rs : List Rs} {vs : List V} (o : RsL W H rs vs) (j : W.J g H) : Sta W H [] g H (L2.start N vs) (st0 N.length rs) := by
  have hl : vs.length = rs.length := o.length
  have cs : ∀ {i : Nat} {s : Sl}, (st0 N.length rs)[i]? = some s → (∃ r v, rs[i]? = some r ∧ s = .r r ∧ (L2.start N vs)[i]? = some (some v) ∧ RsOk W H r v) ∨ (s = .un ∧ (L2.start N vs)[i]? = some none) := fun {i s} h => by
    unfold st0 at h
    unfold L2.start
    by_cases hi : i < rs.length
    · rw [List.getElem?_append_left (by simpa using hi), List.getElem?_map] at h
      rw [List.getElem?_append_left (by simpa [hl] using hi), List.getElem?_map]
      obtain ⟨r, hr⟩ : ∃ r, rs[i]? = some r := ⟨rs[i], List.getElem?_eq_getElem hi⟩
      rw [hr] at h
      obtain ⟨v, hv, ok⟩ := o.get hr
      rw [hv]
      exact .inl ⟨r, v, hr, (Option.some.inj h).symm, rfl, ok⟩
    · have hi' : (rs.map Sl.r).length ≤ i := by simp; omega
      rw [List.getElem?_append_right hi'] at h
      rw [List.getElem?_append_right (by simp [hl]; omega)]
      simp only [List.length_map] at h ⊢
      rw [hl]
      rw [List.getElem?_replicate] at h ⊢
      by_cases hb : i - rs.length < N.length - rs.length
      · rw [if_pos hb] at h
        rw [if_pos hb]
        exact .inr ⟨(Option.some.inj h).symm, rfl⟩
      · rw [if_neg hb] at h; cases h
  refine ⟨?_, fun i s h => ?_, List.nodup_nil, (fun p h => nomatch h), fun i s h hs => ?_, fun i j s t h1 h2 h3 => ?_, fun i ds h => ?_, ?_⟩
  · unfold L2.start st0
    simp [hl]
  · rw [pinW_nil]
    rcases cs h with ⟨r, v, _, rfl, e, ok⟩ | ⟨rfl, e⟩
    · exact ⟨_, e, v, rfl, ok⟩
    · exact ⟨_, e, trivial⟩
  · rcases cs h with ⟨r, v, _, rfl, _⟩ | ⟨rfl, e⟩
    · cases hs
    · cases hs
  · rcases cs h1 with ⟨r, v, _, rfl, _⟩ | ⟨rfl, e⟩
    · cases h3
    · cases h3
  · rcases cs h with ⟨r, v, _, q, e, ok⟩ | ⟨q, e⟩
    · cases q
      cases ok with
      | b h1 h2 h3 => exact ⟨_, e, h1⟩
    · cases q
  · rw [pinW_nil]; exact Ext.refl j
section
variable {P : Program} {w : World} {K : PySem.W.Frag} {mg : Str → Option Value} {base : Heap}
/-- a def that raises nothing -/
theorem Fun_t {x qual : Str} {st : Stmt} {f : Addr} {fd : FuncData} {N ps : List Str} {k : Nat} {C : Ct G} (F : Fun K x qual st f fd) (S : FnScope N ps (defScope st)) (len : ∀ W g rs k x, C W g rs k x → rs.length = ps.length)
    (hbody : ∀ (cdv : Value) (A : Around) (outer : List Env) (s : Shared) (H : Hp) (E : XK) (W : Wd G) (g : G) (rs : List Rs) (kd : D → G → Prop) (x : Value → G → Prop), Room k (A.deeper (PyProof.Rows.envOfC qual (defScope st) s.heap.objs.size f cdv)) → C W g rs kd x →
      ∃ t, PSs (cxOf CX0 P w K mg base N qual (defScope st) f cdv A outer s H E).nox (defBody st) t ∧ wpS W H g (st0 N.length rs) t ⟨fun _ => kd .non, kd, fun _ _ => False, fun _ _ => False⟩) : FnOk P w K mg base CX0 (k + 1) f fd ps (mkSp C) := by
  refine F.ok S (fun vs H Q E h => ?_) fun cdv A outer s H vs Q E hr h => ?_
  · obtain ⟨W, g, rs, kd, x, o, j, c, _⟩ := h
    rw [o.length]; exact len W g rs kd x c
  · obtain ⟨W, g, rs, kd, x, o, j, c, hq, hx⟩ := h
    obtain ⟨t, h1, h2⟩ := hbody cdv A outer s H E W g rs kd x hr c
    exact ⟨t, h1, h2 [] H (L2.start N vs) _ (sta0 o j) ⟨fun ps' g' H' σ' ρ' q S' _ => hq _ _ g' H' q S'.base .non, fun d v g' H' q e t => hq d v g' H' q e t, fun _ _ _ _ _ q => q.elim, fun _ _ _ _ _ q => q.elim⟩⟩
/-- a def that may raise -/
theorem Fun_tX {x qual : Str} {st : Stmt} {f : Addr} {fd : FuncData} {N ps : List Str} {k : Nat} {C : Ct G} (F : Fun K x qual st f fd) (S : FnScope N ps (defScope st)) (len : ∀ W g rs k x, C W g rs k x → rs.length = ps.length)
    (hbody : ∀ (cdv : Value) (A : Around) (outer : List Env) (s : Shared) (H : Hp) (E : XK) (W : Wd G) (g : G) (rs : List Rs) (kd : D → G → Prop) (x : Value → G → Prop), Room k (A.deeper (PyProof.Rows.envOfC qual (defScope st) s.heap.objs.size f cdv)) → C W g rs kd x → (∀ c g' H', x c g' → Ext W H g' H' → E c none H') →
      ∃ t, PSs (cxOf (L2.CX P w) P w K mg base N qual (defScope st) f cdv A outer s H E) (defBody st) t ∧ wpS W H g (st0 N.length rs) t ⟨fun _ => kd .non, kd, fun _ _ => False, fun _ _ => False⟩) : FnOk P w K mg base (L2.CX P w) (k + 1) f fd ps (mkSp C) := by
  refine F.okX S (fun vs H Q E h => ?_) fun cdv A outer s H vs Q E hr h => ?_
  · obtain ⟨W, g, rs, kd, x, o, j, c, _⟩ := h
    rw [o.length]; exact len W g rs kd x c
  · obtain ⟨W, g, rs, kd, x, o, j, c, hq, hx⟩ := h
    obtain ⟨t, h1, h2⟩ := hbody cdv A outer s H E W g rs kd x hr c hx
    exact ⟨t, h1, h2 [] H (L2.start N vs) _ (sta0 o j) ⟨fun ps' g' H' σ' ρ' q S' _ => hq _ _ g' H' q S'.base .non, fun d v g' H' q e t => hq d v g' H' q e t, fun _ _ _ _ _ q => q.elim, fun _ _ _ _ _ q => q.elim⟩⟩
end
/-- raise X('..') in a def whose promise wishes E -/
theorem s_raise {W : Wd G} {g : G} {H0 : Hp} {ρ : Rho} {K : TK G} {E : XK} {c : Value} (h : ∀ H', Ext W H0 g H' → E c none H') : wpS W H0 g ρ (fun _ σ H => (fun (_ : L2.St) H (Q : XK) => Q c none H) σ H fun cls d H' => (fun (cls : Value) (d : Option Addr) (_ : L2.St) (H : Hp) => E cls d H) cls d σ H') K := fun ps H σ De S k => h H S.base
end TL
set_option Elab.async false
set_option linter.all false
set_option maxRecDepth 100000
namespace TL
open PySem PySem.Spec L2
/-! ### __init__ -/
def putD (f : Str) (d : D) : List (Str × D) → List (Str × D)
  | [] => [(f, d)]
  | (g, e) :: r => if g = f then (g, d) :: r else (g, e) :: putD f d r
variable {G : Type} [Gh G]
section
variable {M : Addr → Prop} {W : Wd G} {g g1 g2 : G} {H0 H : Hp} {ρ : Rho} {ps : Pins} {σ : L2.St} {te ta : TE} {K : TK G} {F : PySem.W.Frag} {i : Nat} {p C : Addr}
theorem DtF.put {f : Str} {d : D} {v : V} (h : Dt M H d v) : ∀ {fs : List (Str × D)} {gs : List (Str × V)}, DtF M H fs gs → DtF M H (putD f d fs) (putF f v gs)
  | _, _, .nil => .cons h .nil
  | _, _, .cons (f := g) h1 t => by
    by_cases e : g = f
    · show DtF M H (if g = f then _ else _) (if g = f then _ else _)
      rw [if_pos e, if_pos e]
      exact .cons h t
    · show DtF M H (if g = f then _ else _) (if g = f then _ else _)
      rw [if_neg e, if_neg e]
      exact .cons h1 (DtF.put h t)
theorem Sta.oiAt {fs : List (Str × D)} (S : Sta W H0 ps g H σ ρ) (hi : ρ[i]? = some (.oi p C fs)) : ∃ dx gs, σ[i]? = some (some (.ref p)) ∧ (p, some (HO.ins C dx gs)) ∈ ps ∧ H p = some (.ins C dx gs) ∧ DtF (pinW W ps).M H fs gs ∧ ¬ W.M p := by
  obtain ⟨o, e1, v, rfl, rfl, w⟩ := S.at_ i _ hi
  obtain ⟨a, u, e2, hm, hu⟩ := S.own i _ hi rfl
  rw [e1] at e2
  cases e2
  cases w with
  | mk h1 h2 h3 =>
    obtain rfl : u = some _ := S.ownL hm (fun ⟨_, z⟩ => nomatch z) hu h2
    exact ⟨_, _, e1, hm, S.pin hm, h3, (S.out _ hm).2⟩
/-- self.f = e -/
theorem s_fld {f : Str} {fs : List (Str × D)} (hi : ρ[i]? = some (.oi p C fs)) (c : Cls F C) (n : NoAttr F C f) (hl : fs.length < 900) (h : wpE W H0 g ρ te fun r g1 => ∃ d, r = .v d ∧ K.nx (ρ.set i (.oi p C (putD f d fs))) g1) : wpS W H0 g ρ (sFld F (tVar i) te f) K := fun ps H σ De S k => h ps H σ S _ fun r v g1 H1 q e o => by
  obtain ⟨d, rfl, q⟩ := q
  cases o with
  | v o =>
    obtain ⟨dx, gs, e1, hm, hp, t, nM⟩ := (S.to e).oiAt hi
    have t2 : DtF (pinW W ps).M H1 (putD f d fs) (putF f v gs) := DtF.put o t
    have hin : (p, some (HO.ins C dx (putF f v gs))) ∈ repl ps p (some (.ins C dx (putF f v gs))) := mem_repl.mpr (.inr ⟨rfl, rfl, _, hm⟩)
    obtain ⟨S2, n2⟩ := (S.to e).change (s' := .oi p C (putD f d fs)) (o' := some (.ins C dx (putF f v gs))) (H' := upd H1 p (.ins C dx (putF f v gs))) hi rfl e1 hm upd_same rfl ⟨(fun z => nomatch z), fun ⟨_, z⟩ => nomatch z⟩ (fun b u hb e => by rw [upd_ne hb]; exact e) rfl
      ⟨_, rfl, rfl, .mk (pin_in hin) (fun g o z => by
        rcases z with ⟨q, z, w⟩ | z
        · rcases mem_repl.mp z with ⟨z, _⟩ | ⟨_, z, _⟩
          · exact absurd rfl z
          · subst z; exact w
        · exact absurd ⟨g, o, z⟩ nM) (DtF.mono (fun b w m e => by
          have hb : b ≠ p := fun z => m (by subst z; exact pin_in hm)
          refine ⟨fun ⟨g, x, z⟩ => m ?_, by rw [upd_ne hb]; exact e⟩
          rcases z with ⟨_, z, _⟩ | z
          · rcases mem_repl.mp z with ⟨_, z⟩ | ⟨z, _⟩
            · exact pin_in z
            · exact absurd z hb
          · exact ⟨g, x, .inr z⟩) _ _ t2)⟩
    exact ⟨_, e1, p, C, dx, gs, rfl, hp, c, n, by rw [t.length]; omega, k.nx _ _ _ _ _ q S2 ((Nxt.of e).trans n2 e.j)⟩
/-- e.f where e is self in its __init__ -/
theorem e_fldO {f : Str} {fs : List (Str × D)} {d : D} {k : Rs → G → Prop} (hi : ρ[i]? = some (.oi p C fs)) (c : Cls F C) (n : NoAttr F C f) (l : fs.lookup f = some d) (q : k (.v d) g) : wpE W H0 g ρ (tFld F (tVar i) f) k := fun ps H σ S Q hq => by
  obtain ⟨dx, gs, e1, hm, hp, t, _⟩ := S.oiAt hi
  obtain ⟨v, l2, h2⟩ := t.lookup l
  exact ⟨_, e1, p, C, dx, gs, v, rfl, hp, c, n, l2, hq _ v g H q (Ext.refl S.j) (.v h2)⟩
end
section
variable {P : Program} {w : World} {K : PySem.W.Frag} {mg : Str → Option Value} {base : Heap}
theorem staI {W : Wd G} {g : G} {H : Hp} {N : List Str} {rs : List Rs} {us : List V} {p dx C : Addr} (o : RsL W (hole H p) rs us) (j : W.J g (hole H p)) (hp : H p = some (.ins C dx [])) :
    Sta W (hole H p) [(p, some (.ins C dx []))] g H (L2.start N (.ref p :: us)) (.oi p C [] :: (st0 N.length (.b [] :: rs)).tail) := by
  have nM : ¬ W.M p := fun m => by
    obtain ⟨u, e, _⟩ := j p m
    rw [hole_eq] at e; cases e
  have up : ∀ a u, hole H p a = some u → H a = some u ∧ a ≠ p := fun a u e => by
    by_cases h : a = p
    · subst h; rw [hole_eq] at e; cases e
    · rw [hole_ne h] at e; exact ⟨e, h⟩
  have sm : ∀ a, a ≠ p → ∀ g u, (pinW W [(p, some (.ins C dx []))]) g a u ↔ W g a u := fun a h g u => ⟨fun z => by
    rcases z with ⟨_, z, _⟩ | z
    · rcases List.mem_cons.mp z with z | z
      · cases z; exact absurd rfl h
      · cases z
    · exact z, .inr⟩
  have jp : (pinW W [(p, some (.ins C dx []))]).J g H := fun a m => by
    by_cases h : a = p
    · subst h; exact ⟨_, hp, .inl ⟨_, List.mem_cons_self, rfl⟩⟩
    · obtain ⟨g', u, m⟩ := m
      obtain ⟨o', e, w'⟩ := j a ⟨g', u, (sm a h g' u).mp m⟩
      exact ⟨o', (up a o' e).1, (sm a h g o').mpr w'⟩
  have ok : ∀ {r v}, RsOk W (hole H p) r v → RsOk (pinW W [(p, some (.ins C dx []))]) H r v := fun {r v} h => by
    have mo : ∀ a u, ¬ W.M a → hole H p a = some u → ¬ (pinW W [(p, some (.ins C dx []))]).M a ∧ H a = some u := fun a u m e => ⟨fun ⟨g', z, hz⟩ => m ⟨g', z, (sm a (up a u e).2 g' z).mp hz⟩, (up a u e).1⟩
    cases h with
    | v h => exact .v (Dt.mono mo _ _ h)
    | b h1 h2 h3 =>
      have hb : ∀ a, W.M a → a ≠ p := fun a m z => by subst z; exact nM m
      exact .b (by obtain ⟨g', u, hu⟩ := h1; exact ⟨g', u, .inr hu⟩) (fun g' o z => h2 g' o ((sm _ (hb _ h1) g' o).mp z)) (DtL.mono mo _ _ h3)
  have hl : us.length = rs.length := o.length
  have tl : ∀ (i : Nat), (st0 N.length (.b [] :: rs)).tail[i]? = (st0 N.length (.b [] :: rs))[i + 1]? := fun i => by rw [List.getElem?_tail]
  have cs : ∀ {i : Nat} {s : Sl}, ((Sl.oi p C [] :: (st0 N.length (.b [] :: rs)).tail) : Rho)[i]? = some s → (i = 0 ∧ s = .oi p C []) ∨ (∃ r v, s = .r r ∧ (L2.start N (.ref p :: us))[i]? = some (some v) ∧ RsOk W (hole H p) r v) ∨ (s = .un ∧ (L2.start N (.ref p :: us))[i]? = some none) := fun {i s} h => by
    cases i with
    | zero => exact .inl ⟨rfl, (Option.some.inj h).symm⟩
    | succ i =>
      rw [List.getElem?_cons_succ, tl] at h
      refine .inr ?_
      unfold st0 at h
      unfold L2.start
      by_cases hi : i < rs.length
      · rw [List.getElem?_append_left (by simpa using hi), List.getElem?_map, List.getElem?_cons_succ] at h
        rw [List.getElem?_append_left (by simpa [hl] using hi), List.getElem?_map, List.getElem?_cons_succ]
        obtain ⟨r, hr⟩ : ∃ r, rs[i]? = some r := ⟨rs[i], List.getElem?_eq_getElem hi⟩
        rw [hr] at h
        obtain ⟨v, hv, k⟩ := o.get hr
        rw [hv]
        exact .inl ⟨r, v, (Option.some.inj h).symm, rfl, k⟩
      · rw [List.getElem?_append_right (by simp; omega)] at h
        rw [List.getElem?_append_right (by simp [hl]; omega)]
        simp only [List.length_map, List.length_cons] at h ⊢
        rw [hl]
        rw [List.getElem?_replicate] at h ⊢
        by_cases hb : i + 1 - (rs.length + 1) < N.length - (rs.length + 1)
        · rw [if_pos hb] at h
          rw [if_pos hb]
          exact .inr ⟨(Option.some.inj h).symm, rfl⟩
        · rw [if_neg hb] at h; cases h
  have z0 : (L2.start N (.ref p :: us))[0]? = some (some (.ref p)) := by
    unfold L2.start
    simp
  refine ⟨?_, fun i s h => ?_, ?_, fun q h => ?_, fun i s h hs => ?_, fun i j' s t h1 h2 h3 h4 _ => ?_, fun i ds h => ?_, ⟨fun a u m e => (up a u e).1, jp⟩⟩
  · unfold L2.start st0
    simp [hl]
  · rcases cs h with ⟨rfl, rfl⟩ | ⟨r, v, rfl, e, k⟩ | ⟨rfl, e⟩
    · exact ⟨_, z0, _, rfl, rfl, .mk (pin_in List.mem_cons_self) (fun g' o' z => by
        rcases z with ⟨q, z, w⟩ | z
        · rcases List.mem_cons.mp z with z | z
          · cases z; exact w
          · cases z
        · exact absurd ⟨g', o', z⟩ nM) .nil⟩
    · exact ⟨_, e, v, rfl, ok k⟩
    · exact ⟨_, e, trivial⟩
  · simp
  · rcases List.mem_cons.mp h with h | h
    · subst h; exact ⟨hole_eq, nM⟩
    · cases h
  · rcases cs h with ⟨rfl, rfl⟩ | ⟨r, v, rfl, e, k⟩ | ⟨rfl, e⟩
    · exact ⟨p, _, z0, List.mem_cons_self, (fun z => nomatch z), fun ⟨_, z⟩ => nomatch z⟩
    · cases hs
    · cases hs
  · rcases cs h1 with ⟨rfl, _⟩ | ⟨r, v, rfl, _⟩ | ⟨rfl, _⟩
    · rcases cs h2 with ⟨rfl, _⟩ | ⟨r, v, rfl, _⟩ | ⟨rfl, _⟩
      · rfl
      · cases h4
      · cases h4
    · cases h3
    · cases h3
  · rcases cs h with ⟨_, q⟩ | ⟨r, v, q, e, k⟩ | ⟨q, _⟩
    · cases q
    · cases q
      cases k with
      | b h1 h2 h3 => exact ⟨_, e, h1⟩
    · cases q
/-- an __init__ that may raise -/
theorem Fun_init {x qual : Str} {st : Stmt} {f : Addr} {fd : FuncData} {N ps : List Str} {k : Nat} {C : Ci G} {Cc : Addr} (F : Fun K x qual st f fd) (S : FnScope N ps (defScope st)) (len : ∀ W g rs k x, C W g rs k x → rs.length + 1 = ps.length)
    (hbody : ∀ (cdv : Value) (A : Around) (outer : List Env) (s : Shared) (H : Hp) (E : XK) (W : Wd G) (g : G) (p : Addr) (rs : List Rs) (kd : List (Str × D) → G → Prop) (x : Value → G → Prop), Room k (A.deeper (PyProof.Rows.envOfC qual (defScope st) s.heap.objs.size f cdv)) → C W g rs kd x → (∀ c g' H', x c g' → Ext W (hole H p) g' H' → E c none H') →
      ∃ t, PSs (cxOf (L2.CX P w) P w K mg base N qual (defScope st) f cdv A outer s H E) (defBody st) t ∧
        wpS W (hole H p) g (.oi p Cc [] :: (st0 N.length (.b [] :: rs)).tail) t ⟨fun ρ' g' => ∃ fs, ρ'[0]? = some (.oi p Cc fs) ∧ kd fs g', fun _ _ => False, fun _ _ => False, fun _ _ => False⟩) : FnOk P w K mg base (L2.CX P w) (k + 1) f fd ps (inSp Cc C) := by
  refine F.okX S (fun vs H Q E h => ?_) fun cdv A outer s H vs Q E hr h => ?_
  · obtain ⟨W, g, rs, kd, x, p, dx, us, rfl, hp, j, o, c, _⟩ := h
    rw [List.length_cons, o.length]; exact len W g rs kd x c
  · obtain ⟨W, g, rs, kd, x, p, dx, us, rfl, hp, j, o, c, hq, hx⟩ := h
    obtain ⟨t, h1, h2⟩ := hbody cdv A outer s H E W g p rs kd x hr c hx
    refine ⟨t, h1, h2 _ H _ _ (staI o j hp) ⟨fun ps' g' H' σ' ρ' q S' _ => ?_, fun d v g' H' q => q.elim, fun _ _ _ _ _ q => q.elim, fun _ _ _ _ _ q => q.elim⟩⟩
    obtain ⟨fs, q0, q⟩ := q
    obtain ⟨dy, gs, e1, hm, hp', t', nM⟩ := S'.oiAt q0
    exact hq fs gs dy g' H' q S'.base nM hp' (DtF.mono (fun a u m e => ⟨fun z => m (pin_m z), e⟩) _ _ t')
end
/-! ### try: .. except X: .. (the suite returns) -/
abbrev TK.ret (K : TK G) : TK G := ⟨fun _ _ => False, K.rt, fun _ _ => False, fun _ _ => False⟩
theorem KOk.ret {K : TK G} {W : Wd G} {H0 : Hp} {ps ps' : Pins} {H H' : Hp} {De : Ends} (k : KOk K W H0 ps H De) : KOk K.ret W H0 ps' H' De := ⟨fun _ _ _ _ _ q => q.elim, k.rt, fun _ _ _ _ _ q => q.elim, fun _ _ _ _ _ q => q.elim⟩
theorem s_try {W : Wd G} {g : G} {H0 : Hp} {ρ : Rho} {K : TK G} {F : PySem.W.Frag} {c : Value} {tb : WX → TS} {ts : Addr → Value → Option Addr → TS} {Wout : WX} (x : Value → G → Prop) (ok : ∀ cl g', x cl g' → PySem.W.exmOne F cl c = some true)
    (suite : ∀ a cl g', x cl g' → wpS W H0 g' ρ (ts a cl none) K.ret) (body : ∀ Wx : WX, (∀ ps g' H σ cl, x cl g' → Sta W H0 ps g' H σ ρ → Wx cl none σ H) → wpS W H0 g ρ (tb Wx) K) : wpS W H0 g ρ (fun D σ H => tb (wOnly F c ts Wout D) D σ H) K := fun ps H σ De S k =>
  body (wOnly F c ts Wout De) (fun ps' g' H' σ' cl hx S' => ⟨true, ok cl g' hx, fun _ a _ => suite a cl g' hx ps' H' σ' De S' k.ret, fun q => nomatch q⟩) ps H σ De S k
end TL
set_option Elab.async false
set_option linter.all false
set_option maxRecDepth 100000
namespace TL
open PySem PySem.Spec L2
/-! ### defs that ask what repr asks: no repr is under way around them -/
structure FnG (P : Program) (w : World) (K : PySem.W.Frag) (mg : Str → Option Value) (base : Heap) (CX : CXT) (k : Nat) (f : Addr) (fd : FuncData) (ps : List Str) (sp : Sp) : Prop where
  len : ∀ vs H Q E, sp vs H Q E → vs.length = ps.length
  run : ∀ (A : Around) (outer : List Env) (s : Shared) (H : Hp) (args : Args) (us : List Value) (vs : List V) (Q : VK) (E : XK), Room k A → A.guards = some [] → Env0 P w K mg base A outer s H → BindsTo s fd args (ps.zip us) → Vals vs us → sp vs H Q E →
    codeAny (model P w) A (.call (.ref f) args) (CR CX outer P w H s Q E) s
section
variable {P : Program} {w : World} {K : PySem.W.Frag} {mg : Str → Option Value} {base : Heap} {CX : CXT}
theorem FnG.of {k : Nat} {f : Addr} {fd : FuncData} {ps : List Str} {sp : Sp} (F : FnOk P w K mg base CX k f fd ps sp) : FnG P w K mg base CX k f fd ps sp := ⟨F.len, fun A outer s H args us vs Q E hr _ => F.run A outer s H args us vs Q E hr⟩
variable {G : Type} [Gh G]
/-- as the layer's rule for a def, the guards told -/
theorem Fun_g {x qual : Str} {st : Stmt} {f : Addr} {fd : FuncData} {N ps : List Str} {k : Nat} {C : Ct G} (F : Fun K x qual st f fd) (S : FnScope N ps (defScope st)) (len : ∀ W g rs k x, C W g rs k x → rs.length = ps.length)
    (hbody : ∀ (cdv : Value) (A : Around) (outer : List Env) (s : Shared) (H : Hp) (E : XK) (W : Wd G) (g : G) (rs : List Rs) (kd : D → G → Prop) (x : Value → G → Prop), Room k (A.deeper (PyProof.Rows.envOfC qual (defScope st) s.heap.objs.size f cdv)) → A.guards = some [] → C W g rs kd x →
      ∃ t, PSs (cxOf CX0 P w K mg base N qual (defScope st) f cdv A outer s H E).nox (defBody st) t ∧ wpS W H g (st0 N.length rs) t ⟨fun _ => kd .non, kd, fun _ _ => False, fun _ _ => False⟩) : FnG P w K mg base CX0 (k + 1) f fd ps (mkSp C) := by
  obtain ⟨oc, od, kV, doc, pm, an, cdv, ct, osl, rfl, lk, hcd⟩ := F.ex
  have lenS : ∀ vs H Q E, mkSp C vs H Q E → vs.length = ps.length := fun vs H Q E ⟨W, g, rs, kd, x, o, j, c, _⟩ => by rw [o.length]; exact len W g rs kd x c
  refine ⟨lenS, fun A outer s H args us vs Q E hr hg e0 hb r hsp => ?_⟩
  have hl := lenS _ _ _ _ hsp
  have kIn : K.In s.heap := e0.mod.kin.keeps fun b o e => (e0.bs b o e).1
  refine codeAny_call_function hr.depth (kIn _ _ lk) rfl S.co S.gen rfl (PySem.W.codeRec_of kIn hcd) (hb _ _ _ _ ?_)
  refine wpAny_newFunctionEnv_cells S.kind (fun y hy => ?_) fun env he s1 x => ?_
  · rcases S.par y.1 (List.of_mem_zip hy).1 with q | q
    · exact .inl q
    · exact .inr ⟨q, PySem.W.cellsFrom_some _ _ _ (.inl q)⟩
  subst he
  refine ⟨(e0.mod.nolimit.keeps fun b o e => (e0.bs b o e).1).keeps x.toInCall.keep, codeAny_func ?_⟩
  obtain ⟨W, g, rs, kd, xx, o, j, c, hq, hx⟩ := hsp
  obtain ⟨t, ht, wt⟩ := hbody cdv A outer s H E W g rs kd xx (hr.deeper _) hg c
  have I : Inv (cxOf CX0 P w K mg base N qual (defScope st) f cdv A outer s H E) [] (L2.start N vs) H s1 := inv_start S hr.hd e0 hl r x
  have go := wt [] H (L2.start N vs) { nx := fun _ H' => Q .non H', rt := Q, bk := fun _ _ => False, ct := fun _ _ => False } (sta0 o j) ⟨fun ps' g' H' σ' ρ' q S' _ => hq _ _ g' H' q S'.base .non, fun d v g' H' q e t => hq d v g' H' q e t, fun _ _ _ _ _ q => q.elim, fun _ _ _ _ _ q => q.elim⟩
  refine wpAny_mono (ht.nox.run [] s1 (L2.start N vs) H _ I go) (fun fl s' hs => ?_) fun e s' hs => hs
  cases fl with
  | ret u => obtain ⟨v, σ', H', J, rv, q⟩ := hs; exact ⟨v, H', J.os, J.bare, J.base, J.hok, rv, q⟩
  | next => obtain ⟨σ', H', J, q⟩ := hs; exact ⟨V.non, H', J.os, J.bare, J.base, J.hok, rfl, q⟩
  | brk => obtain ⟨_, _, _, q⟩ := hs; exact False.elim q
  | cont => obtain ⟨_, _, _, q⟩ := hs; exact False.elim q
end
section
variable {X : Cx} {CX : CXT} {k : Nat} {f : Addr} {fd : FuncData} {ps : List Str} {sp : Sp} {E : XK} {x : Str} {p pos : Pos} {e : Expr} {es : List Expr} {t : TA}
theorem pe_callG (F : FnG X.prog X.w X.K X.mg X.base CX k f fd ps sp) (hgu : X.A.guards = some []) (hr : Room k X.A) (hg : Gl X x) (hm : X.mg x = some (.ref f)) (hk : PySem.W.keepIn X.K (.ref f) = true) (hb : Binds X.K fd ps []) (hx : Passes CX X E)
    (ha : PA X (e :: es) t) (hdb : (x == ("__debug__" : Str)) = false := by decide) (he : starEach (e :: es) X.env = (false, eval e X.env) :: starEach es X.env := by rfl) (hpl : (backTo pos (starEach es X.env)).any (·.1) = false := by rfl) :
    PE X (.Call (.Name x p) (e :: es) [] pos) (tCall sp [] E t) := by
  refine ⟨fun pins s σ H Q I h => wpAny_Call_Name_kw (ld_glob I hg hm ?_ hdb)⟩
  refine PySem.W.callWith_K (h₀ := X.base) I.ok.mod.kin hk (thn (ha.run pos pins s σ H _ I h) fun us s1 ⟨vs, H1, I1, r, q⟩ => ⟨I1.kIn, ?_⟩) he hpl
  have q' : sp vs H1 Q E := by
    have q2 : sp (vs ++ []) H1 Q E := q
    rw [List.append_nil] at q2; exact q2
  have hl : (us ++ []).length = ps.length := by rw [List.append_nil, ← r.length]; exact F.len _ _ _ _ q'
  have hb' := hb s1 us I1.kIn hl
  rw [List.append_nil] at hb'
  refine wpAny_call (codeAny_mono (F.run X.A X.stack s1 H1 ⟨us, []⟩ us vs Q E hr hgu I1.env0 hb' r q') fun r s' hq => ?_)
  cases r with
  | error e => exact hx pins σ H1 s1 e s' I1 hq
  | ok fl =>
    cases fl with
    | ret u => exact I1.after hq
    | next => exact False.elim hq
    | brk => exact False.elim hq
    | cont => exact False.elim hq
end
/-! ### repr of data -/
def rRepr (K : PySem.W.Frag) : List V → Hp → VK → Prop := fun xs H Q => ∃ (a : Addr) (d : PyData), xs = [.ref a] ∧ Dp K H (.ref a) d ∧ d.showable = true ∧ d.hasDict = false ∧ d.depth ≤ 60 ∧ d.shown.length ≤ sizeLine ∧ Q (.str d.shown) H
theorem cr_repr {X : Cx} (hg : X.A.guards = some []) (hu : X.A.units + 64 < cLine) : CallR X (.builtin "repr") (rRepr X.K) := fun pins s σ H xs us Q I r h => by
  obtain ⟨a, d, rfl, hd, hs, hn, dd, hz, q⟩ := h
  rw [Vals.ref1 r]
  obtain ⟨as, rd⟩ := Dp.reads I d (.ref a) (.ref a) hd rfl
  exact repr_of_reads' rd hs (PyData.noDict_hsm hn) hg (by omega) (fun _ _ e => e) (fun h' u tk hk => ⟨.str d.shown, H, I.kept hk, ⟨u, rfl⟩, q⟩) hz
end TL
set_option Elab.async false
set_option linter.all false
set_option maxRecDepth 100000
namespace TL
open PySem PySem.Spec L2
/-! ### three comparisons in a row -/
def tChain3 (r1 r2 r3 : R2) (ta tb tc td : TE) : TE := fun σ H Q => ta σ H fun x H1 => tb σ H1 fun y H2 => r1 x y H2 fun z H3 => ∃ k, z = .bl k ∧ if k = true then (tc σ H3 fun u H4 => r2 y u H4 fun z' H5 => ∃ k', z' = .bl k' ∧ if k' = true then td σ H5 fun w H6 => r3 u w H6 Q else Q (.bl false) H5) else Q (.bl false) H3
section
variable {X : Cx} {o1 o2 o3 : CmpOp} {r1 r2 r3 : R2} {a b c d : Expr} {ta tb tc td : TE} {pos : Pos}
theorem pe_chain3 (h1 : OpR X (compareOp o1) r1) (h2 : OpR X (compareOp o2) r2) (h3 : OpR X (compareOp o3) r3) (ha : PE X a ta) (hb : PE X b tb) (hc : PE X c tc) (hd : PE X d td)
    (hm : lastMarks [o1, o2, o3] [b, c, d] = false := by with_unfolding_all rfl) : PE X (.Compare a [o1, o2, o3] [b, c, d] pos) (tChain3 r1 r2 r3 ta tb tc td) := by
  refine ⟨fun pins s σ H Q I h => ?_⟩
  refine PyProof.Rows.Compare_chain (thn (ha.run pins s σ H _ I h) fun v s1 ⟨x, H1, I1, e1, q1⟩ => PyProof.Rows.chain_link (thn (hb.run pins s1 σ H1 _ I1 q1) fun u s2 ⟨y, H2, I2, e2, q2⟩ => thn (h1 pins s2 σ H2 x y v u _ I2 e1 e2 q2) fun g s3 ⟨z, H3, I3, e3, k, ez, q3⟩ => ?_)) hm
  subst ez
  cases e3
  refine wpAny_truthy_bool ?_
  cases k with
  | false => exact PyProof.Rows.ite_ff ⟨.bl false, H3, I3, rfl, q3⟩
  | true =>
    refine PyProof.Rows.ite_tt (PyProof.Rows.chain_link (thn (hc.run pins s3 σ H3 _ I3 q3) fun u' s4 ⟨y', H4, I4, e4, q4⟩ => thn (h2 pins s4 σ H4 y y' u u' _ I4 e2 e4 q4) fun g' s5 ⟨z', H5, I5, e5, k', ez', q5⟩ => ?_))
    subst ez'
    cases e5
    refine wpAny_truthy_bool ?_
    cases k' with
    | false => exact PyProof.Rows.ite_ff ⟨.bl false, H5, I5, rfl, q5⟩
    | true => exact PyProof.Rows.ite_tt (PyProof.Rows.chain_last (thn (hd.run pins s5 σ H5 _ I5 q5) fun w' s6 ⟨z6, H6, I6, e6, q6⟩ => h3 pins s6 σ H6 y' z6 u' w' Q I6 e4 e6 q6))
end
section
variable {G : Type} [Gh G] {W : Wd G} {g : G} {H0 : Hp} {ρ : Rho} {ta tb tc td te : TE} {k : Rs → G → Prop} {K : PySem.W.Frag}
theorem e_chain3 {r1 r2 r3 : R2} (h : wpE W H0 g ρ ta fun x g1 => wpE W H0 g1 ρ tb fun y g2 => wp2 r1 x y fun z => ∃ b, z = .v (.bl b) ∧ (b = false → k (.v (.bl false)) g2) ∧ (b = true → wpE W H0 g2 ρ tc fun u g3 => wp2 r2 y u fun z' => ∃ b', z' = .v (.bl b') ∧ (b' = false → k (.v (.bl false)) g3) ∧ (b' = true → wpE W H0 g3 ρ td fun w g4 => wp2 r3 u w fun z => k z g4))) :
    wpE W H0 g ρ (tChain3 r1 r2 r3 ta tb tc td) k := fun ps H σ S Q hq => h ps H σ S _ fun x v g1 H1 kx e1 ox => kx ps H1 σ (S.to e1) _ fun y w g2 H2 ky e2 oy => ky _ _ g2 H2 v w e2.j (ox.ext e2) oy _ fun z w' H3 kz e3 oz => by
    obtain ⟨b, rfl, q1, q2⟩ := kz
    have e13 := (e1.trans e2).trans e3
    refine ⟨b, v_bl oz, ?_⟩
    cases b with
    | false => exact hq _ _ _ H3 (q1 rfl) e13 (.v (.bl false))
    | true =>
      refine q2 rfl ps H3 σ (S.to e13) _ fun u v4 g3 H4 k4 e4 o4 => k4 _ _ g3 H4 w v4 e4.j ((oy.ext e3).ext e4) o4 _ fun z' w5 H5 k5 e5 o5 => ?_
      obtain ⟨b', rfl, q1', q2'⟩ := k5
      have e15 := (e13.trans e4).trans e5
      refine ⟨b', v_bl o5, ?_⟩
      cases b' with
      | false => exact hq _ _ _ H5 (q1' rfl) e15 (.v (.bl false))
      | true => exact q2' rfl ps H5 σ (S.to e15) _ fun w6 v6 g4 H6 k6 e6 o6 => k6 _ _ g4 H6 v4 v6 e6.j ((o4.ext e5).ext e6) o6 Q fun z7 v7 H7 k7 e7 o7 => hq z7 v7 g4 H7 k7 ((e15.trans e6).trans e7) o7
/-- a slice of the script: a list of its own -/
theorem scr_at {G : Type} {W : Wd G} {H : Hp} {ns : List Int} {v : V} {F : PySem.W.Frag} (h : RsOk W H (.v (.scr F ns)) v) : ∃ a, v = .ref a ∧ SqL F H a (ns.map V.int) := by
  cases h with
  | v h =>
    cases h with
    | scrT n e z =>
      rcases z with rfl | ⟨b, rfl⟩
      · exact ⟨_, rfl, .inl (.inl e)⟩
      · exact ⟨_, rfl, .inl (.inr ⟨b, e⟩)⟩
    | scrK z => exact ⟨_, rfl, z H⟩
theorem e_slS {tl th : TO} (h : wpE W H0 g ρ te fun x g1 => wpO W H0 g1 ρ tl fun lo g2 => wpO W H0 g2 ρ th fun hi g3 => ∃ ns : List Int, x = .v (.scr K ns) ∧ k (.v (.lst (cut (ns.map D.int) lo hi))) g3) : wpE W H0 g ρ (tSl (rCut K) te tl th) k := fun ps H σ S Q hq =>
  h ps H σ S _ fun x v g1 H1 kx e1 ox => kx ps H1 σ (S.to e1) _ fun lo g2 H2 k2 e2 => k2 ps H2 σ (S.to (e1.trans e2)) _ fun hi g3 H3 k3 e3 => by
    obtain ⟨ns, rfl, q⟩ := k3
    obtain ⟨a, rfl, s⟩ := scr_at ((ox.ext e2).ext e3)
    have e := (e1.trans e2).trans e3
    exact .inl ⟨a, _, rfl, s, fun p hp => hq _ _ _ _ q (e.trans (Ext.new e.j hp)) (new_lst e.j hp ((DtL.ofInts ns).cut lo hi))⟩
end
section
variable {G : Type} {W : Wd G} {g : G} {k : Rs → Prop} {K : PySem.W.Frag}
/-! ### isinstance -/
/-- a tree's built-in type -/
def D.ty : D → Option String
  | .non => some "NoneType"
  | .bl _ => some "bool"
  | .int _ => some "int"
  | .str _ => some "str"
  | .lst _ => some "list"
  | .tup _ => some "tuple"
  | .emp => some "dict"
  | .dic _ _ => some "dict"
  | _ => none
theorem D.tyx {H : Hp} {d : D} {n : String} {v : V} (h : d.ty = some n) (o : Dt W.M H d v) : TyX K H v (.type n) := by
  cases o with
  | non => cases h; exact .base .non
  | bl b => cases h; exact .base (.bl b)
  | int b => cases h; exact .base (.int b)
  | str b => cases h; exact .base (.str b)
  | lst _ e _ => cases h; exact .base (.lst e)
  | tup _ e _ => cases h; exact .base (.tup e)
  | emp _ e => cases h; exact .base (.dK e)
  | dic _ e _ _ => cases h; exact .base (.dK e)
  | lnt => cases h
  | hp => cases h
  | ins => cases h
  | raw => cases h
  | scrT => cases h
  | scrK => cases h
theorem c_isi {d : D} {n T : String} {b : Bool} (h : d.ty = some n) (hk : kitB n T = some b) (q : k (.v (.bl b))) : wpC (rIsi K) [.v d, .v (.raw (.ty T))] k := fun _ W g0 H vs J oo Q hq => by
  obtain ⟨v, u, rfl, o1, o2⟩ := oo.two
  rw [v_raw o2]
  cases o1 with
  | v o1 => exact ⟨v, .ty T, .type n, .type T, b, rfl, .ty T, D.tyx h o1, kit_ty hk, hq _ _ H q (Ext.refl J) (.v (.bl b))⟩
/-- what isinstance asks of an own class -/
structure InsTy (K : PySem.W.Frag) (C : Addr) : Prop where
  cl : Cls K C
  ha : PySem.W.findIn K (.ref C) "__class__" = some (some (.builtin "object.__class__"))
  hn : PySem.W.specialIn K (.builtin "object.__class__") "__get__" = some (some (.builtin "getset_descriptor.__get__"))
  htk : PySem.W.takesIn K (.builtin "object.__class__") = some true
  hm : PySem.W.mroIn K C (.type "object") = some true
theorem c_isiO {C : Addr} {fs : List (Str × D)} {c : V} {u : Value} {b : Bool} (h : InsTy K C) (hc : ClsV c u) (hk : PySem.W.kitOne K (.ref C) u = some b) (q : k (.v (.bl b))) : wpC (rIsi K) [.v (.ins C fs), .v (.raw c)] k := fun _ W g0 H vs J oo Q hq => by
  obtain ⟨v, w, rfl, o1, o2⟩ := oo.two
  rw [v_raw o2]
  cases o1 with
  | v o1 =>
    cases o1 with
    | ins n e t => exact ⟨_, c, .ref C, u, b, rfl, hc, .base (.ins e h.cl h.ha h.hn h.htk h.hm), hk, hq _ _ H q (Ext.refl J) (.v (.bl b))⟩
theorem c_isiC {d : D} {n : String} {C : Addr} {b : Bool} (h : d.ty = some n) (hk : PySem.W.kitOne K (.type n) (.ref C) = some b) (q : k (.v (.bl b))) : wpC (rIsi K) [.v d, .v (.raw (.ref C))] k := fun _ W g0 H vs J oo Q hq => by
  obtain ⟨v, u, rfl, o1, o2⟩ := oo.two
  rw [v_raw o2]
  cases o1 with
  | v o1 => exact ⟨v, .ref C, .type n, .ref C, b, rfl, .own C, D.tyx h o1, hk, hq _ _ H q (Ext.refl J) (.v (.bl b))⟩
/-! ### the script -/
theorem c_lenS {ns : List Int} (q : k (.v (.int (ns.length : Int)))) : wpC (rLen K) [.v (.scr K ns)] k := fun _ W g0 H vs J oo Q hq => by
  obtain ⟨v, rfl, o1⟩ := oo.one
  obtain ⟨a, rfl, s⟩ := scr_at o1
  refine ⟨_, (ns.map V.int).length, rfl, .inl ⟨_, s, rfl⟩, ?_⟩
  rw [List.length_map]
  exact hq _ _ H q (Ext.refl J) (.v (.int _))
theorem p_ixS {ns : List Int} {i z : Int} (e : L2.atI ns i = some z) (q : k (.v (.int z))) : wp2 (rIx K) (.v (.scr K ns)) (.v (.int i)) k := fun _ W g0 H v u J ox oy Q hq => by
  rw [v_int oy]
  obtain ⟨a, rfl, s⟩ := scr_at ox
  refine .inl ⟨a, _, i, .int z, rfl, rfl, s, ?_, hq _ _ H q (Ext.refl J) (.v (.int z))⟩
  unfold L2.atI at e ⊢
  rw [List.length_map]
  cases hx : ixN ns.length i with
  | none => rw [hx] at e; cases e
  | some j =>
    rw [hx] at e
    have e' : ns[j]? = some z := e
    show (ns.map V.int)[j]? = some (.int z)
    rw [List.getElem?_map, e']; rfl
/-! ### in, of flat values -/
def Fl : D → Option V
  | .non => some .non
  | .bl b => some (.bl b)
  | .int i => some (.int i)
  | .str x => some (.str x)
  | _ => none
theorem Fl.ok {H : Hp} {d : D} {u v : V} (h : Fl d = some u) (o : Dt W.M H d v) : v = u := by
  cases o <;> first | exact Option.some.inj h | cases h
theorem Fl.all {H : Hp} : ∀ {ds : List D} {us vs : List V}, ds.map Fl = us.map some → DtL W.M H ds vs → vs = us
  | [], us, _, h, .nil => by cases us with | nil => rfl | cons _ _ => cases h
  | d :: ds, us, _, h, .cons o t => by
    cases us with
    | nil => cases h
    | cons u us =>
      rw [List.map_cons, List.map_cons] at h
      injection h with h1 h2
      rw [Fl.ok h1 o, Fl.all h2 t]
theorem p_in {x y : Rs} {ds : List D} {d : D} {u : V} {us : List V} (hx : x = .v d) (hd : Fl d = some u) (hu : flatV u = true) (l : SeqOf y ds) (hs : ds.map Fl = us.map some) (hus : us.all flatV = true) (q : k (.v (.bl (inV u us)))) : wp2 (rIn K false) x y k := fun _ W g0 H v w J ox oy Q hq => by
  subst hx
  obtain ⟨a, xs, rfl, s, t⟩ := l.at (K := K) J oy
  cases ox with
  | v ox =>
    rw [Fl.ok hd ox]
    rw [Fl.all hs t] at s
    exact ⟨a, us, rfl, s, hu, hus, hq _ _ H q (Ext.refl J) (.v (.bl _))⟩
theorem p_notin {x y : Rs} {ds : List D} {d : D} {u : V} {us : List V} (hx : x = .v d) (hd : Fl d = some u) (hu : flatV u = true) (l : SeqOf y ds) (hs : ds.map Fl = us.map some) (hus : us.all flatV = true) (q : k (.v (.bl (!inV u us)))) : wp2 (rIn K true) x y k := fun _ W g0 H v w J ox oy Q hq => by
  subst hx
  obtain ⟨a, xs, rfl, s, t⟩ := l.at (K := K) J oy
  cases ox with
  | v ox =>
    rw [Fl.ok hd ox]
    rw [Fl.all hs t] at s
    exact ⟨a, us, rfl, s, hu, hus, hq _ _ H q (Ext.refl J) (.v (.bl _))⟩
theorem p_inI {y : Rs} {ns : List Int} {i : Int} (l : SeqOf y (ns.map D.int)) (q : k (.v (.bl (decide (i ∈ ns))))) : wp2 (rIn K false) (.v (.int i)) y k := by
  refine p_in (u := .int i) (us := ns.map V.int) rfl rfl rfl l (by rw [List.map_map, List.map_map]; rfl) (by rw [List.all_map]; exact List.all_eq_true.mpr fun _ _ => rfl) ?_
  have e : inV (.int i) (ns.map V.int) = decide (i ∈ ns) := by
    unfold inV
    rw [List.any_map]
    by_cases h : i ∈ ns
    · rw [decide_eq_true h]
      exact List.any_eq_true.mpr ⟨i, h, by simp [eqV]⟩
    · rw [decide_eq_false h]
      refine List.any_eq_false.mpr fun x hx => ?_
      simp [eqV]
      intro z
      exact h (by rw [← z]; exact hx)
  rw [e]; exact q
/-! ### repr -/
theorem c_repr {r : Rs} {p : PyData} {n : Nat} (l : ∃ ds, LstOf r ds) (h : PlR n r p) (hn : n ≤ 60) (hs : p.showable = true) (hd : p.hasDict = false) (hz : p.shown.length ≤ sizeLine) (q : k (.v (.str p.shown))) : wpC (rRepr K) [r] k := fun _ W g0 H vs J oo Q hq => by
  obtain ⟨v, rfl, o⟩ := oo.one
  obtain ⟨ds, l⟩ := l
  obtain ⟨a, xs, rfl, _, _, _⟩ := l.at J o
  obtain ⟨h1, h2, h3⟩ := h.dp (K := K) J o
  exact ⟨a, p, rfl, h1, hs, hd, Nat.le_trans h3 hn, hz, hq _ _ H q (Ext.refl J) (.v (.str _))⟩
end
end TL
set_option Elab.async false
set_option linter.all false
set_option maxRecDepth 100000
namespace TL
open PySem PySem.Spec L2
/-! ### set(xs) of a list of whole numbers, kept as the layer keeps sets -/
/-- a set as its maker leaves it -/
abbrev emptySet (w : World) : Obj := { cls := .type "set", dict := none, data := .set #[] 0 (.fresh 0 0 (!w.params.followText "set-order")) }
section
variable {P : Program} {w : World} {A : Around} {E : Value → Shared → Prop} {s : Shared}
set_option maxHeartbeats 3200000 in
theorem set_of_list {l : Addr} {items : Array Value} (ns : List Int) {Q : Value → Shared → Prop} (hh : A.handled = none) (hl : s.heap.IsList l items) (hit : PyProof.Rows.IntsAre items.toList ns) (hb : ns.length + 1 < scanBound)
    (h : ∀ (h' : Heap) (tk c : Nat), SetR w h' s.heap.objs.size (fun j => decide (j ∈ ns)) c → c ≤ ns.length → (∀ b o, s.heap.get? b = some o → h'.get? b = some o) → Q (.ref s.heap.objs.size) { s with heap := h', toks := tk }) :
    wpAny (model P w) A (call (.type "set") [.ref l]) Q E s := by
  have hsz : items.size = ns.length := by
    have q := PyProof.Rows.IntsAre.length hit
    rwa [Array.length_toList] at q
  have mro := F.called_set.mro
  obtain ⟨c0, tl, hmro⟩ := mro
  have f1 := F.called_set.made
  have f2 := F.called_set.sub
  have f3 := F.called_set.notType
  have f4 := F.called_set.canCreate
  have f5 := F.typeCall_set_1 (.ref l)
  refine wpAny_call (codeAny_of_tree ?_)
  show wpAny _ _ (callAny (.type "set") _) _ _ _
  refine wpAny_pure ⟨Code.quiet_builtin _ (by decide +kernel), codeAny_builtin F.entry_type_call ?_⟩
  rw [Around.under_plain (weight_type_call_type "set" [.ref l] []) rfl]
  repeat (any_goals (first | assumption | wp_step))
  refine codeAny_mono (code_set_led1 (.ref l) (E := E) (Q₁ := fun obj s₁ => obj = .ref s.heap.objs.size ∧ s₁ = { s with heap := s.heap.push (emptySet w) }) ⟨rfl, rfl⟩) fun r s₁ hr => ?_
  cases r with
  | error e => exact hr
  | ok fl =>
    cases fl with
    | ret obj =>
      obtain ⟨rfl, rfl⟩ := hr
      have g0 : (s.heap.push (emptySet w)).get? s.heap.objs.size = some (emptySet w) := Heap.get?_push_size _ rfl
      have t0 : Shared.TypeIs { s with heap := s.heap.push (emptySet w) } (.ref s.heap.objs.size) "set" := ⟨_, g0, rfl⟩
      have i1 := F.called_set.init.lookup
      have i2 := F.called_set.init.bind (.ref s.heap.objs.size)
      repeat (any_goals (first | assumption | wp_step))
      refine codeAny_mono (codeAny_call_builtin (R := wants (fun r s₂ => r = .none ∧ ∃ h' tk c, s₂ = { s with heap := h', toks := tk } ∧ SetR w h' s.heap.objs.size (fun j => decide (j ∈ ns)) c ∧ c ≤ ns.length ∧ (∀ b o, s.heap.get? b = some o → h'.get? b = some o)) E) F.called_set.init.plain F.entry_set_init (check_set_init_1 t0 ?_)) fun r₂ s₂ hr₂ => ?_
      · obtain ⟨⟨cls, dict, data, slots⟩, ho, hc, n, hd⟩ := hl
        simp only at hc hd
        subst hc; subst hd
        have ho' : (s.heap.push (emptySet w)).get? l = some { cls := .type "list", dict := dict, data := .seq items n, slots := slots } := Heap.get?_push_of_some _ ho
        have k1 := F.sub_list_set
        have k2 := F.sub_list_frozenset
        have k3 : (Value.type "list" == Value.type "dict") = false := by decide
        have hl1 : (s.heap.push (emptySet w)).IsList l items := ⟨_, ho', rfl, n, rfl⟩
        unfold Builtin.«set.__init__» noKeywords Builtin.Frozenset.updateFrom
        generalize hPI : pyIter = PI
        wp_walk
        subst hPI
        refine wpAny_pyIter_list hl1 ?_
        refine wpAny_bind (wpAny_runValue ?_)
        have lt : l < s.heap.objs.size := Heap.lt_size ho
        have h3 : A.in1.in1.in1.handled = none := by simp [hh]
        have ne : l ≠ (s.heap.push (emptySet w)).objs.size := by
          rw [Heap.size_push]; exact Nat.ne_of_lt (Nat.lt_succ_of_lt lt)
        have nf : s.heap.objs.size ∉ [(s.heap.push (emptySet w)).objs.size, l] := by
          rw [Heap.size_push]
          simp only [List.mem_cons, List.not_mem_nil, or_false, not_or]
          exact ⟨Nat.ne_of_lt (Nat.lt_succ_self _), Nat.ne_of_gt lt⟩
        have val : ∀ (i : Nat) (v : Value), items[i]? = some v → ∃ k t, ns[i]? = some k ∧ v = .int k t := fun i v hv => by
          have hi : i < ns.length := by rw [← hsz]; exact (Array.getElem?_eq_some_iff.mp hv).1
          obtain ⟨t, e⟩ := PyProof.Rows.IntsAre.int_at hit i v (by rw [Array.getElem?_toList]; exact hv)
          refine ⟨ns[i], t, List.getElem?_eq_getElem hi, ?_⟩
          rw [e, List.getD_eq_getElem?_getD, List.getElem?_eq_getElem hi]; rfl
        refine set_update_ints ((Walks.list h3 _ l ne items).toS) s.heap.objs.size nf ns hsz hb val (items.size - 0) 0 _ (by omega) (Nat.zero_le _) ⟨⟨_, Heap.get?_push_size _ rfl, rfl, rfl⟩, (hl1.push _)⟩ ⟨0, Nat.le_refl 0, setR_new_at (Heap.get?_push_of_some _ g0)⟩ fun s' c hm hc' hS' => ?_
        obtain ⟨h', g2, d', tk', os'⟩ := s'
        obtain rfl : g2 = s.gens := hm.gens
        obtain rfl : d' = s.drawn := hm.drawn
        obtain rfl : os' = s.os := hm.os
        show wpAny _ _ _ _ _ _
        refine wpAny_pure ?_
        show wpAny _ _ (ret Value.none) _ _ _
        refine wpAny_pure ⟨rfl, h', tk', c, rfl, hS', by rw [← hsz]; exact hc', fun b o e => ?_⟩
        have b0 : b < s.heap.objs.size := Heap.lt_size e
        refine hm.heap b o ?_ (Heap.get?_push_of_some _ (Heap.get?_push_of_some _ e))
        simp only [List.mem_cons, List.not_mem_nil, or_false, not_or]
        refine ⟨Nat.ne_of_lt b0, ?_⟩
        rw [Heap.size_push]; exact Nat.ne_of_lt (Nat.lt_succ_of_lt b0)
      · cases r₂ with
        | error e => exact hr₂
        | ok fl₂ =>
          cases fl₂ with
          | ret r =>
            obtain ⟨rfl, h', tk, c', rfl, hS', hc', hk'⟩ := hr₂
            repeat (any_goals (first | assumption | wp_step))
            exact h _ _ _ hS' hc' hk'
          | _ => exact hr₂.elim
    | _ => exact hr.elim
end
def rSetL' (K : PySem.W.Frag) (w : World) : List V → Hp → VK → Prop := fun xs H Q => ∃ (l : Addr) (ns : List Int), xs = [V.ref l] ∧ SqL K H l (ns.map V.int) ∧ ns.length < 1000 ∧ ∀ a c, H a = none → c ≤ ns.length → Q (.ref a) (upd H a (SetO w a (fun j => decide (j ∈ ns)) c))
theorem cr_setL {X : Cx} (hc : X.calm = true) : CallR X (.type "set") (rSetL' X.K X.w) := by
  intro pins s σ H xs us Q I r h
  obtain ⟨l, ns, rfl, hs, hz, q⟩ := h
  rw [Vals.ref1 r]
  obtain ⟨its, rv, pl, _⟩ := I.list hs
  refine set_of_list ns (I.ok.hd hc) pl.isList (by simpa using ints_of_vals rv) (by unfold scanBound; omega) fun h' tk c R hc' k => ?_
  exact ⟨.ref s.heap.objs.size, _, I.laid (t' := tk) k (Nat.le_refl _) (setO_new R), rfl, q _ c (I.hok.fresh (Nat.le_refl _)) hc'⟩
/-- sorted(set(xs)) in one, over trees: the set itself is seen by nobody -/
theorem e_sortedSet {G : Type} [Gh G] {W : Wd G} {g : G} {H0 : Hp} {ρ : Rho} {tg : TA} {k : Rs → G → Prop} {K : PySem.W.Frag} {w : World} (h : wpA W H0 g ρ tg fun rs g1 => ∃ (r : Rs) (ns : List Int), rs = [r] ∧ LstOf r (ns.map D.int) ∧ ns.length < 64 ∧ ∀ out : List Int, out.Pairwise (· < ·) → (∀ x, x ∈ out ↔ x ∈ ns) → k (.v (.lst (out.map D.int))) g1) :
    wpE W H0 g ρ (tCB (rSortedSet w) (tCons (tCB (rSetL' K w) tg) tNil)) k := fun ps H σ S Q hq => h ps H σ S _ fun rs vs g1 H1 q e o => by
  obtain ⟨r, ns, rfl, l, hz, q⟩ := q
  obtain ⟨v, rfl, o1⟩ := o.one
  obtain ⟨a, xs, rfl, p, t, _⟩ := l.at e.j o1
  rw [t.ints] at p
  refine ⟨a, ns, rfl, .inl (.inl p), by omega, fun b c hb hc => ?_⟩
  have e2 := Ext.new (W := pinW W ps) (o := SetO w b (fun j => decide (j ∈ ns)) c) e.j hb
  exact ⟨b, _, c, rfl, upd_same, by omega, fun out d h1 h2 _ hd => hq _ _ _ _ (q out h1 fun x => by rw [h2 x]; exact decide_eq_true_iff) ((e.trans e2).trans (Ext.new e2.j hd)) (new_lst e2.j hd (DtL.ofInts out))⟩
/-! ### own operators -/
section
variable {X : Cx} {CX : CXT} {n : Nat} {C f : Addr} {fd : FuncData} {ps : List Str} {sp : Sp} {E : XK}
/-- the def behind an operator of an own class -/
structure OpOf (K : PySem.W.Frag) (C : Addr) (m : Str) (f : Addr) : Prop where
  at_ : PySem.W.findIn K (.ref C) m = some (some (.ref f))
  fn : PySem.W.typeIn K (.ref f) = some (.type "function")
theorem ins_inst {pins : List (Addr × Obj)} {σ : L2.St} {H : Hp} {s : Shared} {a dx : Addr} {fs : List (Str × V)} (I : Inv X pins σ H s) (ea : H a = some (.ins C dx fs)) : ∃ od, PySem.W.InstAt s.heap a (PySem.W.instObj C dx) C od := by
  obtain ⟨mA, O, _⟩ := ins_get I.hok ea
  obtain ⟨od, J, _⟩ := O.look
  exact ⟨_, J⟩
theorem special_un {M : Model} {A : Around} {E : Value → Shared → Prop} {s : Shared} {K : PySem.W.Frag} {x C f : Addr} {ox : Obj} {od : Option Obj} {name : Str} {args : List Value} {refuse : Sem Value} {Q : Option Value → Shared → Prop} (X : K.In s.heap) (I : PySem.W.InstAt s.heap x ox C od)
    (hs : PySem.W.findIn K (.ref C) name = some (some (.ref f))) (hf : PySem.W.typeIn K (.ref f) = some (.type "function")) (h : wpAny M A (call (.ref f) (.ref x :: args)) (fun v => Q (some v)) E s) : wpAny M A (callSpecialUnlessNone? (.ref x) name args refuse) Q E s := by
  unfold callSpecialUnlessNone?
  refine wpAny_bind (wpAny_bind (I.type.here ((PySem.W.looks_findIn X hs).here (wpAny_holding (wpAny_bind ((PySem.W.bind_fn X _ hf).here ?_))))))
  show wpAny _ _ (if (Value.ref f == Value.none) = true then _ else _) _ _ _
  rw [if_neg (by simp)]
  exact wpAny_bind (wpAny_mono h (fun _ _ z => wpAny_pure z) fun _ _ z => z)
theorem contains_fn {M : Model} {A : Around} {E : Value → Shared → Prop} {s : Shared} {K : PySem.W.Frag} {x C f : Addr} {ox : Obj} {od : Option Obj} {v : Value} {Q : Bool → Shared → Prop} (X : K.In s.heap) (I : PySem.W.InstAt s.heap x ox C od)
    (hs : PySem.W.findIn K (.ref C) "__contains__" = some (some (.ref f))) (hf : PySem.W.typeIn K (.ref f) = some (.type "function")) (h : wpAny M A (call (.ref f) [.ref x, v]) (fun r s' => wpAny M A (truthy r) Q E s') E s) : wpAny M A (contains (.ref x) v) Q E s := by
  unfold contains
  refine wpAny_holding ?_
  have e0 : stdlibNamesSay? (.ref x) v = none := rfl
  rw [e0]
  refine wpAny_bind (wpAny_bind (I.type.here ((PySem.W.looks_findIn X hs).here ?_)))
  show wpAny _ _ (if (some (Value.ref f) == some Value.none) = true then _ else _) _ _ _
  rw [if_neg (by simp)]
  exact wpAny_bind (special_un X I hs hf h)
/-- x in y, y an instance of the class at C: the answer's truth -/
def rInOwn (C : Addr) (sp : Sp) (E : XK) : R2 := fun x y H Q => ∃ b dx fs, y = .ref b ∧ H b = some (.ins C dx fs) ∧ sp [y, x] H (fun v H' => ∃ k, v = .bl k ∧ Q (.bl k) H') E
theorem op_inOwn (h : OpOf X.K C "__contains__" f) (F : FnOk X.prog X.w X.K X.mg X.base CX n f fd ps sp) (hb : Binds X.K fd ps []) (hr : Room n X.A) (hx : Passes CX X E) : OpR X (compareOp .In) (rInOwn C sp E) := by
  intro pins s σ H x y v u Q I rx ry hq
  obtain ⟨b, dx, fs, rfl, e, q⟩ := hq
  cases (show u = Value.ref b from ry)
  obtain ⟨od, J⟩ := ins_inst I e
  show wpAny _ _ (do return Value.bool (← contains (.ref b) v)) _ _ _
  refine wpAny_bind (contains_fn I.kIn J h.at_ h.fn (wpAny_mono (run_fn (us := [.ref b, v]) (vs := [.ref b, x]) F hr hb .nil hx I (.cons rfl (.cons rx .nil)) (by rw [List.append_nil]; exact q)) (fun r s' z => ?_) fun _ _ z => z))
  obtain ⟨r', H', I', rr, k, rfl, qk⟩ := z
  cases (show r = Value.bool k from rr)
  exact wpAny_truthy_bool (wpAny_pure ⟨.bl k, H', I', rfl, qk⟩)
end
section
variable {G : Type} [Gh G] {W : Wd G} {g : G} {H0 : Hp} {ρ : Rho} {ta tb : TE} {K : PySem.W.Frag} {k : Rs → G → Prop} {C : Addr} {Ca : Ct G} {E : XK}
theorem e_inOwn (h : wpE W H0 g ρ ta fun x g1 => wpE W H0 g1 ρ tb fun y g2 => ∃ fs, y = .v (.ins C fs) ∧ ∀ W', In W W' ρ → Ca W' g2 [y, x] (fun d g3 => ∃ b, d = .bl b ∧ k (.v (.bl b)) g3) noX) : wpE W H0 g ρ (tOp (rInOwn C (mkSp Ca) E) ta tb) k := fun ps H σ S Q hq =>
  h ps H σ S _ fun x v g1 H1 kx e1 ox => kx ps H1 σ (S.to e1) _ fun y w g2 H2 ky e2 oy => by
    obtain ⟨fs, rfl, ky⟩ := ky
    have oy' := oy
    cases oy with
    | v oy =>
      cases oy with
      | ins n e t =>
        have e12 := e1.trans e2
        refine ⟨_, _, _, rfl, e, _, g2, _, _, _, .cons oy' (.cons (ox.ext e2) .nil), e2.j, ky _ (S.to e12).in_, fun d w g' H' kd e3 od => ?_, fun c g' H' z => z.elim⟩
        obtain ⟨b, rfl, q⟩ := kd
        cases od
        exact ⟨b, rfl, hq _ _ g' H' q (e12.trans e3) (.v (.bl b))⟩
end
/-! ### methods that may raise within a try: o.m(e, ..), o.m(k = v) -/
section
variable {X : Cx} {CX : CXT} {k : Nat} {f C : Addr} {fd : FuncData} {ps ks : List Str} {sp : Sp} {E : L2.St → XK} {x m : Str} {p pos apos : Pos} {e o : Expr} {es : List Expr} {kws : List Keyword} {te ta : TE} {t tk : TA} {g : List Value → List Value → List Value} {gV : List V → List V → List V}
def tMethW (C : Addr) (m : Str) (sp : Sp) (E : L2.St → XK) (ta : TE) (t : TA) : TE := fun σ H Q => ta σ H fun x H1 => ∃ a dx fs, x = .ref a ∧ H1 a = some (.ins C dx fs) ∧ fs.lookup m = none ∧ t σ H1 fun vs H2 => sp (x :: vs) H2 Q (E σ)
theorem pe_methW {pl : Sem Bool} (he : PE X o ta) (c : Cls X.K C) (hm : Meth X.K C m f) (F : FnOk X.prog X.w X.K X.mg X.base CX k f fd ps sp) (hr : Room k X.A) (hb : Binds X.K fd ps []) (hx : ∀ σ, PassesAt CX X σ (E σ)) (ha : PA X (e :: es) t)
    (hst : starEach (e :: es) X.env = (false, eval e X.env) :: starEach es X.env := by rfl) (hpl : (backTo pos (starEach es X.env)).any (·.1) = false := by rfl)
    (ht : eval (.Call (.Attribute o m apos) (e :: es) [] pos) X.env = (do
      let ov ← eval o X.env
      standAt apos.atName
      let (f, first) ← holding [ov] (getMethod ov m pl)
      callWith pos f first (backTo pos (starEach (e :: es) X.env)) (backToKw pos (keywordEach [] X.env))) := by rfl) :
    PE X (.Call (.Attribute o m apos) (e :: es) [] pos) (tMethW C m sp E ta t) := by
  refine ⟨fun pins s σ H Q I h => PySem.W.methodCall_KW (pl := pl) (thn (he.run pins s σ H _ I h) fun u s1 ⟨x, H1, I1, rx, a, dx, fs, ex, ea, l, q⟩ => ?_) ht⟩
  subst ex
  obtain rfl : u = Value.ref a := rx
  refine getmeth_ok I1 ea c hm l ?_
  refine PySem.W.callWith_K (first := [.ref a]) (h₀ := X.base) I.ok.mod.kin hm.kp (thn (ha.run pos pins s1 σ H1 _ I1 q) fun us s2 ⟨vs, H2, I2, r, q2⟩ => ⟨I2.kIn, ?_⟩) hst hpl
  exact run_fnS (us := .ref a :: us) (vs := .ref a :: vs) F hr hb (hx σ) I2 (.cons rfl r) q2
def tMethK (C : Addr) (m : Str) (sp : Sp) (gV : List V → List V → List V) (E : L2.St → XK) (ta : TE) (tk : TA) : TE := fun σ H Q => ta σ H fun x H1 => ∃ a dx fs, x = .ref a ∧ H1 a = some (.ins C dx fs) ∧ fs.lookup m = none ∧ tk σ H1 fun zs H2 => sp (gV [x] zs) H2 Q (E σ)
theorem pe_methK0 {pl : Sem Bool} (he : PE X o ta) (c : Cls X.K C) (hm : Meth X.K C m f) (F : FnOk X.prog X.w X.K X.mg X.base CX k f fd ps sp) (hr : Room k X.A) (hb : KBinds X.K fd ps ks g gV) (hx : ∀ σ, PassesAt CX X σ (E σ)) (hkw : PK X kws tk)
    (hall : (backToKw pos (keywordEach kws X.env)).all (·.1.isSome) = true := by rfl) (hks : (backToKw pos (keywordEach kws X.env)).filterMap (·.1) = ks := by rfl)
    (hpl : ((backTo pos (starEach [] X.env)).any (·.1) || (backToKw pos (keywordEach kws X.env)).any (·.1.isNone)) = false := by rfl)
    (ht : eval (.Call (.Attribute o m apos) [] kws pos) X.env = (do
      let ov ← eval o X.env
      standAt apos.atName
      let (f, first) ← holding [ov] (getMethod ov m pl)
      callWith pos f first (backTo pos (starEach [] X.env)) (backToKw pos (keywordEach kws X.env))) := by rfl) :
    PE X (.Call (.Attribute o m apos) [] kws pos) (tMethK C m sp gV E ta tk) := by
  refine ⟨fun pins s σ H Q I h => PySem.W.methodCall_KW (pl := pl) (thn (he.run pins s σ H _ I h) fun u s1 ⟨x, H1, I1, rx, a, dx, fs, ex, ea, l, q⟩ => ?_) ht⟩
  subst ex
  obtain rfl : u = Value.ref a := rx
  refine getmeth_ok I1 ea c hm l ?_
  refine PySem.W.callWith_KW0 (first := [.ref a]) (h₀ := X.base) I.ok.mod.kin hm.kp hall (thn (hkw.run pos pins s1 σ H1 _ I1 q) fun ws s2 ⟨zs, H2, I2, rz, q2⟩ => ⟨I2.kIn, ?_⟩) hpl
  rw [hks]
  have r1 : Vals [V.ref a] [Value.ref a] := .cons rfl .nil
  have r2 := hb.rel r1 rz
  have hl : (g [Value.ref a] ws).length = ps.length := by rw [← r2.length]; exact F.len _ _ _ _ q2
  refine wpAny_call (codeAny_mono (F.run X.A X.stack s2 H2 ⟨[.ref a], ks.zip ws⟩ (g [.ref a] ws) (gV [.ref a] zs) Q (E σ) hr I2.env0 (hb.to s2 [.ref a] ws I2.kIn hl) r2 q2) fun r s' hq => ?_)
  cases r with
  | error er => exact hx σ pins H2 s2 er s' I2 hq
  | ok fl =>
    cases fl with
    | ret u => exact I2.after hq
    | next => exact False.elim hq
    | brk => exact False.elim hq
    | cont => exact False.elim hq
end
section
variable {G : Type} [Gh G] {W : Wd G} {g : G} {H0 : Hp} {ρ : Rho} {ta : TE} {tg tk : TA} {k : Rs → G → Prop} {Ca : Ct G} {Cc : Addr} {m : Str} {x : Value → G → Prop} {gV : List V → List V → List V} {gR : List Rs → List Rs → List Rs} {Wx : WX}
theorem e_methW (hx : ∀ ps g' H σ c, x c g' → Sta W H0 ps g' H σ ρ → Wx c none σ H) (h : wpE W H0 g ρ ta fun r g1 => ∃ fs, r = .v (.ins Cc fs) ∧ fs.lookup m = none ∧ wpA W H0 g1 ρ tg fun zs g2 => ∀ W', In W W' ρ → Ca W' g2 (r :: zs) (fun d => k (.v d)) x) :
    wpE W H0 g ρ (tMethW Cc m (mkSp Ca) (WE Wx) ta tg) k := fun ps H σ S Q hq => h ps H σ S _ fun r v g1 H1 q e o => by
  obtain ⟨fs, rfl, l, q⟩ := q
  have o' := o
  cases o with
  | v o =>
    cases o with
    | ins n p t =>
      exact ⟨_, _, _, rfl, p, t.lookupN l, q ps H1 σ (S.to e) _ fun rs vs g2 H2 q2 e2 o2 => ⟨_, g2, _, _, _, .cons (o'.ext e2) o2, e2.j, q2 _ (S.to (e.trans e2)).in_, fun d v g' H' kd e3 od => hq _ v g' H' kd ((e.trans e2).trans e3) (.v od), fun c g' H' z e3 => hx ps g' H' σ c z (S.to ((e.trans e2).trans e3))⟩⟩
theorem e_methK (hg : ∀ (W : Wd G) H rs vs zs ws, RsL W H rs vs → RsL W H zs ws → RsL W H (gR rs zs) (gV vs ws)) (hx : ∀ ps g' H σ c, x c g' → Sta W H0 ps g' H σ ρ → Wx c none σ H) (h : wpE W H0 g ρ ta fun r g1 => ∃ fs, r = .v (.ins Cc fs) ∧ fs.lookup m = none ∧ wpA W H0 g1 ρ tk fun zs g2 => ∀ W', In W W' ρ → Ca W' g2 (gR [r] zs) (fun d => k (.v d)) x) :
    wpE W H0 g ρ (tMethK Cc m (mkSp Ca) gV (WE Wx) ta tk) k := fun ps H σ S Q hq => h ps H σ S _ fun r v g1 H1 q e o => by
  obtain ⟨fs, rfl, l, q⟩ := q
  have o' := o
  cases o with
  | v o =>
    cases o with
    | ins n p t =>
      exact ⟨_, _, _, rfl, p, t.lookupN l, q ps H1 σ (S.to e) _ fun rs vs g2 H2 q2 e2 o2 => ⟨_, g2, _, _, _, hg _ _ _ _ _ _ (.cons (o'.ext e2) .nil) o2, e2.j, q2 _ (S.to (e.trans e2)).in_, fun d v g' H' kd e3 od => hq _ v g' H' kd ((e.trans e2).trans e3) (.v od), fun c g' H' z e3 => hx ps g' H' σ c z (S.to ((e.trans e2).trans e3))⟩⟩
end
/-! ### the law's own end -/
/-- what the law's def promises: of a script of at most 63 ints it gives True -/
def lawC {G : Type} (g0 : G) (K : PySem.W.Frag) : Ct G := fun W g rs k _ => ∃ ns : List Int, g = g0 ∧ rs = [.v (.scr K ns)] ∧ ns.length ≤ 63 ∧ (∀ a, ¬ W.M a) ∧ ∀ g', k (.bl true) g'
end TL
set_option Elab.async false
set_option linter.all false
set_option maxRecDepth 100000
namespace TL
open PySem PySem.Spec L2
/-! ### a tape's items -/
section
variable {G : Type} [Gh G] {W : Wd G} {g : G} {H0 : Hp} {ρ : Rho} {ta tb te : TE} {k : Rs → G → Prop} {K : TK G} {F : PySem.W.Frag} {i : Nat} {p : Addr}
theorem Sta.tape {ps : Pins} {H : Hp} {σ : L2.St} (S : Sta W H0 ps g H σ ρ) (t : Tp W p) : ∃ ns : List Int, H p = some (.lst (ns.map V.int)) ∧ Gh.good g ns := by
  obtain ⟨o, e, w⟩ := S.base.j p t.m
  obtain ⟨ns, rfl, q⟩ := (t g o).mp w
  exact ⟨ns, e, q⟩
theorem e_ixT (t : Tp W p) (h : wpE W H0 g ρ ta fun x g1 => x = .v (.raw (.ref p)) ∧ wpE W H0 g1 ρ tb fun y g2 => ∃ j : Int, y = .v (.int j) ∧ ∀ ns, Gh.good g2 ns → ∃ z, L2.atI ns j = some z ∧ k (.v (.int z)) g2) : wpE W H0 g ρ (tOp (rIx F) ta tb) k := fun ps H σ S Q hq =>
  h ps H σ S _ fun x v g1 H1 ⟨ex, kx⟩ e1 ox => kx ps H1 σ (S.to e1) _ fun y w g2 H2 ⟨j, ey, ky⟩ e2 oy => by
    subst ex; subst ey
    rw [v_raw ox, v_int oy]
    obtain ⟨ns, e, gd⟩ := ((S.to e1).to e2).tape t
    obtain ⟨z, hz, q⟩ := ky ns gd
    refine .inl ⟨p, _, j, .int z, rfl, rfl, .inl (.inl e), ?_, hq _ _ g2 H2 q (e1.trans e2) (.v (.int z))⟩
    unfold L2.atI at hz ⊢
    rw [List.length_map]
    cases hx : ixN ns.length j with
    | none => rw [hx] at hz; cases hz
    | some l =>
      rw [hx] at hz
      have e' : ns[l]? = some z := hz
      show (ns.map V.int)[l]? = some (.int z)
      rw [List.getElem?_map, e']; rfl
theorem s_setT (t : Tp W p) (u : Up W) (hi : ρ[i]? = some (.r (.v (.raw (.ref p))))) (h : wpE W H0 g ρ te fun r g1 => ∃ z : Int, r = .v (.int z) ∧ wpE W H0 g1 ρ tb fun y g2 => ∃ (j : Int) (g3 : G), y = .v (.int j) ∧ Gh.le g2 g3 ∧ (∀ ns, Gh.good g2 ns → ∃ l, ixN ns.length j = some l ∧ Gh.good g3 (ns.set l z)) ∧ K.nx ρ g3) :
    wpS W H0 g ρ (tAsg te (gSub (tVar i) tb rSetL)) K := fun ps H σ De S k => h ps H σ S _ fun r v g1 H1 ⟨z, er, q⟩ e o => by
  subst er
  obtain ⟨v', ev, ov⟩ := S.slot hi
  rw [v_raw ov] at ev
  refine ⟨_, ev, q ps H1 σ (S.to e) _ fun y w g2 H2 ⟨j, g3, ey, l3, hg, q2⟩ e2 o2 => ?_⟩
  subst ey
  have S2 := (S.to e).to e2
  obtain ⟨ns, en, gd⟩ := S2.tape t
  obtain ⟨l, hl, gd3⟩ := hg ns gd
  rw [v_int o, v_int o2]
  have mp : (pinW W ps).M p := pin_m t.m
  have ex : Ext (pinW W ps) H2 g3 (upd H2 p (.lst ((ns.map V.int).set l (.int z)))) := by
    refine ⟨fun a o n e => ?_, fun a m => ?_⟩
    · rw [upd_ne (fun z => n (by subst z; exact mp))]; exact e
    · by_cases ha : a = p
      · subst ha
        exact ⟨_, upd_same, (S2.tpW t g3 _).mpr ⟨_, by rw [List.map_set], gd3⟩⟩
      · obtain ⟨o, e, w⟩ := S2.j a m
        exact ⟨o, by rw [upd_ne ha]; exact e, u.pin _ _ _ _ l3 w⟩
  exact ⟨p, ns.map V.int, j, l, rfl, rfl, en, by rw [List.length_map]; exact hl, k.nx _ g3 _ _ _ q2 (S2.to ex) (Nxt.of ((e.trans e2).trans ex))⟩
end
/-! ### the laws' tapes: by how many draws there have been at most -/
def Good (n : Nat) (ns : List Int) : Prop := ∃ d m c : Int, ns = [d, m, c] ∧ 0 ≤ d ∧ 0 ≤ m ∧ m < 2 ^ 200 ∧ 0 ≤ c ∧ c ≤ (n : Int)
instance : Gh Nat where
  le := (· ≤ ·)
  good := Good
  g0 := 0
  n0 := [0, 0, 0]
  ok := ⟨0, 0, 0, rfl, Int.le_refl _, Int.le_refl _, by decide, Int.le_refl _, Int.le_refl _⟩
  up := fun {a b ns} l ⟨d, m, c, e, h1, h2, h3, h4, h5⟩ => ⟨d, m, c, e, h1, h2, h3, h4, by have : (a : Int) ≤ (b : Int) := Int.ofNat_le.mpr l; omega⟩
end TL
namespace TL
open PySem PySem.Spec L2
theorem pow_ok {i j : Int} {n : Nat} (h0 : 0 ≤ j) (hj : j ≤ 1000) (hn : 0 < n) (hn2 : n ≤ 10000) (hi : i.natAbs < 2 ^ n) : CPowW i j := by
  refine ⟨h0, ?_⟩
  have hb : Builtin.Int.intBits i ≤ 10000 := by
    unfold Builtin.Int.intBits
    split
    · omega
    · have := PySem.Flt.log2_lt_of hn hi
      omega
  have h1 : ((Builtin.Int.intBits i : Nat) : Int) ≤ 10000 := by omega
  calc ((Builtin.Int.intBits i : Nat) : Int) * j ≤ 10000 * 1000 := Int.mul_le_mul h1 hj h0 (by omega)
    _ ≤ 2 ^ 27 := by decide
end TL
set_option Elab.async false
set_option linter.all false
set_option maxRecDepth 100000
namespace TL
open PySem PySem.Spec L2 PyProof.Rows
/-! ### the law's own end, for a def that asks that no repr is under way -/
section
variable {P : Program} {w : World} {K : PySem.W.Frag} {mg bg : Str → Option Value} {k : Nat} {fa a : Addr} {fd : FuncData} {x : Str} {sp : Sp} {t : Shared} {us : List Value} {ns : List Int}
/-- what is tracked at the entry: the script at most -/
structure Ent (P : Program) (w : World) (K : PySem.W.Frag) (a : Addr) (h : Heap) (H : Hp) : Prop where
  only : Only H
  ok : HOk P w H h
  at_ : ∀ b u, H b = some u → b = a ∧ K.lookup a = none
theorem Ent.hid {h : Heap} {H : Hp} {it : Array Value} {n : Nat} (e : Ent P w K a h H) (ha : ∃ o, h.get? a = some o ∧ o.data = .seq it n) {b : Addr} {m : Str → Option Value} (q : h.Ns b m) : (hidT h H).Ns b m := by
  obtain ⟨o, es, ep, g, d, r⟩ := q
  refine ⟨o, es, ep, hidT_get g ?_, d, r⟩
  cases z : H b with
  | none => rfl
  | some u =>
    obtain ⟨o', g', d'⟩ := ha
    rw [(e.at_ b u z).1, g'] at g
    rw [← Option.some.inj g, d'] at d
    cases d
theorem Ent.kin {h : Heap} {H : Hp} (e : Ent P w K a h H) (X : K.In h) : K.In (hidT h H) := fun b o l => hidT_get (X b o l) <| by
  cases z : H b with
  | none => rfl
  | some u =>
    obtain ⟨e1, e2⟩ := e.at_ b u z
    rw [e1, e2] at l
    cases l
theorem end_call (X : K.In t.heap) (hm : t.heap.Ns mainGlobals mg) (hb : t.heap.Ns builtinsNs bg) (hbb : ∀ y : Str, y ≠ "__name__" → bg y = bootBuiltins y) (hn : t.heap.NoLimit) (hg : t.gens = #[])
    (ha : t.heap.get? a = some { cls := .type "list", data := .seq us.toArray }) (hi : IntsAre us ns) (hl : ns.length ≤ sizeLine) (hr : Room k callerA)
    (F : ∀ base : Heap, K.In base → base.Ns mainGlobals mg → FnG P w K mg base CX0 k fa fd [x] sp) (bd : ∀ (s : Shared) (u : Value), BindsTo s fd ⟨[u], []⟩ [(x, u)])
    (hs : ∀ H : Hp, Only H → SqL K H a (ns.map V.int) → sp [.ref a] H (fun v _ => v = .bl true) E0) :
    codeAny (model P w) callerA (.call (.ref fa) ⟨[.ref a], []⟩) (fun r s' => r = .ok (.ret (.bool true)) ∧ OldK t.heap s'.heap ∧ s'.os = t.os ∧ AllBare s'.gens) t := by
  have rel := vals_ints hi
  have hz : us.length = ns.length := hi.length
  have go : ∀ H : Hp, Ent P w K a t.heap H → SqL K H a (ns.map V.int) →
      codeAny (model P w) callerA (.call (.ref fa) ⟨[.ref a], []⟩) (fun r s' => r = .ok (.ret (.bool true)) ∧ OldK t.heap s'.heap ∧ s'.os = t.os ∧ AllBare s'.gens) t := fun H e hS => by
    have ns' : ∀ {b m}, t.heap.Ns b m → (hidT t.heap H).Ns b m := fun q => e.hid ⟨_, ha, rfl⟩ q
    have kin := e.kin X
    obtain ⟨mc, l1, l2⟩ := hn
    have env : Env0 P w K mg (hidT t.heap H) callerA [] t H :=
      { frames := rfl
        mod := ⟨kin, ns' hm, ⟨bg, ns' hb, hbb⟩, ⟨mc, ns' l1, l2⟩⟩
        bs := fun b o q => of_hidT q
        bsz := Nat.le_of_eq (hidT_size _ _)
        funs := trivial
        frf := fun b hb => nomatch hb
        hok := e.ok
        bare := .of_eq hg }
    have run := (F _ kin (ns' hm)).run callerA [] t H ⟨[.ref a], []⟩ [.ref a] [.ref a] _ _ hr rfl env (bd t (.ref a)) (.cons rfl .nil) (hs H e.only hS)
    refine codeAny_mono run fun r s' q => ?_
    match r, q with
    | .error _, q => exact q.elim
    | .ok .next, q => exact q.elim
    | .ok .brk, q => exact q.elim
    | .ok .cont, q => exact q.elim
    | .ok (.ret u), ⟨v, H', os, bare, un, hok', rv, qv⟩ =>
      have qv' : v = .bl true := qv
      rw [qv'] at rv
      have eu : u = Value.bool true := rv
      rw [eu]
      refine ⟨rfl, OldK.of_keep fun b o q => ?_, os, bare⟩
      cases z : H b with
      | none => exact un.keep b o q z (fun y => nomatch y) (fun y => nomatch y)
      | some u =>
        rcases e.only b with y | ⟨ob, xs, y⟩
        · rw [z] at y; cases y
        · have y2 := un.frzs b ob _ y
          have g1 := (e.ok b _ y).1
          have g2 := (hok' b _ y2).1
          rw [g1] at q
          rw [← Option.some.inj q]
          exact g2
  cases q : K.lookup a with
  | some o =>
    have eo := X a o q
    rw [ha] at eo
    rw [← Option.some.inj eo] at q
    have sq : SqL K (fun _ => none) a (ns.map V.int) := .inr ⟨_, us.toArray, _, q, rfl, rfl, rfl, by rw [List.size_toArray, hz]; exact hl, by rw [List.toList_toArray]; exact rel⟩
    exact go (fun _ => none) ⟨fun _ => .inl rfl, (fun b u z => nomatch (show (none : Option HO) = some u from z)), (fun b u z => nomatch (show (none : Option HO) = some u from z))⟩ sq
  | none =>
    let L : HO := .frz { cls := .type "list", data := .seq us.toArray } (.lst (ns.map V.int))
    let H : Hp := fun b => if b = a then some L else none
    have Ha : H a = some L := if_pos rfl
    have Hn : ∀ {b u}, H b = some u → b = a ∧ u = L := fun {b u} z => by
      by_cases y : b = a
      · rw [y, Ha] at z; exact ⟨y, (Option.some.inj z).symm⟩
      · rw [show H b = none from if_neg y] at z; cases z
    refine go H ⟨fun b => ?_, fun b u z => ?_, fun b u z => ⟨(Hn z).1, q⟩⟩ (.inl (.inr ⟨_, Ha⟩))
    · by_cases y : b = a
      · rw [y]; exact .inr ⟨_, _, Ha⟩
      · exact .inl (if_neg y)
    · obtain ⟨e1, e2⟩ := Hn z
      rw [e1, e2]
      exact ⟨ha, by rw [List.length_map]; exact hl, us, _, rel, ha⟩
theorem end_walk {l : PySem.W.OpenLaw} {n : Nat} {q : Program} {loose : List Str} {XP : (Str → Option Value) → Heap → Prop} {YP : World → Heap → Prop} {d : DefRec} {KF : Params → PySem.W.Frag} {sq : World → Sp}
    (hn : l.most = some n) (hz : n ≤ sizeLine) (hd : d.params.defaults = []) (hr : Room k callerA) (hY : ∀ (w : World) (h : Heap), YP w h → (KF w.params).In h)
    (F : ∀ (w : World) (mg : Str → Option Value) (fa : Addr) (h : Heap), (KF w.params).In h → XP mg h → h.Ns mainGlobals mg → mg d.name = some (.ref fa) →
      ∃ fd : FuncData, (∀ (s : Shared) (u : Value), BindsTo s fd ⟨[u], []⟩ [(x, u)]) ∧ ∀ base : Heap, (KF w.params).In base → base.Ns mainGlobals mg → FnG l.prog w (KF w.params) mg base CX0 k fa fd [x] (sq w))
    (hs : ∀ (w : World) (H : Hp) (a : Addr) (ns : List Int), ns.length ≤ n → Only H → SqL (KF w.params) H a (ns.map V.int) → sq w [.ref a] H (fun v _ => v = .bl true) E0) :
    PySem.W.WalkO q loose XP YP l.row.toRowW d [] (fun f vs => PySem.call f vs) := by
  refine Att.attach_call hn hd fun w s0 s1 mg mb fa o pm cd doc a vs ns G Y ho hdd hcd hmg hobj hints hlen hg => ?_
  have X := hY w _ Y
  obtain ⟨fd, hb, hF⟩ := F w mg fa _ X G.X G.T.g hmg
  exact end_call X G.T.g G.T.b G.T.builtins G.T.nolimit hg hobj hints (Nat.le_trans hlen hz) hr hF hb fun H hO hS => hs w H a ns hlen hO hS
end
/-- the law's promise from its contract -/
theorem law_sp {K : PySem.W.Frag} {H : Hp} {a : Addr} {ns : List Int} (hl : ns.length ≤ 63) (hO : Only H) (hS : SqL K H a (ns.map V.int)) : mkSp (lawC (0 : Nat) K) [.ref a] H (fun v _ => v = .bl true) E0 := by
  have e : Dt (fun _ => False) H (.scr K ns) (.ref a) := by
    rcases hS with (h | ⟨b, h⟩) | h
    · exact .scrT id h (.inl rfl)
    · exact .scrT id h (.inr ⟨b, rfl⟩)
    · exact .scrK fun _ => .inr h
  have nm : ∀ b, ¬ Wd.M (fun (_ : Nat) (_ : Addr) (_ : HO) => False) b := fun b ⟨_, _, z⟩ => z
  refine ⟨fun _ _ _ => False, 0, [.v (.scr K ns)], fun d _ => d = .bl true, noX, .cons (.v ?_) .nil, fun b m => (nm b m).elim, ⟨ns, rfl, rfl, hl, nm, fun _ => rfl⟩, fun d v g' H' q _ t => ?_, fun c g' H' z => z.elim⟩
  · exact Dt.mono (fun b o _ z => ⟨nm b, z⟩) _ _ e
  · subst q
    cases t
    rfl
end TL
set_option Elab.async false
set_option linter.all false
set_option maxRecDepth 100000
namespace TL
open PySem PySem.Spec L2
/-! ### more rules -/
section
variable {X : Cx}
theorem pe_globI {x : Str} {n : Int} {pos : Pos} (hg : Gl X x) (h : ∃ t, X.mg x = some (.int n t)) (hd : (x == ("__debug__" : Str)) = false := by decide) : PE X (.Name x pos) (tC (.int n)) := by
  obtain ⟨t, h⟩ := h
  exact pe_glob hg h ⟨t, rfl⟩ hd
theorem hu64 {k : Nat} {A : Around} (hr : Room k A) : A.units + 64 < cLine := by have := hr.un; omega
theorem passF {P : Program} {w : World} {X : Cx} : Passes (L2.CX P w) X E0 := fun _ _ _ _ _ _ _ ⟨_, _, _, _, _, _, _, _, _, _, _, _, e⟩ => e.elim
end
section
variable {G : Type} {W : Wd G} {g : G} {k : Rs → Prop} {K : PySem.W.Frag} {x y : Rs} {i j : Int}
/-- an answer's built-in type -/
def Rs.ty : Rs → Option String
  | .v d => d.ty
  | .b _ => some "list"
theorem c_isiR {r : Rs} {n T : String} {b : Bool} (h : r.ty = some n) (hk : kitB n T = some b) (q : k (.v (.bl b))) : wpC (rIsi K) [r, .v (.raw (.ty T))] k := by
  cases r with
  | v d => exact c_isi h hk q
  | b ds =>
    cases h
    intro _ W g0 H vs J oo Q hq
    obtain ⟨v, u, rfl, o1, o2⟩ := oo.two
    rw [v_raw o2]
    obtain ⟨a, xs, rfl, p, _, _⟩ := LstOf.at .b J o1
    exact ⟨.ref a, .ty T, .type "list", .type T, b, rfl, .ty T, .base (.lst p), kit_ty hk, hq _ _ H q (Ext.refl J) (.v (.bl b))⟩
theorem p_eqI (q : k (.v (.bl (decide (i = j))))) : wp2 (rEqP K) (.v (.int i)) (.v (.int j)) k := p_eqP (m := 1) (n := 1) (.v .int) (.v .int) (by decide) (by
  have e : PyData.eqv (D.py (.int i)) (D.py (.int j)) = decide (i = j) := by
    show (i == j) = decide (i = j)
    by_cases h : i = j
    · rw [decide_eq_true h]; simpa using h
    · rw [decide_eq_false h]; simpa using h
  rw [e]; exact q)
theorem p_neI (q : k (.v (.bl (decide (i ≠ j))))) : wp2 (rNeP K) (.v (.int i)) (.v (.int j)) k := p_neP (m := 1) (n := 1) (.v .int) (.v .int) (by decide) (by
  have e : (!PyData.eqv (D.py (.int i)) (D.py (.int j))) = decide (i ≠ j) := by
    show (!(i == j)) = decide (i ≠ j)
    by_cases h : i = j
    · rw [decide_eq_false (fun z => z h)]; simpa using h
    · rw [decide_eq_true h]; simpa using h
  rw [e]; exact q)
/-- lists, shared or lent, of plain data: xs == [] and so on -/
theorem eqv_nil (ds : List D) : PyData.eqv (.list (D.pyL ds)) (.list []) = decide (ds = []) := by
  cases ds <;> rfl
theorem eqvAll_refl : ∀ (ds es : List D), ds = es → (∀ d ∈ ds, PyData.eqv d.py d.py = true) → PyData.eqvAll (D.pyL ds) (D.pyL es) = true
  | [], _, rfl, _ => rfl
  | d :: ds, _, rfl, h => by
    show (PyData.eqv d.py d.py && PyData.eqvAll (D.pyL ds) (D.pyL ds)) = true
    rw [h d List.mem_cons_self, eqvAll_refl ds ds rfl fun e he => h e (List.mem_cons_of_mem _ he)]; rfl
end
section
variable {G : Type} [Gh G] {W : Wd G} {g : G} {H0 : Hp} {ρ : Rho} {te : TE} {K : TK G} {i : Nat}
theorem s_aug {n : Int} {f : Int → Int → Int} (hi : ρ[i]? = some (.v (.int n))) (h : wpE W H0 g ρ te fun r g1 => ∃ m, r = .v (.int m) ∧ K.nx (ρ.set i (.v (.int (f n m)))) g1) : wpS W H0 g ρ (tAug i te (ipI f)) K := fun ps H σ De S k => by
  obtain ⟨v, ev, ov⟩ := S.slot hi
  rw [v_int ov] at ev
  refine ⟨.int n, ev, h ps H σ S _ fun r u g1 H1 ⟨m, er, q⟩ e o => ?_⟩
  subst er
  rw [v_int o]
  exact ⟨n, m, rfl, rfl, k.nx ps g1 H1 _ _ q ((S.to e).set (.int _)) (Nxt.of e)⟩
theorem rgV_eq (n : Nat) : rgV 0 n = ((List.range n).map fun (i : Nat) => (i : Int)).map V.int := by
  unfold rgV
  rw [List.map_map]
  have : ((n : Int) - 0).toNat = n := by omega
  rw [this]
  refine List.map_congr_left fun i _ => ?_
  show V.int (0 + (i : Int)) = V.int i
  rw [Int.zero_add]
/-- list(range(n)) -/
theorem e_listRg {k : Rs → G → Prop} {ta : TE} (h : wpE W H0 g ρ ta fun r g1 => ∃ n : Nat, r = .v (.int n) ∧ n ≤ 1000000 ∧ k (.v (.lst (((List.range n).map fun (i : Nat) => (i : Int)).map D.int))) g1) : wpE W H0 g ρ (tLstRg (tRg1 ta)) k := fun ps H σ S Q hq => h ps H σ S _ fun r v g1 H1 ⟨n, er, hn, q⟩ e o => by
  subst er
  refine ⟨n, v_int o, ⟨by omega, by omega, by omega, by omega, by omega⟩, fun p hp => ?_⟩
  rw [rgV_eq]
  exact hq _ _ g1 _ q (e.trans (Ext.new e.j hp)) (new_lst e.j hp (DtL.ofInts _))
/-- a lent list, walked -/
theorem i_listB {F : PySem.W.Frag} {ds : List D} {k : List D → G → Prop} (hi : ρ[i]? = some (.r (.b ds))) (q : k ds g) : wpI W H0 g ρ (iList F (tVar i)) k := fun ps H σ S R hR => by
  obtain ⟨v, ev, ov⟩ := S.slot hi
  obtain ⟨a, ea, hm⟩ := S.lent i ds hi
  rw [ea] at ev
  cases ev
  cases ov with
  | @b _ _ xs h1 h2 h3 =>
    have at_ : ∀ (ps' : Pins) (g' : G) (H' : Hp), (pinW W ps').J g' H' → ∃ o, H' a = some o ∧ pinW W ps' g' a o := fun ps' g' H' j => j a (pin_m hm)
    have now : H a = some (.lst xs) := by
      obtain ⟨o, e, w⟩ := S.j a h1
      rw [h2 g o w] at e; exact e
    have fix : ∀ (ps' : Pins) (g' : G) (H' : Hp), Nxt W ps H ps' H' → (pinW W ps').J g' H' → H' a = some (.lst xs) := fun ps' g' H' n j => by
      obtain ⟨o, e, w⟩ := j a (pin_m hm)
      rcases w with ⟨q, h, _⟩ | w
      · rcases n.pins _ h with ⟨q', h'⟩ | h'
        · exact absurd hm (S.out _ h').2
        · rw [now] at h'; cases h'
      · rw [h2 g' o (.inr w)] at e; exact e
    refine ⟨.ref a, ea, a, rfl, ⟨xs, .inl (.inl now)⟩, hR ds _ g H q (Ext.refl S.j) ⟨fun ps' g' H' n j i d hd => ?_, fun ps' g' H' n j => ?_⟩⟩
    · have p' := fix ps' g' H' n j
      obtain ⟨w, hw, r⟩ := (n.dtL h3).get hd
      refine ⟨⟨xs, w, .inl (.inl p'), hw⟩, fun x H2 y => ?_⟩
      obtain ⟨rfl, y⟩ := y
      have hx := y xs (.inl (.inl p'))
      rw [hw] at hx
      cases hx
      exact ⟨Ext.refl j, r⟩
    · exact ⟨xs, .inl (.inl (fix ps' g' H' n j)), by rw [h3.length]; exact Nat.le_refl _⟩
/-- a shared or lent list, walked -/
theorem i_listR {F : PySem.W.Frag} {r : Rs} {ds : List D} {k : List D → G → Prop} (hi : ρ[i]? = some (.r r)) (l : LstOf r ds) (q : k ds g) : wpI W H0 g ρ (iList F (tVar i)) k := by
  cases l with
  | v => exact i_list (e_var hi ⟨ds, rfl, q⟩)
  | b => exact i_listB hi q
/-- a module's int -/
theorem e_gl {k : Rs → G → Prop} {n : Int} (q : k (.v (.int n)) g) : wpE W H0 g ρ (tC (.int n)) k := e_int q
end
/-! ### rules with K told, for the parts of comprehensions -/
section
variable {X : Cx} {K : PySem.W.Frag} {w : World} {e : Expr} {ta te : TE} {f : Str} {pos : Pos} {tg : Expr}
theorem ix_seqK (h : X.K = K) : IxR X (rIx K) := by subst h; exact ix_seq
theorem op_inK (h : X.K = K) : OpR X (compareOp .In) (rIn K false) := by subst h; exact op_in_seq
theorem op_notInK (h : X.K = K) : OpR X (compareOp .NotIn) (rIn K true) := by subst h; exact op_notIn_seq
theorem op_eqK (h : X.K = K) (hu : X.A.units + 64 < cLine) : OpR X (compareOp .Eq) (rEqP K) := by subst h; exact op_eqP hu
theorem op_neK (h : X.K = K) (hu : X.A.units + 64 < cLine) : OpR X (compareOp .NotEq) (rNeP K) := by subst h; exact op_neP hu
theorem op_plusK (h : X.K = K) : OpR X (binaryOp .Add) (rPlus K) := by subst h; exact op_plus
theorem cr_lenK (h : X.K = K) : CallR X (.builtin "len") (rLen K) := by subst h; exact cr_len
theorem cr_listK (h : X.K = K) : CallR X (.type "list") (rListOf K) := by subst h; exact cr_list
theorem cr_tupleK (h : X.K = K) : CallR X (.type "tuple") (rTupleOf K) := by subst h; exact cr_tuple
theorem cr_setLK (h : X.K = K) (hw : X.w = w) (hc : X.calm = true) : CallR X (.type "set") (rSetL' K w) := by subst h; subst hw; exact cr_setL hc
theorem cr_sortedSetK (hw : X.w = w) (hc : X.calm = true) : CallR X (.builtin "sorted") (rSortedSet w) := by subst hw; exact cr_sortedSet hc
theorem cr_sumK (h : X.K = K) (hc : X.calm = true) : CallR X (.builtin "sum") (rSum K) := by subst h; exact cr_sum hc
theorem cr_anyK (h : X.K = K) (hc : X.calm = true) : CallR X (.builtin "any") (rAny K) := by subst h; exact cr_any hc
theorem cr_allK (h : X.K = K) (hc : X.calm = true) : CallR X (.builtin "all") (rAll K) := by subst h; exact cr_all hc
theorem cr_reprK (h : X.K = K) (hg : X.A.guards = some []) (hu : X.A.units + 64 < cLine) : CallR X (.builtin "repr") (rRepr K) := by subst h; exact cr_repr hg hu
theorem call_isiK (h : X.K = K) : CallR X (.builtin "isinstance") (rIsi K) := by subst h; exact call_isi
theorem sl_anyK (h : X.K = K) : SlR X (rCut K) := by subst h; exact sl_any
theorem pe_fldK (h : X.K = K) (he : PE X e ta) (hb : attributeBase e f X.env (eval e X.env) = eval e X.env) : PE X (.Attribute e f pos) (tFld K ta f) := by subst h; exact pe_fld he hb
theorem pi_listK {l : Expr} {tl : TE} (h : X.K = K) (hl : PE X l tl) : PI X tg l (iList K tl) := by subst h; exact pi_list hl
theorem pi_tupK {l : Expr} {tl : TE} (h : X.K = K) (hl : PE X l tl) : PI X tg l (iTup K tl) := by subst h; exact pi_tup hl
theorem pg_tupK {es : List Expr} {k : Nat} {t : TGs} {n : Nat} (kk : X.K = K) (hc : X.calm = true) (h : PGs X es t)
    (hn : (assignEach es X.env).length = n := by rfl) (hst : (assignEach es X.env).findIdx? (·.1) = none := by rfl) : PG X (.Tuple es k pos) (gTup K n t) := by subst kk; exact pg_tup hc h hn hst
end
/-! ### comprehensions that draw nothing -/
section
variable {G : Type} [Gh G] {W : Wd G} {g : G} {H0 : Hp} {ρ : Rho} {te : TE} {tt : TT} {wi : TI} {gt : TG} {vs : List Nat} {kn : List D → G → Prop}
theorem take_next {α : Type} {l : List α} {i : Nat} {x : α} (h : l[i]? = some x) : l.take (i + 1) = l.take i ++ [x] := by
  rw [List.take_succ, h]; rfl
theorem n_filter (h : wpI W H0 g ρ wi fun ds g1 => ds.length ≤ 1000000 ∧ ∃ (P : D → Bool) (F : D → D), (∀ d ∈ ds, ∃ f, GT vs gt d f ∧ wpT W H0 g1 (f (wipeR ρ vs)) tt fun b g2 => g2 = g1 ∧ b = P d ∧ (b = true → wpE W H0 g1 (f (wipeR ρ vs)) te fun r g3 => g3 = g1 ∧ r = .v (F d))) ∧ kn ((ds.filter P).map F) g1) : wpN W H0 g ρ (tLc wi gt tt te vs) kn := by
  refine n_lc fun ps H σ S R hR => h ps H σ S R fun ds J g1 H1 ⟨hz, P, F, q, fin⟩ => hR ds J g1 H1 ⟨hz, fun i acc g2 => g2 = g1 ∧ acc = ((ds.take i).filter P).map F, ⟨rfl, rfl⟩, ?_, ?_⟩
  · rintro i d acc g2 hi ⟨rfl, rfl⟩
    obtain ⟨f, hf, ht⟩ := q d (List.mem_of_getElem? hi)
    refine ⟨f, hf, fun ps' H' σ' S' Q' hQ' => ht ps' H' σ' S' Q' fun b g3 H3 ⟨e1, e2, e3⟩ ex => hQ' b g3 H3 ⟨fun hb => ?_, fun hb => ?_⟩ ex⟩
    · subst e1
      refine (e3 hb).mono fun r g4 ⟨e4, e5⟩ => ⟨_, e5, e4, ?_⟩
      rw [take_next hi, List.filter_append, List.map_append, List.filter_cons_of_pos (by rw [← e2]; exact hb)]; rfl
    · subst e1
      refine ⟨rfl, ?_⟩
      rw [take_next hi, List.filter_append, List.filter_cons_of_neg (by rw [← e2, hb]; decide), List.filter_nil, List.append_nil]
  · rintro acc g2 ⟨rfl, rfl⟩
    rw [List.take_length]; exact fin
theorem n_map (h : wpI W H0 g ρ wi fun ds g1 => ds.length ≤ 1000000 ∧ ∃ F : D → D, (∀ d ∈ ds, ∃ f, GT vs gt d f ∧ wpE W H0 g1 (f (wipeR ρ vs)) te fun r g3 => g3 = g1 ∧ r = .v (F d)) ∧ kn (ds.map F) g1) : wpN W H0 g ρ (tLc wi gt tYes te vs) kn :=
  n_filter fun ps H σ S R hR => h ps H σ S R fun ds J g1 H1 ⟨hz, F, q, fin⟩ => hR ds J g1 H1 ⟨hz, fun _ => true, F, fun d hd => by
    obtain ⟨f, hf, he⟩ := q d hd
    exact ⟨f, hf, t_yes ⟨rfl, rfl, fun _ => he⟩⟩, by rw [List.filter_eq_self.mpr fun _ _ => rfl]; exact fin⟩
end
/-! ### one positional value, one keyword -/
def kG {α : Type} : List α → List α → List α
  | [u], [w] => [u, w]
  | _, _ => []
theorem kb_mk {K : PySem.W.Frag} {fd : FuncData} {p1 p2 k : Str} (h : ∀ (s : Shared) (u w : Value), BindsTo s fd ⟨[u], [(k, w)]⟩ [(p1, u), (p2, w)]) : KBinds K fd [p1, p2] [k] kG kG where
  to := fun s us ws _ hl => by
    match us, ws, hl with
    | [u], [w], _ => exact h s u w
    | [], _, z => simp [kG] at z
    | [_], [], z => simp [kG] at z
    | [_], _ :: _ :: _, z => simp [kG] at z
    | _ :: _ :: _, _, z => simp [kG] at z
  rel := fun {vs us zs ws} h1 h2 => by
    cases h1 with
    | nil => exact .nil
    | cons a1 t1 =>
      cases t1 with
      | nil =>
        cases h2 with
        | nil => exact .nil
        | cons a2 t2 =>
          cases t2 with
          | nil => exact .cons a1 (.cons a2 .nil)
          | cons _ _ => exact .nil
      | cons _ _ => exact .nil
theorem kG_rel {G : Type} {W : Wd G} {H : Hp} {rs zs : List Rs} {vs ws : List V} (h1 : RsL W H rs vs) (h2 : RsL W H zs ws) : RsL W H (kG rs zs) (kG vs ws) := by
  cases h1 with
  | nil => exact .nil
  | cons a1 t1 =>
    cases t1 with
    | nil =>
      cases h2 with
      | nil => exact .nil
      | cons a2 t2 =>
        cases t2 with
        | nil => exact .cons a1 (.cons a2 .nil)
        | cons _ _ => exact .nil
    | cons _ _ => exact .nil
/-! ### facts in parts -/
theorem kit_own {K : PySem.W.Frag} {C : Addr} {T : String} (h : PySem.W.subIn K (.ref C) (.type T) = some false) (m : PySem.W.kitMeta T = true) : PySem.W.kitOne K (.ref C) (.type T) = some false := by
  have e : (Value.ref C == Value.type T) = false := rfl
  unfold PySem.W.kitOne
  rw [e]
  show PySem.W.kitCls K (.ref C) (.type T) = some false
  unfold PySem.W.kitCls
  show (if PySem.W.kitMeta T = true then PySem.W.subIn K (.ref C) (.type T) else none) = some false
  rw [if_pos m]; exact h
end TL
set_option Elab.async false
set_option linter.all false
set_option maxRecDepth 100000
namespace TL
open PySem PySem.Spec L2
/-! ### a def that gives a new list to its caller alone -/
variable {G : Type} [Gh G]
abbrev Cn (G : Type) := Wd G → G → List Rs → (List D → G → Prop) → Prop
def mkSpN (C : Cn G) : Sp := fun vs H Q _ => ∃ (W : Wd G) (g : G) (rs : List Rs) (k : List D → G → Prop), RsL W H rs vs ∧ W.J g H ∧ C W g rs k ∧
  ∀ ds a xs g' H', k ds g' → H a = none → Ext W H g' H' → H' a = some (.lst xs) → DtL (fun b => W.M b ∨ b = a) H' ds xs → Q (.ref a) H'
section
variable {W : Wd G} {g : G} {H0 : Hp} {ρ : Rho} {tg : TA} {C : Cn G} {E : XK} {kn : List D → G → Prop}
theorem n_call (h : wpA W H0 g ρ tg fun rs g1 => ∀ W', In W W' ρ → C W' g1 rs kn) : wpN W H0 g ρ (tCall (mkSpN C) [] E tg) kn := fun ps H σ S Q hq => h ps H σ S _ fun rs vs g1 H1 q e o => by
  show mkSpN C (vs ++ []) H1 Q E
  rw [List.append_nil]
  exact ⟨_, g1, rs, kn, o, e.j, q _ (S.to e).in_, fun ds a xs g' H' k hn e2 ha t => hq ds a xs g' H' k (e.free hn) (e.trans e2) ha t⟩
end
section
variable {P : Program} {w : World} {K : PySem.W.Frag} {mg : Str → Option Value} {base : Heap}
/-- its body: some statements, then return of a new list -/
theorem Fun_tN {x qual : Str} {st : Stmt} {f : Addr} {fd : FuncData} {N ps : List Str} {k : Nat} {C : Cn G} (F : Fun K x qual st f fd) (S : FnScope N ps (defScope st)) (len : ∀ W g rs k, C W g rs k → rs.length = ps.length)
    (hbody : ∀ (cdv : Value) (A : Around) (outer : List Env) (s : Shared) (H : Hp) (E : XK) (W : Wd G) (g : G) (rs : List Rs) (kd : List D → G → Prop), Room k (A.deeper (PyProof.Rows.envOfC qual (defScope st) s.heap.objs.size f cdv)) → C W g rs kd →
      ∃ t tl, PSs (cxOf CX0 P w K mg base N qual (defScope st) f cdv A outer s H E).nox (defBody st) (tSeq t (tRet tl)) ∧ wpS W H g (st0 N.length rs) t ⟨fun ρ' g' => wpN W H g' ρ' tl kd, fun _ _ => False, fun _ _ => False, fun _ _ => False⟩) : FnOk P w K mg base CX0 (k + 1) f fd ps (mkSpN C) := by
  refine F.ok S (fun vs H Q E h => ?_) fun cdv A outer s H vs Q E hr h => ?_
  · obtain ⟨W, g, rs, kd, o, j, c, _⟩ := h
    rw [o.length]; exact len W g rs kd c
  · obtain ⟨W, g, rs, kd, o, j, c, hq⟩ := h
    obtain ⟨t, tl, h1, h2⟩ := hbody cdv A outer s H E W g rs kd hr c
    refine ⟨_, h1, h2 [] H (L2.start N vs) _ (sta0 o j) ⟨fun ps' g' H' σ' ρ' q S' _ => ?_, fun d v g' H' q => q.elim, fun _ _ _ _ _ q => q.elim, fun _ _ _ _ _ q => q.elim⟩⟩
    refine q ps' H' σ' S' _ fun ds a xs g2 H2 kk hn e ha tt => ?_
    refine hq ds a xs g2 H2 kk (S'.ext.free hn) (S'.to e).base ha (DtL.mono (fun b u m z => ⟨fun y => m ?_, z⟩) _ _ tt)
    rcases y with y | y
    · exact .inl (pin_m y)
    · exact .inr y
end
end TL
set_option Elab.async false
set_option linter.all false
set_option maxRecDepth 100000
namespace TL
open PySem PySem.Spec L2
/-! ### three comparisons in a row, as a test -/
section
variable {X : Cx} {o1 o2 o3 : CmpOp} {r1 r2 r3 : R2} {a b c d : Expr} {ta tb tc td : TE} {pos : Pos}
theorem pt_chain3 (h1 : OpR X (compareOp o1) r1) (h2 : OpR X (compareOp o2) r2) (h3 : OpR X (compareOp o3) r3) (ha : PE X a ta) (hb : PE X b tb) (hc : PE X c tc) (hd : PE X d td)
    (hm : lastMarks [o1, o2, o3] [b, c, d] = false := by with_unfolding_all rfl) : PT X (.Compare a [o1, o2, o3] [b, c, d] pos) (tTest (tChain3 r1 r2 r3 ta tb tc td)) := by
  refine ⟨fun pins s σ H Q I h => ?_⟩
  refine PyProof.Rows.isTrue_chain (thn (ha.run pins s σ H _ I h) fun v s1 ⟨x, H1, I1, e1, q1⟩ => PyProof.Rows.test_link (thn (hb.run pins s1 σ H1 _ I1 q1) fun u s2 ⟨y, H2, I2, e2, q2⟩ => thn (h1 pins s2 σ H2 x y v u _ I2 e1 e2 q2) fun g s3 ⟨z, H3, I3, e3, k, ez, q3⟩ => ?_)) hm
  subst ez
  cases e3
  refine wpAny_truthy_bool ?_
  cases k with
  | false =>
    obtain ⟨k', e', q'⟩ := q3
    cases e'
    exact PyProof.Rows.ite_ff ⟨H3, I3, q'⟩
  | true =>
    refine PyProof.Rows.ite_tt (PyProof.Rows.test_link (thn (hc.run pins s3 σ H3 _ I3 q3) fun u' s4 ⟨y', H4, I4, e4, q4⟩ => thn (h2 pins s4 σ H4 y y' u u' _ I4 e2 e4 q4) fun g' s5 ⟨z', H5, I5, e5, k', ez', q5⟩ => ?_))
    subst ez'
    cases e5
    refine wpAny_truthy_bool ?_
    cases k' with
    | false =>
      obtain ⟨k2, e', q'⟩ := q5
      cases e'
      exact PyProof.Rows.ite_ff ⟨H5, I5, q'⟩
    | true =>
      refine PyProof.Rows.ite_tt (PyProof.Rows.test_last (thn (hd.run pins s5 σ H5 _ I5 q5) fun w' s6 ⟨z6, H6, I6, e6, q6⟩ => thn (h3 pins s6 σ H6 y' z6 u' w' _ I6 e4 e6 q6) fun d' s7 ⟨z7, H7, I7, e7, k7, ez7, q7⟩ => ?_))
      subst ez7
      cases e7
      exact wpAny_truthy_bool ⟨H7, I7, q7⟩
end
/-! ### a def that is one return of a new list; as a property -/
section
variable {G : Type} [Gh G]
theorem Fun_tN1 {P : Program} {w : World} {K : PySem.W.Frag} {mg : Str → Option Value} {base : Heap} {x qual : Str} {st : Stmt} {f : Addr} {fd : FuncData} {N ps : List Str} {k : Nat} {C : Cn G} (F : Fun K x qual st f fd) (S : FnScope N ps (defScope st)) (len : ∀ W g rs k, C W g rs k → rs.length = ps.length)
    (hbody : ∀ (cdv : Value) (A : Around) (outer : List Env) (s : Shared) (H : Hp) (E : XK) (W : Wd G) (g : G) (rs : List Rs) (kd : List D → G → Prop), Room k (A.deeper (PyProof.Rows.envOfC qual (defScope st) s.heap.objs.size f cdv)) → C W g rs kd →
      ∃ tl, PSs (cxOf CX0 P w K mg base N qual (defScope st) f cdv A outer s H E).nox (defBody st) (tRet tl) ∧ wpN W H g (st0 N.length rs) tl kd) : FnOk P w K mg base CX0 (k + 1) f fd ps (mkSpN C) := by
  refine F.ok S (fun vs H Q E h => ?_) fun cdv A outer s H vs Q E hr h => ?_
  · obtain ⟨W, g, rs, kd, o, j, c, _⟩ := h
    rw [o.length]; exact len W g rs kd c
  · obtain ⟨W, g, rs, kd, o, j, c, hq⟩ := h
    obtain ⟨tl, h1, h2⟩ := hbody cdv A outer s H E W g rs kd hr c
    refine ⟨_, h1, h2 [] H (L2.start N vs) (sta0 o j) _ fun ds a xs g2 H2 kk hn e ha tt => ?_⟩
    rw [pinW_nil] at e tt
    exact hq ds a xs g2 H2 kk hn e ha tt
variable {W : Wd G} {g : G} {H0 : Hp} {ρ : Rho} {ta : TE} {C : Cn G} {E : XK} {Cc : Addr} {kn : List D → G → Prop}
theorem n_prop (h : wpE W H0 g ρ ta fun r g1 => ∃ fs, r = .v (.ins Cc fs) ∧ ∀ W', In W W' ρ → C W' g1 [r] kn) : wpN W H0 g ρ (tProp Cc (mkSpN C) [] E ta) kn := fun ps H σ S Q hq => h ps H σ S _ fun r v g1 H1 q e o => by
  obtain ⟨fs, rfl, q⟩ := q
  have o' := o
  cases o with
  | v o =>
    cases o with
    | ins n p t => exact ⟨_, _, _, rfl, p, _, g1, _, kn, .cons o' .nil, e.j, q _ (S.to e).in_, fun ds a xs g' H' k hn e2 ha t => hq ds a xs g' H' k (e.free hn) (e.trans e2) ha t⟩
end
end TL
set_option Elab.async false
set_option linter.all false
set_option maxRecDepth 100000
namespace TL
open PySem PySem.Spec L2 PyProof.Rows
/-! ### arguments in the parameters' order -/
def pick {α : Type} (ix : List Nat) (l : List α) : List α := ix.filterMap fun i => l[i]?
theorem pick_cons {α : Type} (i : Nat) (ix : List Nat) (l : List α) : pick (i :: ix) l = (match l[i]? with | some x => x :: pick ix l | none => pick ix l) := by
  unfold pick
  rw [List.filterMap_cons]
  cases l[i]? <;> rfl
theorem pick_vals {vs : List V} {us : List Value} (h : Vals vs us) : ∀ ix : List Nat, Vals (pick ix vs) (pick ix us)
  | [] => .nil
  | i :: ix => by
    rw [pick_cons, pick_cons]
    cases e : vs[i]? with
    | some x =>
      obtain ⟨u, e2, r⟩ := h.get e
      rw [e2]
      exact .cons r (pick_vals h ix)
    | none =>
      have e2 : us[i]? = none := by
        rw [List.getElem?_eq_none_iff] at e ⊢
        rw [← h.length]; exact e
      rw [e2]
      exact pick_vals h ix
theorem RsL.append {G : Type} {W : Wd G} {H : Hp} : ∀ {rs zs : List Rs} {vs ws : List V}, RsL W H rs vs → RsL W H zs ws → RsL W H (rs ++ zs) (vs ++ ws)
  | _, _, _, _, .nil, s => s
  | _, _, _, _, .cons r t, s => .cons r (RsL.append t s)
theorem pick_rs {G : Type} {W : Wd G} {H : Hp} {rs : List Rs} {vs : List V} (h : RsL W H rs vs) : ∀ ix : List Nat, RsL W H (pick ix rs) (pick ix vs)
  | [] => .nil
  | i :: ix => by
    rw [pick_cons, pick_cons]
    cases e : rs[i]? with
    | some x =>
      obtain ⟨u, e2, r⟩ := h.get e
      rw [e2]
      exact .cons r (pick_rs h ix)
    | none =>
      have e2 : vs[i]? = none := by
        rw [List.getElem?_eq_none_iff] at e ⊢
        rw [h.length]; exact e
      rw [e2]
      exact pick_rs h ix
/-- n values by place, then those that are named ks: ix tells the parameters' order -/
theorem pick_tail {α : Type} (x : α) (l : List α) : ∀ it : List Nat, (∀ i ∈ it, 0 < i) → pick it (x :: l) = pick (it.map (· - 1)) l
  | [], _ => rfl
  | i :: it, hi => by
    obtain ⟨j, rfl⟩ : ∃ j, i = j + 1 := ⟨i - 1, by have := hi i List.mem_cons_self; omega⟩
    rw [List.map_cons, pick_cons, pick_cons, pick_tail x l it fun i h => hi i (List.mem_cons_of_mem _ h)]
    simp
structure KB (fd : FuncData) (ps : List Str) (n : Nat) (ks : List Str) (ix : List Nat) : Prop where
  to : ∀ (s : Shared) (us ws : List Value), us.length = n → ws.length = ks.length → BindsTo s fd ⟨us, ks.zip ws⟩ (ps.zip (pick ix (us ++ ws)))
section
variable {X : Cx} {CX : CXT} {E : XK}
theorem passC (h : Passes CX X E) : ∀ σ, PassesAt CX X σ ((fun _ => E) σ) := fun σ pins H s e s' I c => h pins σ H s e s' I c
end
/-! ### calls by keyword; objects made; both also within a try -/
section
variable {X : Cx} {CX : CXT} {k n : Nat} {f C : Addr} {fd : FuncData} {ps ks : List Str} {ix : List Nat} {sp : Sp} {E : L2.St → XK} {x m : Str} {p pos apos : Pos} {e o : Expr} {es : List Expr} {kws : List Keyword} {te ta : TE} {t tk : TA}
theorem run_fnKS {pins : List (Addr × Obj)} {σ : L2.St} {H : Hp} {s : Shared} {Q : VK} {us ws : List Value} {vs zs : List V} (F : FnOk X.prog X.w X.K X.mg X.base CX k f fd ps sp) (hr : Room k X.A) (hb : KB fd ps n ks ix) (hx : PassesAt CX X σ (E σ))
    (I : Inv X pins σ H s) (r : Vals vs us) (rz : Vals zs ws) (l1 : vs.length = n) (l2 : zs.length = ks.length) (h : sp (pick ix (vs ++ zs)) H Q (E σ)) : wpAny (model X.prog X.w) X.A (call (.ref f) us (ks.zip ws)) (EP X pins σ Q) X.xe s := by
  have b := hb.to s us ws (by rw [← r.length]; exact l1) (by rw [← rz.length]; exact l2)
  refine wpAny_call (codeAny_mono (F.run X.A X.stack s H ⟨us, ks.zip ws⟩ (pick ix (us ++ ws)) _ Q (E σ) hr I.env0 b (pick_vals (r.append rz) ix) h) fun r s' hq => ?_)
  cases r with
  | error er => exact hx pins H s er s' I hq
  | ok fl =>
    cases fl with
    | ret u => exact I.after hq
    | next => exact False.elim hq
    | brk => exact False.elim hq
    | cont => exact False.elim hq
def tCallKS (sp : Sp) (n m : Nat) (ix : List Nat) (E : L2.St → XK) (t tk : TA) : TE := fun σ H Q => t σ H fun vs H1 => tk σ H1 fun zs H2 => vs.length = n ∧ zs.length = m ∧ sp (pick ix (vs ++ zs)) H2 Q (E σ)
theorem pe_callKS (F : FnOk X.prog X.w X.K X.mg X.base CX k f fd ps sp) (hr : Room k X.A) (hg : Gl X x) (hm : X.mg x = some (.ref f)) (hk : PySem.W.keepIn X.K (.ref f) = true) (hb : KB fd ps n ks ix) (hx : ∀ σ, PassesAt CX X σ (E σ))
    (ha : PA X (e :: es) t) (hkw : PK X kws tk) (hall : (backToKw pos (keywordEach kws X.env)).all (·.1.isSome) = true := by rfl) (hks : (backToKw pos (keywordEach kws X.env)).filterMap (·.1) = ks := by rfl)
    (hdb : (x == ("__debug__" : Str)) = false := by decide) (he : starEach (e :: es) X.env = (false, eval e X.env) :: starEach es X.env := by rfl)
    (hpl : ((backTo pos (starEach (e :: es) X.env)).any (·.1) || (backToKw pos (keywordEach kws X.env)).any (·.1.isNone)) = false := by rfl) :
    PE X (.Call (.Name x p) (e :: es) kws pos) (tCallKS sp n ks.length ix E t tk) := by
  refine ⟨fun pins s σ H Q I h => wpAny_Call_Name_kw (ld_glob I hg hm ?_ hdb)⟩
  refine PySem.W.callWith_KW (h₀ := X.base) I.ok.mod.kin hk hall (thn (ha.run pos pins s σ H _ I h) fun us s1 ⟨vs, H1, I1, r, q⟩ => ?_) hpl he
  refine thn (hkw.run pos pins s1 σ H1 _ I1 q) fun ws s2 ⟨zs, H2, I2, rz, l1, l2, q2⟩ => ⟨I2.kIn, ?_⟩
  rw [hks]
  exact run_fnKS F hr hb (hx σ) I2 r rz l1 l2 q2
theorem pe_callKS0 (F : FnOk X.prog X.w X.K X.mg X.base CX k f fd ps sp) (hr : Room k X.A) (hg : Gl X x) (hm : X.mg x = some (.ref f)) (hk : PySem.W.keepIn X.K (.ref f) = true) (hb : KB fd ps 0 ks ix) (hx : ∀ σ, PassesAt CX X σ (E σ))
    (hkw : PK X kws tk) (hall : (backToKw pos (keywordEach kws X.env)).all (·.1.isSome) = true := by rfl) (hks : (backToKw pos (keywordEach kws X.env)).filterMap (·.1) = ks := by rfl)
    (hdb : (x == ("__debug__" : Str)) = false := by decide) (hpl : ((backTo pos (starEach [] X.env)).any (·.1) || (backToKw pos (keywordEach kws X.env)).any (·.1.isNone)) = false := by rfl) :
    PE X (.Call (.Name x p) [] kws pos) (tCallKS sp 0 ks.length ix E tNil tk) := by
  refine ⟨fun pins s σ H Q I h => wpAny_Call_Name_kw (ld_glob I hg hm ?_ hdb)⟩
  refine PySem.W.callWith_KW0 (h₀ := X.base) I.ok.mod.kin hk hall ?_ hpl
  refine thn (hkw.run pos pins s σ H _ I h) fun ws s2 ⟨zs, H2, I2, rz, l1, l2, q2⟩ => ⟨I2.kIn, ?_⟩
  rw [hks]
  exact run_fnKS (us := []) (vs := []) F hr hb (hx σ) I2 .nil rz l1 l2 q2
def tMethKS (C : Addr) (m : Str) (sp : Sp) (n j : Nat) (ix : List Nat) (E : L2.St → XK) (ta : TE) (t tk : TA) : TE := fun σ H Q => ta σ H fun x H1 => ∃ a dx fs, x = .ref a ∧ H1 a = some (.ins C dx fs) ∧ fs.lookup m = none ∧ t σ H1 fun vs H2 => tk σ H2 fun zs H3 => (x :: vs).length = n ∧ zs.length = j ∧ sp (pick ix (x :: vs ++ zs)) H3 Q (E σ)
theorem pe_methKS {pl : Sem Bool} (he : PE X o ta) (c : Cls X.K C) (hm : Meth X.K C m f) (F : FnOk X.prog X.w X.K X.mg X.base CX k f fd ps sp) (hr : Room k X.A) (hb : KB fd ps n ks ix) (hx : ∀ σ, PassesAt CX X σ (E σ)) (ha : PA X (e :: es) t) (hkw : PK X kws tk)
    (hall : (backToKw pos (keywordEach kws X.env)).all (·.1.isSome) = true := by rfl) (hks : (backToKw pos (keywordEach kws X.env)).filterMap (·.1) = ks := by rfl) (hst : starEach (e :: es) X.env = (false, eval e X.env) :: starEach es X.env := by rfl)
    (hpl : ((backTo pos (starEach (e :: es) X.env)).any (·.1) || (backToKw pos (keywordEach kws X.env)).any (·.1.isNone)) = false := by rfl)
    (ht : eval (.Call (.Attribute o m apos) (e :: es) kws pos) X.env = (do
      let ov ← eval o X.env
      standAt apos.atName
      let (f, first) ← holding [ov] (getMethod ov m pl)
      callWith pos f first (backTo pos (starEach (e :: es) X.env)) (backToKw pos (keywordEach kws X.env))) := by rfl) :
    PE X (.Call (.Attribute o m apos) (e :: es) kws pos) (tMethKS C m sp n ks.length ix E ta t tk) := by
  refine ⟨fun pins s σ H Q I h => PySem.W.methodCall_KW (pl := pl) (thn (he.run pins s σ H _ I h) fun u s1 ⟨x, H1, I1, rx, a, dx, fs, ex, ea, l, q⟩ => ?_) ht⟩
  subst ex
  obtain rfl : u = Value.ref a := rx
  refine getmeth_ok I1 ea c hm l ?_
  refine PySem.W.callWith_KW (first := [.ref a]) (h₀ := X.base) I.ok.mod.kin hm.kp hall (thn (ha.run pos pins s1 σ H1 _ I1 q) fun us s2 ⟨vs, H2, I2, r, q2⟩ => ?_) hpl hst
  refine thn (hkw.run pos pins s2 σ H2 _ I2 q2) fun ws s3 ⟨zs, H3, I3, rz, l1, l2, q3⟩ => ⟨I3.kIn, ?_⟩
  rw [hks]
  exact run_fnKS (us := .ref a :: us) (vs := .ref a :: vs) F hr hb (hx σ) I3 (.cons rfl r) rz l1 l2 q3
theorem pe_methKS0 {pl : Sem Bool} (he : PE X o ta) (c : Cls X.K C) (hm : Meth X.K C m f) (F : FnOk X.prog X.w X.K X.mg X.base CX k f fd ps sp) (hr : Room k X.A) (hb : KB fd ps 1 ks ix) (hx : ∀ σ, PassesAt CX X σ (E σ)) (hkw : PK X kws tk)
    (hall : (backToKw pos (keywordEach kws X.env)).all (·.1.isSome) = true := by rfl) (hks : (backToKw pos (keywordEach kws X.env)).filterMap (·.1) = ks := by rfl)
    (hpl : ((backTo pos (starEach [] X.env)).any (·.1) || (backToKw pos (keywordEach kws X.env)).any (·.1.isNone)) = false := by rfl)
    (ht : eval (.Call (.Attribute o m apos) [] kws pos) X.env = (do
      let ov ← eval o X.env
      standAt apos.atName
      let (f, first) ← holding [ov] (getMethod ov m pl)
      callWith pos f first (backTo pos (starEach [] X.env)) (backToKw pos (keywordEach kws X.env))) := by rfl) :
    PE X (.Call (.Attribute o m apos) [] kws pos) (tMethKS C m sp 1 ks.length ix E ta tNil tk) := by
  refine ⟨fun pins s σ H Q I h => PySem.W.methodCall_KW (pl := pl) (thn (he.run pins s σ H _ I h) fun u s1 ⟨x, H1, I1, rx, a, dx, fs, ex, ea, l, q⟩ => ?_) ht⟩
  subst ex
  obtain rfl : u = Value.ref a := rx
  refine getmeth_ok I1 ea c hm l ?_
  refine PySem.W.callWith_KW0 (first := [.ref a]) (h₀ := X.base) I.ok.mod.kin hm.kp hall (thn (hkw.run pos pins s1 σ H1 _ I1 q) fun ws s3 ⟨zs, H3, I3, rz, l1, l2, q3⟩ => ⟨I3.kIn, ?_⟩) hpl
  rw [hks]
  exact run_fnKS (us := [.ref a]) (vs := [.ref a]) F hr hb (hx σ) I3 (.cons rfl .nil) rz l1 l2 q3
/-- a new object, its arguments by place and by keyword (ks may be empty) -/
theorem run_makeKS {pins : List (Addr × Obj)} {σ : L2.St} {H : Hp} {s : Shared} {Q : VK} {us ws : List Value} {vs zs : List V} (M : Mk X.K C f) (F : FnOk X.prog X.w X.K X.mg X.base CX k f fd ps sp) (hr : Room (k + 1) X.A) (hb : KB fd ps (n + 1) ks ix) (hx : PassesAt CX X σ (E σ))
    (I : Inv X pins σ H s) (r : Vals vs us) (rz : Vals zs ws) (l1 : vs.length = n) (l2 : zs.length = ks.length)
    (h : ∀ x dx, H x = none → H dx = none → dx ≠ x → sp (pick ix (.ref x :: vs ++ zs)) (upd (upd H dx (.own x)) x (.ins C dx [])) (fun v H2 => v = .non ∧ Q (.ref x) H2) (E σ)) :
    wpAny (model X.prog X.w) X.A (call (.ref C) us (ks.zip ws)) (EP X pins σ Q) X.xe s := by
  have hq := h (s.heap.objs.size + 1) s.heap.objs.size (I.hok.fresh (Nat.le_succ _)) (I.hok.fresh (Nat.le_refl _)) (Nat.ne_of_lt (Nat.lt_succ_self _))
  have I2 := Inv.made (C := C) I
  have r1 : Vals (V.ref (s.heap.objs.size + 1) :: vs) (Value.ref (s.heap.objs.size + 1) :: us) := .cons rfl r
  have n1 : (Value.ref (s.heap.objs.size + 1) :: us).length = n + 1 := by rw [List.length_cons, ← r.length, l1]
  have n2 : ws.length = ks.length := by rw [← rz.length]; exact l2
  refine wpAny_call (make_map (f := f) I.kIn M.makes M.init (beq_iff_eq.mp M.fn) (codeAny_mono (F.run _ X.stack _ _ ⟨Value.ref (s.heap.objs.size + 1) :: us, ks.zip ws⟩ (pick ix (Value.ref (s.heap.objs.size + 1) :: us ++ ws)) _ _ (E σ) (hr.make C us (ks.zip ws))
    (I2.env0.make C us (ks.zip ws)) (hb.to _ (Value.ref (s.heap.objs.size + 1) :: us) ws n1 n2) (pick_vals (r1.append rz) ix) hq) fun r s' hq' => ?_))
  cases r with
  | error e => exact hx pins _ _ e s' I2 hq'
  | ok fl =>
    cases fl with
    | ret u =>
      obtain ⟨v, H', I3, rv, ev, q3⟩ := I2.after hq'
      subst ev
      exact ⟨rv, ⟨V.ref (s.heap.objs.size + 1), H', I3, rfl, q3⟩⟩
    | next => exact False.elim hq'
    | brk => exact False.elim hq'
    | cont => exact False.elim hq'
def tMakeKS (C : Addr) (sp : Sp) (n m : Nat) (ix : List Nat) (E : L2.St → XK) (t tk : TA) : TE := fun σ H Q => t σ H fun vs H1 => tk σ H1 fun zs H2 => vs.length = n ∧ zs.length = m ∧ ∀ x dx, H2 x = none → H2 dx = none → dx ≠ x →
  sp (pick ix (.ref x :: vs ++ zs)) (upd (upd H2 dx (.own x)) x (.ins C dx [])) (fun v H3 => v = .non ∧ Q (.ref x) H3) (E σ)
theorem pe_makeKS (M : Mk X.K C f) (F : FnOk X.prog X.w X.K X.mg X.base CX k f fd ps sp) (hr : Room (k + 1) X.A) (hg : Gl X x) (hm : X.mg x = some (.ref C)) (hb : KB fd ps (n + 1) ks ix) (hx : ∀ σ, PassesAt CX X σ (E σ)) (ha : PA X (e :: es) t) (hkw : PK X kws tk)
    (hall : (backToKw pos (keywordEach kws X.env)).all (·.1.isSome) = true := by rfl) (hks : (backToKw pos (keywordEach kws X.env)).filterMap (·.1) = ks := by rfl) (hdb : (x == ("__debug__" : Str)) = false := by decide)
    (he : starEach (e :: es) X.env = (false, eval e X.env) :: starEach es X.env := by rfl) (hpl : ((backTo pos (starEach (e :: es) X.env)).any (·.1) || (backToKw pos (keywordEach kws X.env)).any (·.1.isNone)) = false := by rfl) :
    PE X (.Call (.Name x p) (e :: es) kws pos) (tMakeKS C sp n ks.length ix E t tk) := by
  refine ⟨fun pins s σ H Q I h => wpAny_Call_Name_kw (ld_glob I hg hm ?_ hdb)⟩
  refine PySem.W.callWith_KW (h₀ := X.base) I.ok.mod.kin M.kp hall (thn (ha.run pos pins s σ H _ I h) fun us s1 ⟨vs, H1, I1, r, q⟩ => ?_) hpl he
  refine thn (hkw.run pos pins s1 σ H1 _ I1 q) fun ws s2 ⟨zs, H2, I2, rz, l1, l2, q2⟩ => ⟨I2.kIn, ?_⟩
  rw [hks]
  exact run_makeKS M F hr hb (hx σ) I2 r rz l1 l2 q2
theorem pe_makeKS0 (M : Mk X.K C f) (F : FnOk X.prog X.w X.K X.mg X.base CX k f fd ps sp) (hr : Room (k + 1) X.A) (hg : Gl X x) (hm : X.mg x = some (.ref C)) (hb : KB fd ps 1 ks ix) (hx : ∀ σ, PassesAt CX X σ (E σ)) (hkw : PK X kws tk)
    (hall : (backToKw pos (keywordEach kws X.env)).all (·.1.isSome) = true := by rfl) (hks : (backToKw pos (keywordEach kws X.env)).filterMap (·.1) = ks := by rfl) (hdb : (x == ("__debug__" : Str)) = false := by decide)
    (hpl : ((backTo pos (starEach [] X.env)).any (·.1) || (backToKw pos (keywordEach kws X.env)).any (·.1.isNone)) = false := by rfl) :
    PE X (.Call (.Name x p) [] kws pos) (tMakeKS C sp 0 ks.length ix E tNil tk) := by
  refine ⟨fun pins s σ H Q I h => wpAny_Call_Name_kw (ld_glob I hg hm ?_ hdb)⟩
  refine PySem.W.callWith_KW0 (h₀ := X.base) I.ok.mod.kin M.kp hall ?_ hpl
  refine thn (hkw.run pos pins s σ H _ I h) fun ws s2 ⟨zs, H2, I2, rz, l1, l2, q2⟩ => ⟨I2.kIn, ?_⟩
  rw [hks]
  exact run_makeKS (us := []) (vs := []) M F hr hb (hx σ) I2 .nil rz l1 l2 q2
/-- by place alone, within a try -/
theorem pe_makeS (M : Mk X.K C f) (F : FnOk X.prog X.w X.K X.mg X.base CX k f fd ps sp) (hr : Room (k + 1) X.A) (hg : Gl X x) (hm : X.mg x = some (.ref C)) (hb : KB fd ps (n + 1) [] ix) (hx : ∀ σ, PassesAt CX X σ (E σ)) (ha : PA X (e :: es) t)
    (hdb : (x == ("__debug__" : Str)) = false := by decide) (he : starEach (e :: es) X.env = (false, eval e X.env) :: starEach es X.env := by rfl) (hpl : (backTo pos (starEach es X.env)).any (·.1) = false := by rfl) :
    PE X (.Call (.Name x p) (e :: es) [] pos) (tMakeKS C sp n 0 ix E t tNil) := by
  refine ⟨fun pins s σ H Q I h => wpAny_Call_Name_kw (ld_glob I hg hm ?_ hdb)⟩
  refine PySem.W.callWith_K (h₀ := X.base) I.ok.mod.kin M.kp (thn (ha.run pos pins s σ H _ I h) fun us s1 ⟨vs, H1, I1, r, l1, _, q⟩ => ⟨I1.kIn, ?_⟩) he hpl
  exact run_makeKS (ks := []) (ws := []) (zs := []) M F hr hb (hx σ) I1 r .nil l1 rfl q
end
section
variable {G : Type} [Gh G] {W : Wd G} {g : G} {H0 : Hp} {ρ : Rho} {ta : TE} {tg tk : TA} {k : Rs → G → Prop} {kn : List D → G → Prop} {C : Ct G} {Cn' : Cn G} {Ci' : Ci G} {Cc : Addr} {m : Str} {x : Value → G → Prop} {n j : Nat} {ix : List Nat} {E : L2.St → XK}
/-- where what is raised may go: nowhere; out of the def; to the try around -/
theorem x_no : ∀ ps (g' : G) H σ c, noX c g' → Sta W H0 ps g' H σ ρ → E σ c none H := fun _ _ _ _ _ z => z.elim
theorem x_out {E : XK} (hx : ∀ c g' H', x c g' → Ext W H0 g' H' → E c none H') : ∀ ps (g' : G) H σ c, x c g' → Sta W H0 ps g' H σ ρ → (fun _ => E) σ c none H := fun _ g' H _ c h S => hx c g' H h S.base
theorem e_callKS (hx : ∀ ps g' H σ c, x c g' → Sta W H0 ps g' H σ ρ → E σ c none H) (h : wpA W H0 g ρ tg fun rs g1 => wpA W H0 g1 ρ tk fun zs g2 => rs.length = n ∧ zs.length = j ∧ ∀ W', In W W' ρ → C W' g2 (pick ix (rs ++ zs)) (fun d => k (.v d)) x) :
    wpE W H0 g ρ (tCallKS (mkSp C) n j ix E tg tk) k := fun ps H σ S Q hq => h ps H σ S _ fun rs vs g1 H1 q e o => q ps H1 σ (S.to e) _ fun zs ws g2 H2 ⟨l1, l2, q2⟩ e2 o2 =>
  ⟨by rw [o.length]; exact l1, by rw [o2.length]; exact l2, _, g2, _, _, _, pick_rs ((RsL.ext e2 o).append o2) ix, e2.j, q2 _ (S.to (e.trans e2)).in_, fun d v g' H' kd e3 od => hq _ v g' H' kd ((e.trans e2).trans e3) (.v od), fun c g' H' z e3 => hx ps g' H' σ c z (S.to ((e.trans e2).trans e3))⟩
theorem n_callKS (h : wpA W H0 g ρ tg fun rs g1 => wpA W H0 g1 ρ tk fun zs g2 => rs.length = n ∧ zs.length = j ∧ ∀ W', In W W' ρ → Cn' W' g2 (pick ix (rs ++ zs)) kn) :
    wpN W H0 g ρ (tCallKS (mkSpN Cn') n j ix E tg tk) kn := fun ps H σ S Q hq => h ps H σ S _ fun rs vs g1 H1 q e o => q ps H1 σ (S.to e) _ fun zs ws g2 H2 ⟨l1, l2, q2⟩ e2 o2 =>
  ⟨by rw [o.length]; exact l1, by rw [o2.length]; exact l2, _, g2, _, kn, pick_rs ((RsL.ext e2 o).append o2) ix, e2.j, q2 _ (S.to (e.trans e2)).in_, fun ds a xs g' H' k hn e3 ha t => hq ds a xs g' H' k ((e.trans e2).free hn) ((e.trans e2).trans e3) ha t⟩
theorem e_methKS (hx : ∀ ps g' H σ c, x c g' → Sta W H0 ps g' H σ ρ → E σ c none H) (h : wpE W H0 g ρ ta fun r g1 => ∃ fs, r = .v (.ins Cc fs) ∧ fs.lookup m = none ∧ wpA W H0 g1 ρ tg fun rs g2 => wpA W H0 g2 ρ tk fun zs g3 => (r :: rs).length = n ∧ zs.length = j ∧ ∀ W', In W W' ρ → C W' g3 (pick ix (r :: rs ++ zs)) (fun d => k (.v d)) x) :
    wpE W H0 g ρ (tMethKS Cc m (mkSp C) n j ix E ta tg tk) k := fun ps H σ S Q hq => h ps H σ S _ fun r v g1 H1 q e o => by
  obtain ⟨fs, rfl, l, q⟩ := q
  have o' := o
  cases o with
  | v o =>
    cases o with
    | ins nm p t =>
      refine ⟨_, _, _, rfl, p, t.lookupN l, q ps H1 σ (S.to e) _ fun rs vs g2 H2 q2 e2 o2 => q2 ps H2 σ (S.to (e.trans e2)) _ fun zs ws g3 H3 ⟨l1, l2, q3⟩ e3 o3 => ?_⟩
      have e12 := (e.trans e2).trans e3
      have r1 : RsL (pinW W ps) H3 (_ :: rs) (_ :: vs) := .cons ((o'.ext e2).ext e3) (RsL.ext e3 o2)
      exact ⟨by rw [r1.length]; exact l1, by rw [o3.length]; exact l2, _, g3, _, _, _, pick_rs (r1.append o3) ix, e3.j, q3 _ (S.to e12).in_, fun d v g' H' kd e4 od => hq _ v g' H' kd (e12.trans e4) (.v od), fun c g' H' z e4 => hx ps g' H' σ c z (S.to (e12.trans e4))⟩
theorem e_makeKS (hx : ∀ ps g' H σ c, x c g' → Sta W H0 ps g' H σ ρ → E σ c none H) (hz : ix.head? = some 0 ∧ ∀ i ∈ ix.tail, 0 < i) (h : wpA W H0 g ρ tg fun rs g1 => wpA W H0 g1 ρ tk fun zs g2 => rs.length = n ∧ zs.length = j ∧ ∀ W', In W W' ρ → Ci' W' g2 (pick (ix.tail.map (· - 1)) (rs ++ zs)) (fun fs => k (.v (.ins Cc fs))) x) :
    wpE W H0 g ρ (tMakeKS Cc (inSp Cc Ci') n j ix E tg tk) k := fun ps H σ S Q hq => h ps H σ S _ fun rs vs g1 H1 q e o => q ps H1 σ (S.to e) _ fun zs ws g2 H2 ⟨l1, l2, q2⟩ e2 o2 => by
  refine ⟨by rw [o.length]; exact l1, by rw [o2.length]; exact l2, fun x dx nx nd ne => ?_⟩
  have e12 := e.trans e2
  have mm := made (Cc := Cc) e12.j nx nd ne
  obtain ⟨i0, it, rfl⟩ : ∃ i0 it, ix = i0 :: it := by
    cases ix with
    | nil => cases hz.1
    | cons a b => exact ⟨a, b, rfl⟩
  have h0 : i0 = 0 := Option.some.inj hz.1
  subst h0
  have pk := pick_tail (V.ref x)
  have e0 : pick (0 :: it) (V.ref x :: vs ++ ws) = .ref x :: pick (it.map (· - 1)) (vs ++ ws) := by
    rw [pick_cons]
    show V.ref x :: pick it (V.ref x :: (vs ++ ws)) = _
    rw [pk _ it hz.2]
  show inSp Cc Ci' (pick (0 :: it) (V.ref x :: vs ++ ws)) _ _ (E σ)
  rw [e0]
  exact ⟨_, g2, _, _, _, x, dx, _, rfl, upd_same, mm.1.j, (pick_rs ((RsL.ext e2 o).append o2) (it.map (· - 1))).of mm.2, q2 _ (S.to e12).in_, fun fs gs dy g' H' kf e3 n p t => ⟨rfl, hq _ _ g' H' kf (e12.trans (mm.1.trans e3)) (.v (.ins n p t))⟩, fun c g' H' z e3 => hx ps g' H' σ c z (S.to (e12.trans (mm.1.trans e3)))⟩
end
end TL
set_option Elab.async false
set_option linter.all false
set_option maxRecDepth 100000
namespace TL
open PySem PySem.Spec L2 PyProof.Rows
/-! ### the type of a value at hand -/
inductive TyR (H : Hp) : V → Value → Prop
  | non : TyR H .non (.type "NoneType")
  | bl (b : Bool) : TyR H (.bl b) (.type "bool")
  | int (i : Int) : TyR H (.int i) (.type "int")
  | str (x : Str) : TyR H (.str x) (.type "str")
  | lst {a : Addr} {xs : List V} (e : H a = some (.lst xs)) : TyR H (.ref a) (.type "list")
  | tup {a : Addr} {xs : List V} (e : H a = some (.tup xs)) : TyR H (.ref a) (.type "tuple")
  | dK {a : Addr} {xs : List (Key × V)} (e : H a = some (.dK xs)) : TyR H (.ref a) (.type "dict")
  | ins {a dx C : Addr} {fs : List (Str × V)} (e : H a = some (.ins C dx fs)) : TyR H (.ref a) (.ref C)
section
variable {X : Cx} {pins : List (Addr × Obj)} {σ : L2.St} {H : Hp} {s : Shared}
theorem TyR.looks {x : V} {u t : Value} {M : Model} (I : Inv X pins σ H s) (ty : TyR H x t) (rx : RelV x u) : PySem.W.Looks M s.heap (typeOf u) t := by
  cases ty with
  | non => cases (show u = Value.none from rx); exact PySem.W.Looks.of_pure rfl
  | bl y => cases (show u = Value.bool y from rx); exact PySem.W.Looks.of_pure rfl
  | int i => obtain ⟨t, q⟩ := (show ∃ t, u = Value.int i t from rx); cases q; exact PySem.W.Looks.of_pure rfl
  | str y => obtain ⟨t, q⟩ := (show ∃ t, u = Value.str y t from rx); cases q; exact PySem.W.Looks.of_pure rfl
  | @lst a xs ea =>
    cases (show u = Value.ref a from rx)
    obtain ⟨_, _, n, _, h1⟩ := (show ObjOk X.prog X.w H s.heap a (.lst xs) from I.hok a _ ea)
    exact (PySem.W.Looks.ld h1).andThen .now
  | @tup a xs ea =>
    cases (show u = Value.ref a from rx)
    obtain ⟨_, _, _, o, h1, h2, _⟩ := (show ObjOk X.prog X.w H s.heap a (.tup xs) from I.hok a _ ea)
    have q : PySem.W.Looks M s.heap (typeOf (.ref a)) o.cls := (PySem.W.Looks.ld h1).andThen .now
    rw [h2] at q
    exact q
  | @dK a kvs ea =>
    cases (show u = Value.ref a from rx)
    obtain ⟨_, _, vs, _, o, es, ep, h1, h2, _⟩ := (show ObjOk X.prog X.w H s.heap a (.dK kvs) from I.hok a _ ea)
    have q : PySem.W.Looks M s.heap (typeOf (.ref a)) o.cls := (PySem.W.Looks.ld h1).andThen .now
    rw [h2.1] at q
    exact q
  | ins e =>
    cases (show u = Value.ref _ from rx)
    obtain ⟨od, J⟩ := ins_inst I e
    exact J.type
end
def Rs.tyR : Rs → Option Value
  | .b _ => some (.type "list")
  | .v (.ins C _) => some (.ref C)
  | .v d => d.ty.map Value.type
theorem RsOk.tyR {G : Type} {W : Wd G} {g : G} {H : Hp} {r : Rs} {v : V} {t : Value} (j : W.J g H) (o : RsOk W H r v) (h : r.tyR = some t) : TyR H v t := by
  cases o with
  | b h1 h2 h3 =>
    cases h
    obtain ⟨u, e, w⟩ := j _ h1
    rw [h2 g u w] at e
    exact .lst e
  | v o =>
    cases o with
    | non => cases h; exact .non
    | bl b => cases h; exact .bl b
    | int i => cases h; exact .int i
    | str x => cases h; exact .str x
    | raw v => cases h
    | lst n e t => cases h; exact .lst e
    | tup n e t => cases h; exact .tup e
    | emp n e => cases h; exact .dK e
    | dic n e _ _ => cases h; exact .dK e
    | lnt => cases h
    | hp => cases h
    | scrT => cases h
    | scrK => cases h
    | ins n e t => cases h; exact .ins e
/-! ### != by an own __eq__ -/
section
variable {prog : Program} {w : World} {A : Around} {E : Value → Shared → Prop} {s : Shared} {K : PySem.W.Frag} {x C f : Addr} {ox : Obj} {od : Option Obj} {b tb : Value}
theorem objNe_K {Q : Fin → Shared → Prop} (X : K.In s.heap) (I : PySem.W.InstAt s.heap x ox C od) (heq : PySem.W.findIn K (.ref C) "__eq__" = some (some (.ref f))) (hf : PySem.W.isFn K (.ref f) = true) (hu : A.units < cLine)
    (h : wpAny (model prog w) A (call (.ref f) [.ref x, b]) (fun v s' => ∃ c, v = .bool c ∧ Q (.done (.ret (.bool (!c)))) s') E s) : wpAny (model prog w) A (Builtin.«object.__ne__» ⟨[.ref x, b], []⟩) Q E s := by
  obtain ⟨hh, gg, dd, tt, os⟩ := s
  unfold Builtin.«object.__ne__»
  repeat (first
    | with_reducible refine wpAny_cRoomFor hu ?_
    | (refine wpAny_bind (m := callSpecialIfBound? (.ref x) (Str.ofString "__eq__") [b]) (PySem.W.ifBound_K X I heq hf (wpAny_mono h (fun r s' hr => by
        obtain ⟨c, rfl, hq⟩ := hr
        repeat (first | exact hq | exact wpAny_pure hq | exact wpAny_truthy_bool hq | (refine wpAny_bind (m := truthy (.bool _)) (wpAny_truthy_bool ?_)) | wp_step)) fun _ _ e => e)))
    | wp_step)
theorem one_ne {Q : Option Value → Shared → Prop} (X : K.In s.heap) (I : PySem.W.InstAt s.heap x ox C od) (hne : PySem.W.findIn K (.ref C) "__ne__" = some (some (.builtin "object.__ne__"))) (heq : PySem.W.findIn K (.ref C) "__eq__" = some (some (.ref f))) (hf : PySem.W.isFn K (.ref f) = true)
    (hm : PySem.W.mroIn K C (.type "object") = some true) (hu : A.units + 1 < cLine) (h : wpAny (model prog w) A.in1 (call (.ref f) [.ref x, b]) (fun v s' => ∃ r, v = .bool r ∧ Q (some (.bool (!r))) s') E s) : wpAny (model prog w) A (tryCompare (.ref x) "__ne__" b) Q E s := by
  unfold tryCompare
  have iv : PySem.W.Looks (model prog w) s.heap (isInstance (.ref x) (.type "object")) true := I.type.andThen (PySem.W.looks_mroIn X hm)
  refine wpAny_bind (NtL.csib (I.type.andThen (PySem.W.looks_findIn X hne)) (PySem.F.slot_enumerate_ne.bind _) (wpAny_call (codeAny_call_builtin PySem.F.slot_enumerate_ne.plain PySem.F.cmpEntry_ne
    (PySem.W.check_slot PySem.F.cmpKind_ne PySem.F.cmpSplit_ne iv (PySem.F.cmpArgs_ne _ _) (objNe_K (A := A.in1) X I heq hf hu (wpAny_mono h (fun v s' hv => ?_) fun _ _ e => e))))))
  obtain ⟨c, rfl, hq⟩ := hv
  first | exact ⟨c, rfl, wpAny_pure hq⟩ | exact ⟨c, rfl, wpAny_pure (wpAny_pure hq)⟩ | exact ⟨c, rfl, hq⟩
theorem rich_ne {Q : Value → Shared → Prop} (X : K.In s.heap) (I : PySem.W.InstAt s.heap x ox C od) (hb : PySem.W.Looks (model prog w) s.heap (typeOf b) tb) (hn : PySem.W.notFirst K C tb = true) (hne : PySem.W.findIn K (.ref C) "__ne__" = some (some (.builtin "object.__ne__")))
    (heq : PySem.W.findIn K (.ref C) "__eq__" = some (some (.ref f))) (hf : PySem.W.isFn K (.ref f) = true) (hm : PySem.W.mroIn K C (.type "object") = some true) (hu : A.units + 1 < cLine)
    (h : wpAny (model prog w) A.in1 (call (.ref f) [.ref x, b]) (fun v s' => ∃ r, v = .bool r ∧ Q (.bool (!r)) s') E s) : wpAny (model prog w) A (richCompare .NotEq (.ref x) b) Q E s := by
  have one : wpAny (model prog w) A (tryCompare (.ref x) "__ne__" b) (fun r s' => ∃ v, r = some v ∧ Q v s') E s := one_ne X I hne heq hf hm hu (wpAny_mono h (fun v s' ⟨c, e, q⟩ => ⟨c, e, _, rfl, q⟩) fun _ _ e => e)
  unfold richCompare
  simp only [oneThing_ref]
  refine wpAny_holding (wpAny_bind (wpAny_cRoomFor (Nat.lt_of_succ_lt hu) (wpAny_bind (I.type.here (wpAny_bind (hb.here ?_))))))
  split
  · rename_i q
    have e : PySem.W.subIn K tb (.ref C) = some false := (Bool.or_eq_true_iff.mp hn).elim (fun e => by rw [beq_iff_eq.mp e] at q; simp at q) fun e => beq_iff_eq.mp e
    exact wpAny_bind ((PySem.W.looks_subIn X e).here (by simp only [Bool.false_eq_true, if_false]; exact wpAny_bind (wpAny_mono one (fun r s' z => by obtain ⟨v, rfl, hq⟩ := z; exact wpAny_pure hq) fun _ _ e => e)))
  · exact wpAny_bind (wpAny_pure (by simp only [Bool.false_eq_true, if_false]; exact wpAny_bind (wpAny_mono one (fun r s' z => by obtain ⟨v, rfl, hq⟩ := z; exact wpAny_pure hq) fun _ _ e => e)))
end
/-! ### x == y, x != y, x & y, x | y, ~x by own defs -/
section
variable {X : Cx} {CX : CXT} {n : Nat} {C f : Addr} {fd : FuncData} {ps : List Str} {sp : Sp} {E : XK}
theorem OpOf.isFn {K : PySem.W.Frag} {m : Str} (h : OpOf K C m f) : PySem.W.isFn K (.ref f) = true := by
  unfold PySem.W.isFn
  rw [h.fn]; rfl
theorem relV_bl {v : V} {u : Value} {b : Bool} (h : RelV v u) (e : v = .bl b) : u = .bool b := by subst e; exact h
/-- the callee runs, somewhere below the body at hand -/
theorem run_fnA {A : Around} {pins : List (Addr × Obj)} {σ : L2.St} {H : Hp} {s : Shared} {Q : VK} {us : List Value} {vs : List V} (sb : L2.Sub X n A) (F : FnOk X.prog X.w X.K X.mg X.base CX n f fd ps sp) (hb : Binds X.K fd ps []) (hx : Passes CX X E)
    (I : Inv X pins σ H s) (r : Vals vs us) (h : sp vs H Q E) : wpAny (model X.prog X.w) A (call (.ref f) us) (EP X pins σ Q) X.xe s := by
  have e0 : Env0 X.prog X.w X.K X.mg X.base A X.stack s H := by
    have e := I.env0
    exact { e with frames := by rw [sb.fr]; exact e.frames }
  have hl : us.length = ps.length := by rw [← r.length]; exact F.len _ _ _ _ h
  have b := hb s us I.kIn (by rw [List.append_nil]; exact hl)
  rw [List.append_nil] at b
  refine wpAny_call (codeAny_mono (F.run A X.stack s H ⟨us, []⟩ us vs Q E sb.room e0 b r h) fun r s' hq => ?_)
  cases r with
  | error e => exact hx pins σ H s e s' I hq
  | ok fl =>
    cases fl with
    | ret u => exact I.after hq
    | next => exact False.elim hq
    | brk => exact False.elim hq
    | cont => exact False.elim hq
def rEqOwn (K : PySem.W.Frag) (C : Addr) (sp : Sp) (neg : Bool) (E : XK) : R2 := fun x y H Q => ∃ a dx fs t, x = .ref a ∧ H a = some (.ins C dx fs) ∧ TyR H y t ∧ PySem.W.notFirst K C t = true ∧ sp [x, y] H (fun v H' => ∃ b, v = .bl b ∧ Q (.bl (xor neg b)) H') E
theorem op_eqOwn (h : OpOf X.K C "__eq__" f) (F : FnOk X.prog X.w X.K X.mg X.base CX n f fd ps sp) (hb : Binds X.K fd ps []) (hr : Room n X.A) (hx : Passes CX X E) : OpR X (compareOp .Eq) (rEqOwn X.K C sp false E) := by
  intro pins s σ H x y v u Q I rx ry hq
  obtain ⟨a, dx, fs, t, rfl, e, ty, hn, q⟩ := hq
  cases (show v = Value.ref a from rx)
  obtain ⟨od, J⟩ := ins_inst I e
  obtain ⟨m, hF⟩ := I.fr
  show wpAny _ _ (richCompare .Eq (.ref a) u) _ _ _
  refine PySem.W.cmp_K (op := .Eq) hr.units0 hF I.ok.mod.kin J (ty.looks I ry) hn h.at_ h.isFn (wpAny_mono (run_fn (us := [.ref a, u]) (vs := [.ref a, y]) F hr hb .nil hx I (.cons rfl (.cons ry .nil)) (by rw [List.append_nil]; exact q)) (fun r s' z => ?_) fun _ _ z => z)
  obtain ⟨r', H', I', rr, k, rfl, qk⟩ := z
  cases (show r = Value.bool k from rr)
  exact ⟨.bl k, H', I', rfl, by simpa using qk⟩
structure NeOf (K : PySem.W.Frag) (C : Addr) : Prop where
  ne : PySem.W.findIn K (.ref C) "__ne__" = some (some (.builtin "object.__ne__"))
  ob : PySem.W.mroIn K C (.type "object") = some true
theorem op_neOwn (h : OpOf X.K C "__eq__" f) (hz : NeOf X.K C) (F : FnOk X.prog X.w X.K X.mg X.base CX n f fd ps sp) (hb : Binds X.K fd ps []) (hr : Room (n + 1) X.A) (hx : Passes CX X E) : OpR X (compareOp .NotEq) (rEqOwn X.K C sp true E) := by
  intro pins s σ H x y v u Q I rx ry hq
  obtain ⟨a, dx, fs, t, rfl, e, ty, hn, q⟩ := hq
  cases (show v = Value.ref a from rx)
  obtain ⟨od, J⟩ := ins_inst I e
  show wpAny _ _ (richCompare .NotEq (.ref a) u) _ _ _
  have sb : L2.Sub X n X.A.in1 := L2.Sub.in1 ⟨hr, rfl⟩
  refine rich_ne I.kIn J (ty.looks I ry) hn hz.ne h.at_ h.isFn hz.ob (by have := hr.un; omega) (wpAny_mono (run_fnA (us := [.ref a, u]) (vs := [.ref a, y]) sb F hb hx I (.cons rfl (.cons ry .nil)) q) (fun r s' z => ?_) fun _ _ z => z)
  obtain ⟨r', H', I', rr, k, rfl, qk⟩ := z
  cases (show r = Value.bool k from rr)
  exact ⟨k, rfl, .bl (!k), H', I', rfl, by simpa using qk⟩
end
end TL
set_option Elab.async false
set_option linter.all false
set_option maxRecDepth 100000
namespace TL
open PySem PySem.Spec L2 PyProof.Rows
/-! ### x & y, x | y, ~x by own defs -/
section
variable {prog : Program} {w : World} {A : Around} {E : Value → Shared → Prop} {s : Shared} {K : PySem.W.Frag} {x C f : Addr} {ox : Obj} {od : Option Obj} {b tb : Value} {op : Operator} {Q : Value → Shared → Prop}
theorem bin_same (X : K.In s.heap) (I : PySem.W.InstAt s.heap x ox C od) (hb : PySem.W.Looks (model prog w) s.heap (typeOf b) (.ref C)) (hc : PySem.W.selfFirst K C = true) (hs : PySem.W.findIn K (.ref C) (PySem.dunder op.info.2) = some (some (.ref f)))
    (hf : PySem.W.isFn K (.ref f) = true) (h : wpAny (model prog w) A (call (.ref f) [.ref x, b]) (PySem.W.CmpBack Q) E s) : wpAny (model prog w) A (binaryOp op (.ref x) b) Q E s := by
  obtain ⟨cd, rest, hcd, hm⟩ := PySem.W.ksp_first hc
  rcases hi : op.info with ⟨sym, nm'⟩
  rw [hi] at hs
  dsimp only at hs
  have one := PySem.W.ksp_try X I hs hf h
  have l1 := I.type (M := model prog w)
  obtain ⟨hh, g, d, tt, os⟩ := s
  have l3 : PySem.W.Looks (model prog w) hh (fillsNumberSlot (.ref C) nm') true := PySem.W.fills_K X hcd hm hs
  simp only [binaryOp, hi]
  refine wpAny_holding (wpAny_bind ?_)
  unfold binaryOp1
  refine wpAny_bind (l1.at (wpAny_bind (hb.at (wpAny_bind (l3.at ?_)))))
  rw [show (Value.ref C == Value.ref C) = true from beq_self_eq_true _]
  simp only [if_true]
  ksp_lk
  exact wpAny_mono one (fun r s' hr' => by obtain ⟨v, rfl, hq⟩ := hr'; ksp_lk; exact hq) fun _ _ e => e
theorem bin_other {right inpy : Bool} {ro rc : Option Value} (X : K.In s.heap) (I : PySem.W.InstAt s.heap x ox C od) (hb : PySem.W.Looks (model prog w) s.heap (typeOf b) tb) (hne : (Value.ref C == tb) = false) (hc : PySem.W.selfFirst K C = true)
    (hs : PySem.W.findIn K (.ref C) (PySem.dunder op.info.2) = some (some (.ref f))) (hf : PySem.W.isFn K (.ref f) = true) (hr : PySem.W.findIn K (.ref C) (dunderR op.info.2) = some rc) (hp : rc = none ∨ ∃ g : Addr, rc = some (.ref g))
    (l4 : PySem.W.Looks (model prog w) s.heap (fillsNumberSlot tb op.info.2) right) (l5 : PySem.W.Looks (model prog w) s.heap (isSubtype tb (.ref C)) false) (l7 : PySem.W.Looks (model prog w) s.heap (numberSlotInPython tb op.info.2) inpy) (l8 : PySem.W.Looks (model prog w) s.heap (typeLookup tb (dunderR op.info.2)) ro)
    (h : wpAny (model prog w) A (call (.ref f) [.ref x, b]) (PySem.W.CmpBack Q) E s) : wpAny (model prog w) A (binaryOp op (.ref x) b) Q E s := by
  obtain ⟨cd, rest, hcd, hm⟩ := PySem.W.ksp_first hc
  rcases hi : op.info with ⟨sym, nm'⟩
  rw [hi] at hs hr l4 l7 l8
  dsimp only at hs hr l4 l7 l8
  have one := PySem.W.ksp_try X I hs hf h
  have l1 := I.type (M := model prog w)
  obtain ⟨hh, g, d, tt, os⟩ := s
  have l3 : PySem.W.Looks (model prog w) hh (fillsNumberSlot (.ref C) nm') true := PySem.W.fills_K X hcd hm hs
  have l6 : PySem.W.Looks (model prog w) hh (numberSlotInPython (.ref C) nm') true := PySem.W.ksp_inPy X hs hr hp
  simp only [binaryOp, hi]
  refine wpAny_holding (wpAny_bind ?_)
  unfold binaryOp1
  refine wpAny_bind (l1.at (wpAny_bind (hb.at (wpAny_bind (l3.at ?_)))))
  simp only [hne, Bool.false_eq_true, if_false]
  cases right <;> cases inpy <;> (ksp_lk; exact wpAny_mono one (fun r s' hr' => by obtain ⟨v, rfl, hq⟩ := hr'; ksp_lk; exact hq) fun _ _ e => e)
end
/-- the def behind x op y -/
structure BinOf (K : PySem.W.Frag) (C : Addr) (op : Operator) (f : Addr) : Prop where
  at_ : PySem.W.findIn K (.ref C) (PySem.dunder op.info.2) = some (some (.ref f))
  fn : PySem.W.typeIn K (.ref f) = some (.type "function")
  first : PySem.W.selfFirst K C = true
  ref : PySem.W.findIn K (.ref C) (dunderR op.info.2) = some none
/-- an own class without bases that has not the operation -/
def NoOp (K : PySem.W.Frag) (D : Addr) (nm : String) : Prop := ∃ cd : ClassData, PySem.W.clsIn K D = some cd ∧ cd.mro = [.ref D, .type "object"] ∧ PySem.W.findIn K (.ref D) (PySem.dunder nm) = some none ∧ PySem.W.findIn K (.ref D) (dunderR nm) = some none ∧
  PySem.W.findIn K (.type "object") (PySem.dunder nm) = some none ∧ PySem.W.findIn K (.type "object") (dunderR nm) = some none
theorem NoOp.fills {K : PySem.W.Frag} {D : Addr} {nm : String} {M : Model} {h : Heap} (n : NoOp K D nm) (X : K.In h) : PySem.W.Looks M h (fillsNumberSlot (.ref D) nm) false := by
  obtain ⟨cd, hc, hm, h1, h2, h3, h4⟩ := n
  intro A Q E s k q
  unfold fillsNumberSlot
  refine wpAny_bind ((PySem.W.looks_clsIn X hc).andThen (f := fun cd => pure cd.mro) .now A _ E s k ?_)
  rw [hm, List.anyM_cons]
  refine wpAny_bind ?_
  show wpAny M A (List.anyM _ [PySem.dunder nm, dunderR nm]) _ _ _
  rw [List.anyM_cons]
  refine wpAny_bind (wpAny_bind (PySem.W.looks_findIn X h1 A _ E s k ?_))
  dsimp only
  refine wpAny_pure ?_
  rw [if_neg Bool.false_ne_true, List.anyM_cons]
  refine wpAny_bind (wpAny_bind (PySem.W.looks_findIn X h2 A _ E s k ?_))
  dsimp only
  refine wpAny_pure ?_
  rw [if_neg Bool.false_ne_true, List.anyM_nil]
  refine wpAny_pure ?_
  rw [if_neg Bool.false_ne_true, List.anyM_cons]
  refine wpAny_bind ?_
  dsimp only
  refine wpAny_bind (PySem.W.looks_findIn X h3 A _ E s k ?_)
  refine wpAny_bind (PySem.W.looks_findIn X h4 A _ E s k ?_)
  refine wpAny_pure ?_
  rw [if_neg (by decide), List.anyM_nil]
  exact wpAny_pure q
theorem NoOp.inPy {K : PySem.W.Frag} {D : Addr} {nm : String} {M : Model} {h : Heap} (n : NoOp K D nm) (X : K.In h) : PySem.W.Looks M h (numberSlotInPython (.ref D) nm) false := by
  obtain ⟨cd, hc, hm, h1, h2, h3, h4⟩ := n
  intro A Q E s k q
  unfold numberSlotInPython
  refine wpAny_bind (PySem.W.looks_findIn X h1 A _ E _ k ?_)
  refine wpAny_bind (wpAny_pure ?_)
  refine wpAny_bind (PySem.W.looks_findIn X h2 A _ E _ k ?_)
  refine wpAny_bind (wpAny_pure ?_)
  rw [if_neg (by decide)]
  refine wpAny_bind (PySem.W.looks_findIn X h1 A _ E _ k ?_)
  rw [if_pos (by decide)]
  exact wpAny_pure q
/-- what may stand at the right -/
def BinTy (K : PySem.W.Frag) (C : Addr) (op : Operator) (t : Value) : Prop := t = .ref C ∨ (∃ T fo ro, t = .type T ∧ PySem.W.findIn K (.type T) (PySem.dunder op.info.2) = some fo ∧ PySem.W.findIn K (.type T) (dunderR op.info.2) = some ro ∧ PySem.W.subIn K (.type T) (.ref C) = some false) ∨
  (∃ (D g : Addr), t = .ref D ∧ D ≠ C ∧ PySem.W.selfFirst K D = true ∧ PySem.W.findIn K (.ref D) (PySem.dunder op.info.2) = some (some (.ref g)) ∧ PySem.W.findIn K (.ref D) (dunderR op.info.2) = some none ∧ PySem.W.subIn K (.ref D) (.ref C) = some false) ∨
  ∃ (D : Addr), t = .ref D ∧ D ≠ C ∧ NoOp K D op.info.2 ∧ PySem.W.subIn K (.ref D) (.ref C) = some false
section
variable {X : Cx} {CX : CXT} {n : Nat} {C f : Addr} {fd : FuncData} {ps : List Str} {sp : Sp} {E : L2.St → XK} {op : Operator} {a b : Expr} {ta tb : TE} {pos : Pos}
theorem back_of {pins : List (Addr × Obj)} {σ : L2.St} {Q : VK} {v : Value} {s : Shared} (h : EP X pins σ Q v s) : PySem.W.CmpBack (EP X pins σ Q) v s := by
  have h' := h
  obtain ⟨r, H', I', rr, q⟩ := h'
  cases v <;> first | exact h | (cases r <;> first | (cases rr; done) | (obtain ⟨_, z⟩ := rr; cases z))
def tBinS (K : PySem.W.Frag) (C : Addr) (op : Operator) (sp : Sp) (E : L2.St → XK) (ta tb : TE) : TE := fun σ H Q => ta σ H fun x H1 => tb σ H1 fun y H2 => ∃ a dx fs t, x = .ref a ∧ H2 a = some (.ins C dx fs) ∧ TyR H2 y t ∧ BinTy K C op t ∧ sp [x, y] H2 Q (E σ)
theorem pe_binS (h : BinOf X.K C op f) (F : FnOk X.prog X.w X.K X.mg X.base CX n f fd ps sp) (hb : Binds X.K fd ps []) (hr : Room n X.A) (hx : ∀ σ, PassesAt CX X σ (E σ)) (ha : PE X a ta) (hb' : PE X b tb) : PE X (.BinOp a op b pos) (tBinS X.K C op sp E ta tb) := by
  refine ⟨fun pins s σ H Q I hh => wpAny_BinOp (thn (ha.run pins s σ H _ I hh) fun v s1 ⟨x, H1, I1, r1, q1⟩ => thn (hb'.run pins s1 σ H1 _ I1 q1) fun u s2 ⟨y, H2, I2, r2, q2⟩ => ?_)⟩
  obtain ⟨o, dx, fs, t, rfl, e, ty, bt, q⟩ := q2
  cases (show v = Value.ref o from r1)
  obtain ⟨od, J⟩ := ins_inst I2 e
  have hf : PySem.W.isFn X.K (.ref f) = true := by
    unfold PySem.W.isFn
    rw [h.fn]; rfl
  have run := wpAny_mono (run_fnS (us := [.ref o, u]) (vs := [.ref o, y]) F hr hb (hx σ) I2 (.cons rfl (.cons r2 .nil)) q) (fun r s' z => back_of z) fun _ _ z => z
  rcases bt with rfl | ⟨T, fo, ro, rfl, h1, h2, h3⟩ | ⟨D, g, rfl, hd, h0, h1, h2, h3⟩ | ⟨D, rfl, hd, h0, h3⟩
  · exact bin_same I2.kIn J (ty.looks I2 r2) h.first h.at_ hf run
  · exact bin_other (inpy := false) I2.kIn J (ty.looks I2 r2) (Bool.eq_false_iff.mpr fun q => by cases beq_iff_eq.mp q) h.first h.at_ hf h.ref (.inl rfl) (PySem.W.ksp_fillsT I2.kIn h1 h2) (PySem.W.looks_subIn I2.kIn h3) (PySem.W.Looks.of_pure rfl) (PySem.W.looks_findIn I2.kIn h2) run
  · obtain ⟨cd, rest, hcd, hm⟩ := PySem.W.ksp_first h0
    exact bin_other (inpy := true) I2.kIn J (ty.looks I2 r2) (Bool.eq_false_iff.mpr fun q => hd (by have := beq_iff_eq.mp q; cases this; rfl)) h.first h.at_ hf h.ref (.inl rfl) (PySem.W.fills_K I2.kIn hcd hm h1) (PySem.W.looks_subIn I2.kIn h3) (PySem.W.ksp_inPy I2.kIn h1 h2 (.inl rfl)) (PySem.W.looks_findIn I2.kIn h2) run
  · exact bin_other (inpy := false) I2.kIn J (ty.looks I2 r2) (Bool.eq_false_iff.mpr fun q => hd (by have := beq_iff_eq.mp q; cases this; rfl)) h.first h.at_ hf h.ref (.inl rfl) (h0.fills I2.kIn) (PySem.W.looks_subIn I2.kIn h3) (h0.inPy I2.kIn) (PySem.W.looks_findIn I2.kIn h0.choose_spec.2.2.2.1) run
/-- ~x -/
def tInvS (C : Addr) (sp : Sp) (E : L2.St → XK) (ta : TE) : TE := fun σ H Q => ta σ H fun x H1 => ∃ a dx fs, x = .ref a ∧ H1 a = some (.ins C dx fs) ∧ sp [x] H1 Q (E σ)
theorem pe_invS (h : OpOf X.K C "__invert__" f) (F : FnOk X.prog X.w X.K X.mg X.base CX n f fd ps sp) (hb : Binds X.K fd ps []) (hr : Room n X.A) (hx : ∀ σ, PassesAt CX X σ (E σ)) (ha : PE X a ta) : PE X (.UnaryOp .Invert a pos) (tInvS C sp E ta) := by
  refine ⟨fun pins s σ H Q I hh => UnaryOp_ (thn (ha.run pins s σ H _ I hh) fun v s1 ⟨x, H1, I1, r1, q1⟩ => ?_)⟩
  obtain ⟨o, dx, fs, rfl, e, q⟩ := q1
  cases (show v = Value.ref o from r1)
  obtain ⟨od, J⟩ := ins_inst I1 e
  obtain ⟨m, hF⟩ := I1.fr
  exact PySem.W.ksp_inv hF I1.ok.mod.kin J h.at_ h.isFn (run_fnS (us := [.ref o]) (vs := [.ref o]) F hr hb (hx σ) I1 (.cons rfl .nil) q)
end
section
variable {G : Type} [Gh G] {W : Wd G} {g : G} {H0 : Hp} {ρ : Rho} {ta tb : TE} {K : PySem.W.Frag} {k : Rs → G → Prop} {C : Addr} {Ca : Ct G} {E : XK} {ES : L2.St → XK} {op : Operator} {x : Value → G → Prop}
theorem e_eqOwn {neg : Bool} (h : wpE W H0 g ρ ta fun r g1 => wpE W H0 g1 ρ tb fun y g2 => ∃ fs t, r = .v (.ins C fs) ∧ y.tyR = some t ∧ PySem.W.notFirst K C t = true ∧ ∀ W', In W W' ρ → Ca W' g2 [r, y] (fun d g3 => ∃ b, d = .bl b ∧ k (.v (.bl (xor neg b))) g3) noX) : wpE W H0 g ρ (tOp (rEqOwn K C (mkSp Ca) neg E) ta tb) k := fun ps H σ S Q hq =>
  h ps H σ S _ fun r v g1 H1 kx e1 ox => kx ps H1 σ (S.to e1) _ fun y w g2 H2 ky e2 oy => by
    obtain ⟨fs, t, rfl, ht, hn, ky⟩ := ky
    have ox' := ox.ext e2
    have ox2 := ox'
    have e12 := e1.trans e2
    cases ox' with
    | v ox' =>
      cases ox' with
      | ins n e t' =>
        refine ⟨_, _, _, t, rfl, e, oy.tyR e2.j ht, hn, _, g2, _, _, _, .cons ox2 (.cons oy .nil), e2.j, ky _ (S.to e12).in_, fun d w g' H' kd e3 od => ?_, fun c g' H' z => z.elim⟩
        obtain ⟨b, rfl, q⟩ := kd
        cases od
        exact ⟨b, rfl, hq _ _ g' H' q (e12.trans e3) (.v (.bl _))⟩
theorem e_binS (hx : ∀ ps g' H σ c, x c g' → Sta W H0 ps g' H σ ρ → ES σ c none H) (h : wpE W H0 g ρ ta fun r g1 => wpE W H0 g1 ρ tb fun y g2 => ∃ fs t, r = .v (.ins C fs) ∧ y.tyR = some t ∧ BinTy K C op t ∧ ∀ W', In W W' ρ → Ca W' g2 [r, y] (fun d => k (.v d)) x) : wpE W H0 g ρ (tBinS K C op (mkSp Ca) ES ta tb) k := fun ps H σ S Q hq =>
  h ps H σ S _ fun r v g1 H1 kx e1 ox => kx ps H1 σ (S.to e1) _ fun y w g2 H2 ky e2 oy => by
    obtain ⟨fs, t, rfl, ht, hn, ky⟩ := ky
    have ox' := ox.ext e2
    have ox2 := ox'
    have e12 := e1.trans e2
    cases ox' with
    | v ox' =>
      cases ox' with
      | ins n e t' => exact ⟨_, _, _, t, rfl, e, oy.tyR e2.j ht, hn, _, g2, _, _, _, .cons ox2 (.cons oy .nil), e2.j, ky _ (S.to e12).in_, fun d w g' H' kd e3 od => hq _ _ g' H' kd (e12.trans e3) (.v od), fun c g' H' z e3 => hx ps g' H' σ c z (S.to (e12.trans e3))⟩
theorem e_invS (hx : ∀ ps g' H σ c, x c g' → Sta W H0 ps g' H σ ρ → ES σ c none H) (h : wpE W H0 g ρ ta fun r g1 => ∃ fs, r = .v (.ins C fs) ∧ ∀ W', In W W' ρ → Ca W' g1 [r] (fun d => k (.v d)) x) : wpE W H0 g ρ (tInvS C (mkSp Ca) ES ta) k := fun ps H σ S Q hq =>
  h ps H σ S _ fun r v g1 H1 kx e1 ox => by
    obtain ⟨fs, rfl, ky⟩ := kx
    have ox2 := ox
    cases ox with
    | v ox =>
      cases ox with
      | ins n e t' => exact ⟨_, _, _, rfl, e, _, g1, _, _, _, .cons ox2 .nil, e1.j, ky _ (S.to e1).in_, fun d w g' H' kd e3 od => hq _ _ g' H' kd (e1.trans e3) (.v od), fun c g' H' z e3 => hx ps g' H' σ c z (S.to (e1.trans e3))⟩
end
end TL
set_option Elab.async false
set_option linter.all false
namespace TL
open PySem PySem.Spec L2
theorem kit_same (K : PySem.W.Frag) (C : Addr) : PySem.W.kitOne K (.ref C) (.ref C) = some true := by
  unfold PySem.W.kitOne
  rw [show (Value.ref C == Value.ref C) = true from beq_self_eq_true _]; rfl
end TL
set_option Elab.async false
set_option linter.all false
set_option maxRecDepth 100000
namespace TL
open PySem PySem.Spec L2 PyProof.Rows
/-! ### repr of any plain value, and of an empty dict -/
def rReprA (K : PySem.W.Frag) : List V → Hp → VK → Prop := fun xs H Q => ∃ (v : V) (d : PyData), xs = [v] ∧ ((Dp K H v d ∧ d.hasDict = false) ∨ ∃ a, v = .ref a ∧ d = .dict [] ∧ H a = some (.dK [])) ∧ d.showable = true ∧ d.depth ≤ 60 ∧ d.shown.length ≤ sizeLine ∧ Q (.str d.shown) H
theorem cr_reprA {X : Cx} (hg : X.A.guards = some []) (hu : X.A.units + 64 < cLine) : CallR X (.builtin "repr") (rReprA X.K) := fun pins s σ H xs us Q I r h => by
  obtain ⟨v, d, rfl, hd, hs, dd, hz, q⟩ := h
  obtain ⟨u, rfl, r1⟩ : ∃ u, us = [u] ∧ RelV v u := by
    cases r with
    | cons a t => cases t; exact ⟨_, rfl, a⟩
  rcases hd with ⟨hd, hn⟩ | ⟨a, rfl, rfl, ha⟩
  · obtain ⟨as, rd⟩ := Dp.reads I d v u hd r1
    cases hd with
    | non => cases (show u = Value.none from r1); exact P.repr_of_none ⟨.str _, H, I.tok _, ⟨_, rfl⟩, q⟩
    | bl b => cases (show u = Value.bool b from r1); exact P.repr_of_bool ⟨.str _, H, I.tok _, ⟨_, rfl⟩, q⟩
    | int i =>
      obtain ⟨t, e⟩ := (show ∃ t, u = Value.int i t from r1)
      subst e
      exact P.repr_of_int (of_decide_eq_true hs) ⟨.str _, H, I.tok _, ⟨_, rfl⟩, q⟩
    | str x =>
      obtain ⟨t, e⟩ := (show ∃ t, u = Value.str x t from r1)
      subst e
      exact P.repr_of_str ⟨.str _, H, I.tok _, ⟨_, rfl⟩, q⟩ hz
    | lst _ _ =>
      cases (show u = Value.ref _ from r1)
      exact repr_of_reads' rd hs (PyData.noDict_hsm hn) hg (by omega) (fun _ _ e => e) (fun h' u tk hk => ⟨.str _, H, I.kept hk, ⟨u, rfl⟩, q⟩) hz
    | tup _ _ =>
      cases (show u = Value.ref _ from r1)
      exact repr_of_reads' rd hs (PyData.noDict_hsm hn) hg (by omega) (fun _ _ e => e) (fun h' u tk hk => ⟨.str _, H, I.kept hk, ⟨u, rfl⟩, q⟩) hz
  · cases (show u = Value.ref a from r1)
    obtain ⟨_, hm, vs, hv, o, es, ep, h1, h2, h3, h4⟩ := (show ObjOk X.prog X.w H s.heap a (.dK []) from I.hok a _ ha)
    have ev : es.toList = [] := by
      cases hv
      have h5 := h4.2.1
      generalize es.toList = l at h5
      cases h5; rfl
    have rd : Reads s.heap (.ref a) (.dict []) (a :: [] ++ []) := .dict h1 h2.1 h3 (by rw [ev]; exact .nil) (by rw [ev]; exact .nil)
    refine repr_of_reads' rd hs (fun _ z => ?_) hg (by omega) (fun _ _ e => e) (fun h' u tk hk => ⟨.str _, H, I.kept hk, ⟨u, rfl⟩, q⟩) hz
    simp at z
    rw [← z] at hm
    simp at hm
theorem cr_reprK' {X : Cx} {K : PySem.W.Frag} (h : X.K = K) (hg : X.A.guards = some []) (hu : X.A.units + 64 < cLine) : CallR X (.builtin "repr") (rReprA K) := by subst h; exact cr_reprA hg hu
/-- plain, at most n deep, of weight at most w, with leaves of at most 100 signs -/
structure Rp (n w : Nat) (d : D) : Prop where
  pl : Pl n d
  sho : d.py.showable = true
  dic : d.py.hasDict = false
  lea : d.py.leavesShort 100 = true
  wei : d.py.weight ≤ w
theorem Rp.mono {n w n' w' : Nat} {d : D} (h : Rp n w d) (hn : n ≤ n') (hw : w ≤ w') : Rp n' w' d := ⟨h.pl.mono hn, h.sho, h.dic, h.lea, Nat.le_trans h.wei hw⟩
theorem Rp.non {n w : Nat} : Rp n w .non := ⟨.non, rfl, rfl, rfl, Nat.zero_le _⟩
theorem Rp.bl {n w : Nat} {b : Bool} : Rp n w (.bl b) := ⟨.bl, rfl, rfl, rfl, Nat.zero_le _⟩
theorem log_of {i : Int} (h : i.natAbs < 10 ^ 62) : i.natAbs.log2 < 210 := PySem.Flt.log2_lt_of (by decide) (Nat.lt_of_lt_of_le h (by decide))
theorem Rp.int {n w : Nat} {i : Int} (h : i.natAbs < 10 ^ 62) (hw : 211 ≤ w) : Rp n w (.int i) := by
  refine ⟨.int, decide_eq_true (Nat.lt_trans (log_of h) (by decide)), rfl, decide_eq_true ?_, ?_⟩
  · have := int_text_length_le10 (k := 62) (by decide) h
    show (Str.ofString (toString i)).length ≤ 100
    rw [PySem.ofString_length]; omega
  · show (if (i == 0) = true then 0 else i.natAbs.log2 + 1) ≤ w
    split
    · omega
    · have := log_of h
      omega
theorem rpAll {n w : Nat} : ∀ {ds : List D}, (∀ d ∈ ds, Rp n w d) → PyData.showableAll (D.pyL ds) = true ∧ PyData.hasDictAll (D.pyL ds) = false ∧ PyData.leavesShortAll 100 (D.pyL ds) = true ∧ PyData.weightAll (D.pyL ds) ≤ (w + 1) * ds.length
  | [], _ => ⟨rfl, rfl, rfl, Nat.zero_le _⟩
  | d :: ds, h => by
    have s := h d List.mem_cons_self
    obtain ⟨h1, h2, h3, h4⟩ := rpAll (ds := ds) fun e he => h e (List.mem_cons_of_mem _ he)
    refine ⟨?_, ?_, ?_, ?_⟩
    · show (PyData.showable d.py && PyData.showableAll (D.pyL ds)) = true
      rw [s.sho, h1]; rfl
    · show (PyData.hasDict d.py || PyData.hasDictAll (D.pyL ds)) = false
      rw [s.dic, h2]; rfl
    · show (PyData.leavesShort 100 d.py && PyData.leavesShortAll 100 (D.pyL ds)) = true
      rw [s.lea, h3]; rfl
    · show PyData.weight d.py + 1 + PyData.weightAll (D.pyL ds) ≤ _
      have := s.wei
      rw [List.length_cons, Nat.mul_succ]; omega
theorem Rp.lst {n w w' : Nat} {ds : List D} (h : ∀ d ∈ ds, Rp n w d) (hw : (w + 1) * ds.length ≤ w') : Rp (n + 1) w' (.lst ds) := by
  obtain ⟨h1, h2, h3, h4⟩ := rpAll h
  exact ⟨.lst fun d hd => (h d hd).pl, h1, h2, h3, Nat.le_trans h4 hw⟩
theorem Rp.tup {n w w' : Nat} {ds : List D} (h : ∀ d ∈ ds, Rp n w d) (hw : (w + 1) * ds.length ≤ w') : Rp (n + 1) w' (.tup ds) := by
  obtain ⟨h1, h2, h3, h4⟩ := rpAll h
  exact ⟨.tup fun d hd => (h d hd).pl, h1, h2, h3, Nat.le_trans h4 hw⟩
/-- a short text -/
theorem Rp.str {n w : Nat} {x : Str} (h : (x.cps.toList.all fun c => decide (c < 16 ^ 8)) = true) (hw : x.cps.size ≤ w) : Rp n w (.str x) := ⟨.str, rfl, rfl, h, hw⟩
def D.shows (d : D) : Str := match d with
  | .emp => PyData.shown (.dict [])
  | d => d.py.shown
section
variable {k : Rs → Prop} {K : PySem.W.Frag}
theorem Rp.len {n w : Nat} {d : D} (h : Rp n w d) (hw : w ≤ 160000) : d.py.shown.length ≤ sizeLine := by
  have := PyData.shown_le 100 (by decide) d.py h.lea
  have e : sizeLine = 16777216 := sizeLine_eq
  have := h.wei
  omega
theorem c_reprA {n w : Nat} {d : D} (h : Rp n w d) (hn : n ≤ 60) (hw : w ≤ 160000) (q : k (.v (.str d.shows))) : wpC (rReprA K) [.v d] k := fun _ W g0 H vs J oo Q hq => by
  obtain ⟨v, rfl, o⟩ := oo.one
  have e : d.shows = d.py.shown := by
    cases d <;> first | rfl | (have := h.pl; cases this)
  rw [e] at q
  cases o with
  | v o => exact ⟨v, _, rfl, .inl ⟨h.pl.dp v o, h.dic⟩, h.sho, Nat.le_trans h.pl.plain.2 hn, h.len hw, hq _ _ H q (Ext.refl J) (.v (.str _))⟩
theorem c_reprE (q : k (.v (.str (D.shows .emp)))) : wpC (rReprA K) [.v .emp] k := fun _ W g0 H vs J oo Q hq => by
  obtain ⟨v, rfl, o⟩ := oo.one
  cases o with
  | v o =>
    cases o with
    | emp n e => exact ⟨_, .dict [], rfl, .inr ⟨_, rfl, rfl, e⟩, rfl, (by decide), (by rw [sizeLine_eq]; decide), hq _ _ H q (Ext.refl J) (.v (.str _))⟩
/-! ### isinstance(x, C), C an own class -/
structure OwnC (K : PySem.W.Frag) (C : Addr) : Prop where
  hd : PySem.W.hasDictIn K C = true
  ty : PySem.W.typeIn K (.ref C) = some (.type "type")
theorem OwnC.kit {C : Addr} (h : OwnC K C) {t : Value} {b : Bool} (hne : (t == Value.ref C) = false) (hs : PySem.W.subIn K t (.ref C) = some b) : PySem.W.kitOne K t (.ref C) = some b := by
  have e : (PySem.W.clsIn K C).isSome = true := by
    have := h.hd
    unfold PySem.W.hasDictIn at this
    cases z : PySem.W.clsIn K C with
    | none => rw [z] at this; cases this
    | some c => rfl
  unfold PySem.W.kitOne
  rw [if_neg (by rw [hne]; simp)]
  unfold PySem.W.kitCls
  show (if ((PySem.W.clsIn K C).isSome && PySem.W.typeIn K (.ref C) == some (.type "type")) = true then PySem.W.subIn K t (.ref C) else none) = some b
  rw [if_pos (by rw [e, h.ty]; rfl)]; exact hs
theorem sub_builtin (K : PySem.W.Frag) (C : Addr) : ∀ T ∈ ["NoneType", "bool", "int", "str", "list", "tuple", "dict"], PySem.W.subIn K (.type T) (.ref C) = some false := by
  intro T hT
  simp only [List.mem_cons, List.not_mem_nil, or_false] at hT
  rcases hT with rfl | rfl | rfl | rfl | rfl | rfl | rfl <;> kernel_rfl
theorem c_isiB {C : Addr} (h : OwnC K C) {r : Rs} {n : String} (hr : r.ty = some n) (hn : n ∈ ["NoneType", "bool", "int", "str", "list", "tuple", "dict"]) (q : k (.v (.bl false))) : wpC (rIsi K) [r, .v (.raw (.ref C))] k := by
  have hk : PySem.W.kitOne K (.type n) (.ref C) = some false := h.kit rfl (sub_builtin K C n hn)
  cases r with
  | v d => exact c_isiC hr hk q
  | b ds =>
    cases hr
    intro _ W g0 H vs J oo Q hq
    obtain ⟨v, u, rfl, o1, o2⟩ := oo.two
    rw [v_raw o2]
    obtain ⟨a, xs, rfl, p, _, _⟩ := LstOf.at .b J o1
    exact ⟨.ref a, .ref C, .type "list", .ref C, false, rfl, .own C, .base (.lst p), hk, hq _ _ H q (Ext.refl J) (.v (.bl false))⟩
theorem c_isiSame {C : Addr} {fs : List (Str × D)} (h : InsTy K C) (q : k (.v (.bl true))) : wpC (rIsi K) [.v (.ins C fs), .v (.raw (.ref C))] k := c_isiO h (.own C) (kit_same K C) q
end
/-! ### str(n) -/
def rStrI : List V → Hp → VK → Prop := fun xs H Q => ∃ i : Int, xs = [.int i] ∧ i.natAbs.log2 < 1920 ∧ Q (.str (toString i)) H
theorem cr_strI {X : Cx} : CallR X (.type "str") rStrI := call_str_int
theorem c_strI {k : Rs → Prop} {i : Int} (h : i.natAbs.log2 < 1920) (q : k (.v (.str (Str.ofString (toString i))))) : wpC rStrI [.v (.int i)] k := fun _ W g0 H vs J oo Q hq => by
  obtain ⟨v, rfl, o⟩ := oo.one
  rw [v_int o]
  exact ⟨i, rfl, h, hq _ _ H q (Ext.refl J) (.v (.str _))⟩
/-! ### == of data of ints alone -/
theorem eqv_pair (a b c d : Int) : PyData.eqv (D.py (.tup [.int a, .int b])) (D.py (.tup [.int c, .int d])) = decide ((a, b) = (c, d)) := by
  show ((a == c) && ((b == d) && true)) = _
  rw [Bool.and_true]
  by_cases h1 : a = c <;> by_cases h2 : b = d <;> simp [h1, h2]
end TL
set_option Elab.async false
set_option linter.all false
set_option maxRecDepth 100000
namespace TL
open PySem PySem.Spec L2 PyProof.Rows
/-! ### try: .. except X: .. -/
def tTry (K : PySem.W.Frag) (c : Value) (tb : WX → TS) (ts : Addr → Value → Option Addr → TS) (Wout : WX) : TS := fun D σ H => tb (wOnly K c ts Wout D) D σ H
section
variable {X : Cx} {x : Str} {c : Value} {body : List Stmt} {suite : List Stmt} {b₀ : Stmt} {np pos pos' : Pos} {tb : WX → TS} {ts : Addr → Value → Option Addr → TS} {Wout : WX}
theorem ps_tryO (hs : X.stack = X.env :: X.outer) (hf : X.env.frame = some X.env.locals) (hc : Names X x c) (tk : Takes X Wout)
    (hb : ∀ (W : WX) (pn : List (Addr × Obj)) (xe : Value → Shared → Prop), Takes (X.tr pn xe) W → PassesOwn (model X.prog X.w) X.A X.env xe → PSs (X.tr pn xe) body (tb W))
    (hsu : ∀ (a : Addr) (oe : Obj) (cls : Value) (d : Option Addr) (pn : List (Addr × Obj)), Zc cls d oe → (∃ vs, oe.data = .fields vs) → PSs (X.suite a ((a, oe) :: pn)) (b₀ :: suite) (ts a cls d)) :
    PS X (.Try body [.ExceptHandler (some (.Name x np)) none (b₀ :: suite) pos'] [] [] pos) (tTry X.K c tb ts Wout) := ps_try_only hs hf hc tk hb hsu
end
theorem s_tryO {G : Type} [Gh G] {W : Wd G} {g : G} {H0 : Hp} {ρ : Rho} {K : TK G} {F : PySem.W.Frag} {c : Value} {tb : WX → TS} {ts : Addr → Value → Option Addr → TS} {Wout : WX} (x : Value → G → Prop) (ok : ∀ cl g', x cl g' → PySem.W.exmOne F cl c = some true)
    (suite : ∀ a cl g', x cl g' → wpS W H0 g' ρ (ts a cl none) K.ret) (body : ∀ Wx : WX, (∀ ps g' H σ cl, x cl g' → Sta W H0 ps g' H σ ρ → Wx cl none σ H) → wpS W H0 g ρ (tb Wx) K) : wpS W H0 g ρ (tTry F c tb ts Wout) K := s_try x ok suite body
end TL
set_option Elab.async false
set_option linter.all false
set_option maxRecDepth 100000
namespace TL
open PySem PySem.Spec L2 PyProof.Rows
section
variable {G : Type} [Gh G] {W : Wd G} {g : G} {H0 : Hp} {ρ : Rho} {ta tb te : TE} {K : TK G} {F : PySem.W.Frag} {kn : List D → G → Prop}
/-- xs + ys, a new list -/
theorem n_cat (h : wpE W H0 g ρ ta fun x g1 => wpE W H0 g1 ρ tb fun y g2 => ∃ ds es, LstOf x ds ∧ LstOf y es ∧ ds.length + es.length ≤ 1000000 ∧ kn (ds ++ es) g2) : wpN W H0 g ρ (tOp (rPlus F) ta tb) kn := fun ps H σ S Q hq =>
  h ps H σ S _ fun x v g1 H1 kx e1 ox => kx ps H1 σ (S.to e1) _ fun y w g2 H2 ky e2 oy => by
    obtain ⟨ds, es, l, m, z, q⟩ := ky
    obtain ⟨a, xs, rfl, p1, t1, _⟩ := l.at e2.j (ox.ext e2)
    obtain ⟨b, ys, rfl, p2, t2, _⟩ := m.at e2.j oy
    have e12 := e1.trans e2
    refine .inr (.inl ⟨a, b, xs, ys, rfl, rfl, p1, p2, by rw [t1.length, t2.length]; exact Nat.le_trans z (by decide), fun p hp => ?_⟩)
    exact hq _ _ _ _ _ q (e12.free hp) (e12.trans (Ext.new e12.j hp)) upd_same (DtL.newAt hp (t1.append t2))
/-- a list seen by nobody is changed: nothing is -/
theorem gone {ps : Pins} {H H2 : Hp} {g2 : G} {a : Addr} {xs ys : List V} (e : Ext (pinW W ps) H g2 H2) (hn : H a = none) (hm : ¬ (pinW W ps).M a) : Ext (pinW W ps) H g2 (upd H2 a (.lst ys)) := by
  refine ⟨fun b o n z => ?_, fun b m => ?_⟩
  · have hb : b ≠ a := ne_of_none z hn
    rw [upd_ne hb]; exact e.keep b o n z
  · have hb : b ≠ a := fun z => hm (by subst z; exact m)
    obtain ⟨o, z, w⟩ := e.j b m
    exact ⟨o, by rw [upd_ne hb]; exact z, w⟩
theorem s_appN (h : wpN W H0 g ρ ta fun ds g1 => ds.length ≤ 1000000 ∧ wpE W H0 g1 ρ te fun r g2 => K.nx ρ g2) : wpS W H0 g ρ (tDrop (tBM F "list" rAppend ta (tCons te tNil))) K := fun ps H σ De S k => h ps H σ S _ fun ds a xs g1 H1 q hn e ha t => by
  have hm : ¬ (pinW W ps).M a := fun m => by
    obtain ⟨o, z, _⟩ := S.j a m
    rw [hn] at z; cases z
  refine ⟨.inl ⟨rfl, xs, .inl (.inl ha)⟩, q.2 ps H1 σ (S.to e) _ fun r v g2 H2 q2 e2 o => ?_⟩
  have e12 := e.trans e2
  have x2 := gone (xs := xs) (ys := xs ++ [v]) e12 hn hm
  exact ⟨a, xs, v, rfl, rfl, e2.keep a _ hm ha, by rw [t.length]; exact Nat.lt_of_le_of_lt q.1 (by decide), k.nx _ _ _ _ _ q2 (S.to x2) (Nxt.of x2)⟩
theorem s_clearN (h : wpN W H0 g ρ ta fun ds g1 => K.nx ρ g1) : wpS W H0 g ρ (tDrop (tBM0 F "list" rClear ta)) K := fun ps H σ De S k => h ps H σ S _ fun ds a xs g1 H1 q hn e ha t => by
  have hm : ¬ (pinW W ps).M a := fun m => by
    obtain ⟨o, z, _⟩ := S.j a m
    rw [hn] at z; cases z
  have x2 := gone (xs := xs) (ys := []) e hn hm
  exact ⟨.inl ⟨rfl, xs, .inl (.inl ha)⟩, a, xs, rfl, rfl, ha, k.nx _ _ _ _ _ q (S.to x2) (Nxt.of x2)⟩
end
end TL
set_option Elab.async false
set_option linter.all false
set_option maxRecDepth 100000
namespace TL
open PySem PySem.Spec L2 PyProof.Rows
section
variable {G : Type} [Gh G] {W : Wd G} {g : G} {H0 : Hp} {ρ : Rho} {ta tb te : TE} {K : TK G} {F : PySem.W.Frag} {kn : List D → G → Prop}
theorem pe_revLK {X : Cx} {F : PySem.W.Frag} {e : Expr} {te : TE} {k : Nat} {p1 p2 p3 pos : Pos} (h : X.K = F) (he : PE X e te) : PE X (.Subscript e (.Slice none none (some (.UnaryOp .USub (.Constant (.int 1) k p1) p2)) p3) pos) (tRevL F te) := by subst h; exact pe_revL he
theorem DtL.rev {M : Addr → Prop} {H : Hp} : ∀ {ds : List D} {vs : List V}, DtL M H ds vs → DtL M H ds.reverse vs.reverse
  | _, _, .nil => .nil
  | _, _, .cons r t => by
    rw [List.reverse_cons, List.reverse_cons]
    exact (DtL.rev t).append (.cons r .nil)
theorem n_revL (h : wpE W H0 g ρ te fun x g1 => ∃ ds, LstOf x ds ∧ kn ds.reverse g1) : wpN W H0 g ρ (tRevL F te) kn := fun ps H σ S Q hq => h ps H σ S _ fun x v g1 H1 ⟨ds, l, q⟩ e o => by
  obtain ⟨a, xs, rfl, p1, t1, _⟩ := l.at e.j o
  exact ⟨a, xs, rfl, .inl (.inl p1), fun p hp => hq _ _ _ _ _ q (e.free hp) (e.trans (Ext.new e.j hp)) upd_same (DtL.newAt hp t1.rev)⟩
theorem e_revL {k : Rs → G → Prop} (h : wpE W H0 g ρ te fun x g1 => ∃ ds, LstOf x ds ∧ k (.v (.lst ds.reverse)) g1) : wpE W H0 g ρ (tRevL F te) k := e_new (n_revL h)
end


end TL
set_option Elab.async false
set_option linter.all false
set_option maxRecDepth 100000
namespace TL
open PySem PySem.Spec L2 PyProof.Rows
theorem cr_sortedIK {X : Cx} {K : PySem.W.Frag} (h : X.K = K) : CallR X (.builtin "sorted") (rSortedI K) := by subst h; exact cr_sortedI
/-! ### ascending lists -/
theorem asc_ext : ∀ {l m : List Int}, l.Pairwise (· < ·) → m.Pairwise (· < ·) → (∀ v, v ∈ l ↔ v ∈ m) → l = m
  | [], [], _, _, _ => rfl
  | [], b :: m, _, _, h => absurd ((h b).mpr List.mem_cons_self) (by simp)
  | a :: l, [], _, _, h => absurd ((h a).mp List.mem_cons_self) (by simp)
  | a :: l, b :: m, hl, hm, h => by
    obtain ⟨h1, h2⟩ := List.pairwise_cons.mp hl
    obtain ⟨h3, h4⟩ := List.pairwise_cons.mp hm
    have e : a = b := by
      have p := (h a).mp List.mem_cons_self
      have q := (h b).mpr List.mem_cons_self
      rcases List.mem_cons.mp p with p | p
      · exact p
      · rcases List.mem_cons.mp q with q | q
        · exact q.symm
        · have := h1 b q
          have := h3 a p
          omega
    subst e
    rw [asc_ext h2 h4 fun v => ⟨fun hv => ?_, fun hv => ?_⟩]
    · rcases List.mem_cons.mp ((h v).mp (List.mem_cons_of_mem _ hv)) with z | z
      · have := h1 v hv
        omega
      · exact z
    · rcases List.mem_cons.mp ((h v).mpr (List.mem_cons_of_mem _ hv)) with z | z
      · have := h3 v hv
        omega
      · exact z
theorem pw2 {α : Type} {R : α → α → Prop} : ∀ {l : List α}, l.Pairwise R → ∀ p ∈ l, ∀ q ∈ l, p = q ∨ R p q ∨ R q p
  | [], _, _, h, _, _ => nomatch h
  | a :: l, h, p, hp, q, hq => by
    obtain ⟨h1, h2⟩ := List.pairwise_cons.mp h
    rcases List.mem_cons.mp hp with e1 | hp2
    · rcases List.mem_cons.mp hq with e2 | hq2
      · exact .inl (e1.trans e2.symm)
      · exact .inr (.inl (e1 ▸ h1 q hq2))
    · rcases List.mem_cons.mp hq with e2 | hq2
      · exact .inr (.inr (e2 ▸ h1 p hp2))
      · exact pw2 h2 p hp2 q hq2
theorem countP_or {α : Type} (p q : α → Bool) : ∀ l : List α, l.countP p + l.countP q = l.countP (fun x => p x || q x) + l.countP (fun x => p x && q x)
  | [] => rfl
  | a :: l => by
    have := countP_or p q l
    rw [List.countP_cons, List.countP_cons, List.countP_cons, List.countP_cons]
    cases p a <;> cases q a <;> simp <;> omega
theorem countP_not {α : Type} (p : α → Bool) : ∀ l : List α, l.countP p + l.countP (fun x => !p x) = l.length
  | [] => rfl
  | a :: l => by
    have := countP_not p l
    rw [List.countP_cons, List.countP_cons, List.length_cons]
    cases p a <;> simp <;> omega
end TL
set_option Elab.async false
set_option linter.all false
set_option maxRecDepth 100000
namespace TL
open PySem PySem.Spec L2 PyProof.Rows
/-! ### a, b = [x, y]; xs * n; data equal to itself -/
theorem pg_lstK {X : Cx} {K : PySem.W.Frag} {pos : Pos} {es : List Expr} {k : Nat} {t : TGs} {n : Nat} (kk : X.K = K) (hc : X.calm = true) (h : PGs X es t)
    (hn : (assignEach es X.env).length = n := by rfl) (hst : (assignEach es X.env).findIdx? (·.1) = none := by rfl) : PG X (.Tuple es k pos) (gLst K n t) := by subst kk; exact pg_lst hc h hn hst
section
variable {G : Type} [Gh G] {W : Wd G} {g : G} {H0 : Hp} {ρ : Rho} {F : PySem.W.Frag} {i j : Nat} {k : Rs → Prop}
theorem g_lst2 {k : Rho → Prop} {a b : D} (h : k ((ρ.set i (.v a)).set j (.v b))) : wpG W H0 g ρ (gLst F 2 (gCons (gName i) (gCons (gName j) gNil))) (.lst [a, b]) k := fun ps H σ v S o Q hq => by
  cases o with
  | @lst p xs _ n e t =>
    cases t with
    | cons o1 t =>
      cases t with
      | cons o2 t =>
        cases t
        exact ⟨p, _, rfl, .inl (.inl e), rfl, _, _, rfl, _, _, rfl, rfl, hq _ _ h ((S.set o1).set o2)⟩
theorem DtL.flat {M : Addr → Prop} {H : Hp} {ds : List D} {xs : List V} (h : DtL M H ds xs) : ∀ n : Nat, DtL M H (List.replicate n ds).flatten (List.replicate n xs).flatten
  | 0 => .nil
  | n + 1 => by
    rw [List.replicate_succ, List.replicate_succ, List.flatten_cons, List.flatten_cons]
    exact h.append (DtL.flat h n)
theorem p_rep {x : Rs} {ds : List D} {n : Int} (l : LstOf x ds) (h0 : 0 ≤ n) (hn : n ≤ 1000000) (z : ds.length * n.toNat ≤ 1000000) (q : k (.v (.lst (List.replicate n.toNat ds).flatten))) : wp2 rStar x (.v (.int n)) k := fun _ W g0 H v u J ox oy Q hq => by
  obtain ⟨a, xs, rfl, p1, t1, _⟩ := l.at J ox
  rw [v_int oy]
  exact .inr ⟨a, n, xs, rfl, rfl, p1, by omega, by omega, by rw [t1.length]; exact Nat.le_trans z (by decide), fun p hp => hq _ _ _ q (Ext.new J hp) (new_lst J hp (t1.flat n.toNat))⟩
end
mutual
theorem eqv_self : ∀ {n : Nat} {d : D}, Pl n d → PyData.eqv d.py d.py = true
  | _, .non, _ => rfl
  | _, .bl b, _ => by show (b == b) = true; exact beq_self_eq_true b
  | _, .int b, _ => by show (b == b) = true; exact beq_self_eq_true b
  | _, .str b, _ => by show (b == b) = true; exact beq_self_eq_true b
  | _, .lst ds, h => by
    cases h with
    | lst h => exact eqv_selfL h
  | _, .tup ds, h => by
    cases h with
    | tup h => exact eqv_selfL h
  | _, .ins _ _, h => nomatch h
  | _, .raw _, h => nomatch h
  | _, .emp, h => nomatch h
  | _, .scr _ _, h => nomatch h
  | _, .dic _ _, h => nomatch h
  | _, .lnt _ _ _, h => nomatch h
  | _, .hp _, h => nomatch h
theorem eqv_selfL : ∀ {n : Nat} {ds : List D}, (∀ d ∈ ds, Pl n d) → PyData.eqvAll (D.pyL ds) (D.pyL ds) = true
  | _, [], _ => rfl
  | _, d :: ds, h => by
    show (PyData.eqv d.py d.py && PyData.eqvAll (D.pyL ds) (D.pyL ds)) = true
    rw [eqv_self (h d List.mem_cons_self), eqv_selfL fun e he => h e (List.mem_cons_of_mem _ he)]; rfl
end
section
variable {k : Rs → Prop} {K : PySem.W.Frag}
theorem p_neSelf {n : Nat} {d : D} (h : Pl n d) (hn : n ≤ 64) (q : k (.v (.bl false))) : wp2 (rNeP K) (.v d) (.v d) k := p_neP (.v h) (.v h) hn (by rw [eqv_self h]; exact q)
theorem p_eqSelf {n : Nat} {d : D} (h : Pl n d) (hn : n ≤ 64) (q : k (.v (.bl true))) : wp2 (rEqP K) (.v d) (.v d) k := p_eqP (.v h) (.v h) hn (by rw [eqv_self h]; exact q)
theorem pl_ints {n : Nat} (ns : List Int) : Pl (n + 1) (.lst (ns.map D.int)) := .lst fun d hd => by
  obtain ⟨i, _, rfl⟩ := List.mem_map.mp hd
  exact .int
theorem pl_bls {n : Nat} (ns : List Bool) : Pl (n + 1) (.lst (ns.map D.bl)) := .lst fun d hd => by
  obtain ⟨i, _, rfl⟩ := List.mem_map.mp hd
  exact .bl
end
end TL
set_option Elab.async false
set_option linter.all false
set_option maxRecDepth 100000
namespace TL
open PySem PySem.Spec L2 PyProof.Rows
/-! ### x not in y by an own def -/
section
variable {X : Cx} {CX : CXT} {n : Nat} {C f : Addr} {fd : FuncData} {ps : List Str} {sp : Sp} {E : XK}
def rNotInOwn (C : Addr) (sp : Sp) (E : XK) : R2 := fun x y H Q => ∃ b dx fs, y = .ref b ∧ H b = some (.ins C dx fs) ∧ sp [y, x] H (fun v H' => ∃ k, v = .bl k ∧ Q (.bl (!k)) H') E
theorem op_notInOwn (h : OpOf X.K C "__contains__" f) (F : FnOk X.prog X.w X.K X.mg X.base CX n f fd ps sp) (hb : Binds X.K fd ps []) (hr : Room n X.A) (hx : Passes CX X E) : OpR X (compareOp .NotIn) (rNotInOwn C sp E) := by
  intro pins s σ H x y v u Q I rx ry hq
  obtain ⟨b, dx, fs, rfl, e, q⟩ := hq
  cases (show u = Value.ref b from ry)
  obtain ⟨od, J⟩ := ins_inst I e
  show wpAny _ _ (do return Value.bool (!(← contains (.ref b) v))) _ _ _
  refine wpAny_bind (contains_fn I.kIn J h.at_ h.fn (wpAny_mono (run_fn (us := [.ref b, v]) (vs := [.ref b, x]) F hr hb .nil hx I (.cons rfl (.cons rx .nil)) (by rw [List.append_nil]; exact q)) (fun r s' z => ?_) fun _ _ z => z))
  obtain ⟨r', H', I', rr, k, rfl, qk⟩ := z
  cases (show r = Value.bool k from rr)
  exact wpAny_truthy_bool (wpAny_pure ⟨.bl (!k), H', I', rfl, qk⟩)
end
section
variable {G : Type} [Gh G] {W : Wd G} {g : G} {H0 : Hp} {ρ : Rho} {ta tb : TE} {K : PySem.W.Frag} {k : Rs → G → Prop} {C : Addr} {Ca : Ct G} {E : XK}
theorem e_notInOwn (h : wpE W H0 g ρ ta fun x g1 => wpE W H0 g1 ρ tb fun y g2 => ∃ fs, y = .v (.ins C fs) ∧ ∀ W', In W W' ρ → Ca W' g2 [y, x] (fun d g3 => ∃ b, d = .bl b ∧ k (.v (.bl (!b))) g3) noX) : wpE W H0 g ρ (tOp (rNotInOwn C (mkSp Ca) E) ta tb) k := fun ps H σ S Q hq =>
  h ps H σ S _ fun x v g1 H1 kx e1 ox => kx ps H1 σ (S.to e1) _ fun y w g2 H2 ky e2 oy => by
    obtain ⟨fs, rfl, ky⟩ := ky
    have oy' := oy
    cases oy with
    | v oy =>
      cases oy with
      | ins n e t =>
        have e12 := e1.trans e2
        refine ⟨_, _, _, rfl, e, _, g2, _, _, _, .cons oy' (.cons (ox.ext e2) .nil), e2.j, ky _ (S.to e12).in_, fun d w g' H' kd e3 od => ?_, fun c g' H' z => z.elim⟩
        obtain ⟨b, rfl, q⟩ := kd
        cases od
        exact ⟨b, rfl, hq _ _ g' H' q (e12.trans e3) (.v (.bl (!b)))⟩
end
end TL
set_option Elab.async false
set_option linter.all false
set_option maxRecDepth 100000
namespace TL
open PySem PySem.Spec L2 PyProof.Rows
/-! ### a list as a test -/
def tTru (K : PySem.W.Frag) (ta : TE) : TT := fun σ H Q => ta σ H fun x H' => ∃ k, TruV K x H' k ∧ Q k H'
theorem pt_tru {X : Cx} {K : PySem.W.Frag} {a : Expr} {ta : TE} (hk : X.K = K) (h : PE X a ta) (he : ∀ whole, isTrue a X.env whole = (do let v ← whole; standAt a.pos; holding [v] (truthy v)) := by intro _; rfl) : PT X a (tTru K ta) := by
  subst hk
  exact pt_truth h he
section
variable {G : Type} [Gh G] {W : Wd G} {g : G} {H0 : Hp} {ρ : Rho} {te : TE} {K : PySem.W.Frag} {kb : Bool → G → Prop}
theorem t_tru (h : wpE W H0 g ρ te fun r g1 => ∃ ds, LstOf r ds ∧ kb (!ds.isEmpty) g1) : wpT W H0 g ρ (tTru K te) kb := fun ps H σ S Q hq =>
  h ps H σ S _ fun r v g1 H1 kx e1 o => by
    obtain ⟨ds, l, q⟩ := kx
    obtain ⟨a, xs, rfl, p, t, _⟩ := l.at e1.j o
    have e : xs.isEmpty = ds.isEmpty := by
      cases t <;> rfl
    exact ⟨!ds.isEmpty, .inl ⟨xs, .inl (.inl p), by rw [e]⟩, hq _ _ H1 q e1⟩
end
end TL
set_option Elab.async false
set_option linter.all false
set_option maxRecDepth 100000
namespace TL
open PySem PySem.Spec L2 PyProof.Rows
/-! ### two new lists at once; xs.append((ys.pop(i), e)) -/
section
variable {G : Type} [Gh G] {W : Wd G} {g g1 g2 : G} {H0 H H1 H2 : Hp} {ρ : Rho} {ps : Pins} {σ : L2.St} {ta tb tc te : TE} {K : TK G} {F F2 : PySem.W.Frag} {ds es : List D} {i j l : Nat} {kn : List D → G → Prop}
theorem Sta.ownNew {a : Addr} {xs : List V} {H' : Hp} (S : Sta W H0 ps g H σ ρ) (e : Ext (pinW W ps) H g1 H') (hn : H a = none) (ha : H' a = some (.lst xs)) (t : DtL (fun b => (pinW W ps).M b ∨ b = a) H' ds xs) :
    Sta W H0 ((a, some (.lst xs)) :: ps) g1 H' (σ.set i (some (.ref a))) (ρ.set i (.ow ds)) ∧ Nxt W ps H ((a, some (.lst xs)) :: ps) H' := by
  obtain ⟨S1, n1⟩ := S.grow (o := some (.lst xs)) e hn ha rfl
  have hm : (a, some (HO.lst xs)) ∈ ((a, some (HO.lst xs)) :: ps) := List.mem_cons_self
  refine ⟨S1.take (i := i) (s := .ow ds) rfl hm ⟨(fun z => nomatch z), fun ⟨_, z⟩ => nomatch z⟩ (S.fresh hn) ⟨_, rfl, .b (pin_in hm) (fun g o z => (S1.pinAt hm g o).mp z) (DtL.mono (fun b u m z => ⟨fun y => m ?_, z⟩) _ _ t)⟩, n1⟩
  obtain ⟨g', o, y⟩ := y
  rcases y with ⟨q, y, w⟩ | y
  · rcases List.mem_cons.mp y with y | y
    · exact .inr (Prod.mk.inj y).1
    · exact .inl (pin_in y)
  · exact .inl ⟨g', o, .inr y⟩
theorem s_parN (h : wpN W H0 g ρ ta fun ds1 g1 => wpN W H0 g1 ρ tb fun ds2 g2 => K.nx ((ρ.set i (.ow ds1)).set j (.ow ds2)) g2) : wpS W H0 g ρ (tPar i j (tCons ta (tCons tb tNil))) K := fun ps H σ De S k =>
  h ps H σ S _ fun ds1 a1 xs1 g1 H1 q1 hn1 e1 ha1 t1 => by
    obtain ⟨S1, n1⟩ := S.grow (o := some (.lst xs1)) e1 hn1 ha1 rfl
    refine q1 _ H1 σ S1 _ fun ds2 a2 xs2 g2 H2 q2 hn2 e2 ha2 t2 => ?_
    obtain ⟨T1, _⟩ := S.ownNew (i := i) e1 hn1 ha1 t1
    obtain ⟨T2, n2⟩ := T1.ownNew (i := j) e2 hn2 ha2 t2
    exact ⟨_, _, rfl, k.nx _ _ _ _ _ q2 T2 (n1.trans n2 S1.j)⟩
theorem n_listRg {ta : TE} (h : wpE W H0 g ρ ta fun r g1 => ∃ n : Nat, r = .v (.int n) ∧ n ≤ 1000000 ∧ kn (((List.range n).map fun (i : Nat) => (i : Int)).map D.int) g1) : wpN W H0 g ρ (tLstRg (tRg1 ta)) kn := fun ps H σ S Q hq => h ps H σ S _ fun r v g1 H1 ⟨n, er, hn, q⟩ e o => by
  subst er
  refine ⟨n, v_int o, ⟨by omega, by omega, by omega, by omega, by omega⟩, fun p hp => ?_⟩
  rw [rgV_eq]
  exact hq _ p _ g1 _ q (e.free hp) (e.trans (Ext.new e.j hp)) upd_same (DtL.newAt hp (DtL.ofInts _))
/-- found, a, b = [], x, y -/
theorem s_asgN3 (h : wpN W H0 g ρ ta fun ds g1 => wpE W H0 g1 ρ tb fun r g2 => ∃ d, r = .v d ∧ wpE W H0 g2 ρ tc fun s g3 => ∃ c, s = .v c ∧ K.nx (((ρ.set i (.ow ds)).set j (.v d)).set l (.v c)) g3) :
    wpS W H0 g ρ (tAsg (tTup (tCons ta (tCons tb (tCons tc tNil)))) (gTup F 3 (gCons (gName i) (gCons (gName j) (gCons (gName l) gNil))))) K := fun ps H σ De S k =>
  h ps H σ S _ fun ds1 a1 xs1 g1 H1 q1 hn1 e1 ha1 t1 => by
    obtain ⟨S1, n1⟩ := S.grow (o := some (.lst xs1)) e1 hn1 ha1 rfl
    refine q1 _ H1 σ S1 _ fun r v g2 H2 q2 e2 o2 => ?_
    obtain ⟨d, rfl, q2⟩ := q2
    refine q2 _ H2 σ (S1.to e2) _ fun s u g3 H3 q3 e3 o3 => ?_
    obtain ⟨c, rfl, q3⟩ := q3
    refine ⟨by show 3 ≤ sizeLine; decide, fun p hp => ?_⟩
    obtain ⟨T1, _⟩ := S.ownNew (i := i) e1 hn1 ha1 t1
    have ex := e2.trans (e3.trans (Ext.new (o := .tup [.ref a1, v, u]) e3.j hp))
    have T2 := T1.to ex
    cases o2 with
    | v o2 =>
      cases o3 with
      | v o3 =>
        have o2' := o2.ext (e3.trans (Ext.new (o := .tup [.ref a1, v, u]) e3.j hp))
        have o3' := o3.ext (Ext.new (o := .tup [.ref a1, v, u]) e3.j hp)
        refine ⟨p, _, rfl, .inl (.inl upd_same), rfl, _, _, rfl, _, _, rfl, _, _, rfl, rfl, k.nx _ _ _ _ _ q3 ((T2.set o2').set o3') (n1.trans (Nxt.of ex) S1.j)⟩
theorem s_appPop (hi : ρ[i]? = some (.ow ds)) (hj : ρ[j]? = some (.ow es)) (hij : i ≠ j) (hl : es.length ≤ 1000000)
    (h : wpE W H0 g ρ te fun r g1 => ∃ (n : Nat) (d : D), r = .v (.int n) ∧ ds[n]? = some d ∧ n < 1000000 ∧ wpE W H0 g1 (ρ.set i (.ow (ds.eraseIdx n))) tb fun y g2 => ∃ b, y = .v b ∧ K.nx ((ρ.set i (.ow (ds.eraseIdx n))).set j (.ow (es ++ [.tup [d, b]]))) g2) :
    wpS W H0 g ρ (tDrop (tBM F "list" rAppend (tVar j) (tCons (tTup (tCons (tBM F2 "list" rPopAt (tVar i) (tCons te tNil)) (tCons tb tNil))) tNil))) K := fun ps H σ De S k => by
  obtain ⟨aj, xj, ej, pj, tj, _⟩ := S.ow hj
  obtain ⟨ai, xi, ei, pi, ti, si⟩ := S.ow hi
  refine ⟨_, ej, .inl ⟨rfl, xj, .inl (.inl pj)⟩, ⟨_, ei, .inl ⟨rfl, xi, .inl (.inl pi)⟩, h ps H σ S _ fun r v g1 H1 q e o => ?_⟩⟩
  obtain ⟨n, d, rfl, hd, hn, q⟩ := q
  have pi1 := si g1 H1 e
  obtain ⟨w, hw, dw⟩ := (ti.ext e).get hd
  obtain ⟨S2, n2⟩ := (S.to e).lst (es := ds.eraseIdx n) (ys := xi.eraseIdx n) hi ei pi1 (DtL.eraseIdx n (ti.ext e))
  have hlt : n < xi.length := (List.getElem?_eq_some_iff.mp hw).1
  refine ⟨ai, xi, (n : Int), n, w, rfl, by rw [v_int o], pi1, by omega, by omega, ?_, hw, ?_⟩
  · unfold seqIndex?
    simp; omega
  refine q _ _ σ S2 _ fun y v2 g2 H3 q2 e3 o2 => ?_
  obtain ⟨b, rfl, q2⟩ := q2
  refine ⟨by show 2 ≤ sizeLine; decide, fun p hp => ?_⟩
  have en := Ext.new (o := .tup [w, v2]) e3.j hp
  have S4 := S2.to (e3.trans en)
  have hj' : (ρ.set i (.ow (ds.eraseIdx n)))[j]? = some (.ow es) := by rw [List.getElem?_set_ne hij]; exact hj
  obtain ⟨a', x', e', p4, t4, _⟩ := S4.ow hj'
  rw [ej] at e'
  cases e'
  cases o2 with
  | v o2 =>
    have dw2 := (n2.dt dw).ext (e3.trans en)
    have dt : Dt (pinW W (repl ps ai (some (.lst (xi.eraseIdx n))))).M (upd H3 p (.tup [w, v2])) (.tup [d, b]) (.ref p) := .tup (e3.j.nn hp) upd_same (.cons dw2 (.cons (o2.ext en) .nil))
    obtain ⟨S5, n5⟩ := S4.lst (es := es ++ [.tup [d, b]]) (ys := x' ++ [.ref p]) hj' ej p4 (t4.append (.cons dt .nil))
    refine ⟨aj, x', .ref p, rfl, rfl, p4, ?_, k.nx _ _ _ _ _ q2 S5 ((((Nxt.of e).trans n2 e.j).trans (Nxt.of (e3.trans en)) S2.j).trans n5 S4.j)⟩
    rw [t4.length]
    exact Nat.lt_of_le_of_lt hl (by decide)
end
end TL
set_option Elab.async false
set_option linter.all false
set_option maxRecDepth 100000
namespace TL
open PySem PySem.Spec L2 PyProof.Rows
/-! ### found, a, b = [], x, y -/
section
variable {G : Type} [Gh G] {W : Wd G} {g : G} {H0 : Hp} {ρ : Rho} {ta tb tc : TE} {K : TK G} {i j l : Nat}
theorem s_par3N (h : wpN W H0 g ρ ta fun ds g1 => wpE W H0 g1 ρ tb fun r g2 => ∃ d, r = .v d ∧ wpE W H0 g2 ρ tc fun s g3 => ∃ c, s = .v c ∧ K.nx (((ρ.set i (.ow ds)).set j (.v d)).set l (.v c)) g3) :
    wpS W H0 g ρ (tPar3 i j l (tCons ta (tCons tb (tCons tc tNil)))) K := fun ps H σ De S k =>
  h ps H σ S _ fun ds1 a1 xs1 g1 H1 q1 hn1 e1 ha1 t1 => by
    obtain ⟨S1, n1⟩ := S.grow (o := some (.lst xs1)) e1 hn1 ha1 rfl
    refine q1 _ H1 σ S1 _ fun r v g2 H2 q2 e2 o2 => ?_
    obtain ⟨d, rfl, q2⟩ := q2
    refine q2 _ H2 σ (S1.to e2) _ fun s u g3 H3 q3 e3 o3 => ?_
    obtain ⟨c, rfl, q3⟩ := q3
    obtain ⟨T1, _⟩ := S.ownNew (i := i) e1 hn1 ha1 t1
    have T2 := T1.to (e2.trans e3)
    cases o2 with
    | v o2 =>
      cases o3 with
      | v o3 => exact ⟨_, _, _, rfl, k.nx _ _ _ _ _ q3 ((T2.set (o2.ext e3)).set o3) (n1.trans (Nxt.of (e2.trans e3)) S1.j)⟩
theorem s_par3 {d0 d1 d2 : D} (h : wpA W H0 g ρ (tCons ta (tCons tb (tCons tc tNil))) fun rs g1 => ∃ a b c, rs = [.v a, .v b, .v c] ∧ K.nx (((ρ.set i (.v a)).set j (.v b)).set l (.v c)) g1) : wpS W H0 g ρ (tPar3 i j l (tCons ta (tCons tb (tCons tc tNil)))) K := fun ps H σ De S k =>
  h ps H σ S _ fun rs vs g1 H1 q e o => by
    obtain ⟨a, b, c, rfl, q⟩ := q
    obtain ⟨v, u, w, rfl, o1, o2, o3⟩ := o.three
    cases o1 with
    | v o1 =>
      cases o2 with
      | v o2 =>
        cases o3 with
        | v o3 => exact ⟨v, u, w, rfl, k.nx ps g1 H1 _ _ q ((((S.to e).set o1).set o2).set o3) (Nxt.of e)⟩
end
end TL
set_option Elab.async false
set_option linter.all false
set_option maxRecDepth 100000
/-! ### == and != of lists whose items have an own ==, with both answers -/
namespace TLQ
open PySem PySem.SeqAt
open AutoSeq1 (wpAny_loadPart')
open MeetsSeq MeetsSeq2 MeetsSeq3 SeqRoads2
section
variable {prog : Program} {w : World} {A : Around} {R : Result → Shared → Prop}
def code (neg : Bool) : Int := if neg then 3 else 2
abbrev LstAt (s : Shared) (a : Addr) (us : Array Value) (n : Nat) : Prop := s.heap.get? a = some { cls := .type "list", data := .seq us n }
/-- two lists of N items each, read anew at each turn; the turn's answer, and what holds where two items differ -/
def Turns (prog : Program) (w : World) (A : Around) (E : Value → Shared → Prop) (l b : Addr) (N : Nat) (I : Nat → Shared → Prop) (F : Shared → Prop) : Prop :=
  ∀ i s, I i s → ∃ (us vs : Array Value) (n m : Nat), LstAt s l us n ∧ LstAt s b vs m ∧ us.size = N ∧ vs.size = N ∧
    ∀ (h1 : i < us.size) (h2 : i < vs.size), wpAny (model prog w) A.in1 (eqBool us[i] vs[i]) (fun r s' => (r = true ∧ I (i + 1) s') ∨ (r = false ∧ I i s' ∧ F s')) E s
theorem loop (neg : Bool) (l b : Addr) (N : Nat) (I : Nat → Shared → Prop) (F : Shared → Prop) (T : Turns prog w A (fun e s' => R (.error e) s') l b N I F)
    (fin : ∀ s, I N s → R (.ok (.ret (.bool (!neg)))) s) (dif : ∀ s, F s → R (.ok (.ret (.bool neg))) s) (k : Nat) :
    ∀ i : Nat, N - i = k → i ≤ N → ∀ s, I i s →
      wpAny (model prog w) A.in1 (Builtin.«list.__eq__.loop» ⟨[.ref l, .ref b, rawInt i, rawInt (code neg)], []⟩) (GQ.FinOf prog w A R) (fun e s' => R (.error e) s') s := by
  induction k with
  | zero =>
    intro i hk hi s h
    obtain ⟨us, vs, n, m, p1, p2, z1, z2, _⟩ := T _ _ h
    have e0 : i = N := by omega
    have hR := fin s (e0 ▸ h)
    obtain ⟨hp, g, d, tk, os⟩ := s
    cases neg
    all_goals
      wp_walk using (wpAny_loadPart' p1), (wpAny_loadPart' p2)
      have q1 : us[((i : Nat) : Int).toNat]? = none := by simp; omega
      have q2 : vs[((i : Nat) : Int).toNat]? = none := by simp; omega
      rw [q1, q2]
      wp_walk using (wpAny_loadPart' p1), (wpAny_loadPart' p2)
    · show R (.ok (.ret (.bool (us.size == vs.size)))) _
      rw [z1, z2]
      simpa using hR
    · show R (.ok (.ret (.bool (us.size != vs.size)))) _
      rw [z1, z2]
      simpa using hR
  | succ k ih =>
    intro i hk hi s h
    obtain ⟨us, vs, n, m, p1, p2, z1, z2, turn⟩ := T _ _ h
    have b1 : i < us.size := by omega
    have b2 : i < vs.size := by omega
    have ht := turn b1 b2
    obtain ⟨hp, g, d, tk, os⟩ := s
    cases neg
    all_goals
      wp_walk using (wpAny_loadPart' p1), (wpAny_loadPart' p2)
      have q1 : us[((i : Nat) : Int).toNat]? = some us[i] := by simp [b1]
      have q2 : vs[((i : Nat) : Int).toNat]? = some vs[i] := by simp [b2]
      have e1 : ((i : Int) + 1) = ((i + 1 : Nat) : Int) := by omega
      rw [q1, q2]
      refine wpAny_bind (wpAny_mono ht (fun r s2 h2 => ?_) fun _ _ x => x)
      rcases h2 with ⟨er, h2⟩ | ⟨er, h3, hf⟩
      · subst er
        have rec1 := ih (i + 1) (by omega) (by omega) s2 h2
        obtain ⟨hp2, g2, d2, tk2, os2⟩ := s2
        wp_walk
        rw [e1]
        exact ⟨plainId_quiet plain_eq_loop _, codeAny_builtin entry_eq_loop (by rw [Around.under_plainId plain_eq_loop _]; exact rec1)⟩
      · subst er
        have hR := dif s2 hf
        obtain ⟨us', vs', n', m', p1', p2', z1', z2', _⟩ := T _ _ h3
        have c1 : i < us'.size := by omega
        have c2 : i < vs'.size := by omega
        obtain ⟨hp2, g2, d2, tk2, os2⟩ := s2
        wp_walk using (wpAny_loadPart' p1'), (wpAny_loadPart' p2')
        have q1' : us'[((i : Nat) : Int).toNat]? = some us'[i] := by simp [c1]
        have q2' : vs'[((i : Nat) : Int).toNat]? = some vs'[i] := by simp [c2]
        rw [q1', q2']
        wp_walk
        exact hR
theorem whole (neg : Bool) (l b : Addr) (N : Nat) (I : Nat → Shared → Prop) (F : Shared → Prop) (T : Turns prog w A (fun e s' => R (.error e) s') l b N I F)
    (fin : ∀ s, I N s → R (.ok (.ret (.bool (!neg)))) s) (dif : ∀ s, F s → R (.ok (.ret (.bool neg))) s) {s : Shared} (h : I 0 s) :
    wpAny (model prog w) A.in1 ((if neg then Builtin.«list.__ne__» else Builtin.«list.__eq__») ⟨[.ref l, .ref b], []⟩) (GQ.FinOf prog w A R) (fun e s' => R (.error e) s') s := by
  obtain ⟨us, vs, n, m, p1, p2, z1, z2, _⟩ := T _ _ h
  have rec1 := loop (A := A) (R := R) neg l b N I F T fin dif _ 0 rfl (Nat.zero_le _) s h
  obtain ⟨hp, g, d, tk, os⟩ := s
  have f3 := AutoSeq1.sub_list_list
  have same : ¬ (us.size != vs.size) = true := by simp [z1, z2]
  cases neg
  all_goals
    simp only [if_true, Bool.false_eq_true, if_false]
    wp_walk using (wpAny_loadPart' p1), (wpAny_loadPart' p2)
    exact ⟨plainId_quiet plain_eq_loop _, codeAny_builtin entry_eq_loop (by rw [Around.under_plainId plain_eq_loop _]; exact rec1)⟩
theorem lens (neg : Bool) (l b : Addr) {us vs : Array Value} {n m : Nat} {s : Shared} (p1 : LstAt s l us n) (p2 : LstAt s b vs m) (z : us.size ≠ vs.size) (hR : R (.ok (.ret (.bool neg))) s) :
    wpAny (model prog w) A.in1 ((if neg then Builtin.«list.__ne__» else Builtin.«list.__eq__») ⟨[.ref l, .ref b], []⟩) (GQ.FinOf prog w A R) (fun e s' => R (.error e) s') s := by
  obtain ⟨hp, g, d, tk, os⟩ := s
  have f3 := AutoSeq1.sub_list_list
  have same : (us.size != vs.size) = true := by simp [z]
  cases neg
  all_goals
    simp only [if_true, Bool.false_eq_true, if_false]
    wp_walk using (wpAny_loadPart' p1), (wpAny_loadPart' p2)
    exact hR
end
section
variable {prog : Program} {w : World} {A : Around} {E : Value → Shared → Prop} {s : Shared} {Q : Value → Shared → Prop} {l b : Addr}
def opN (neg : Bool) : CmpOp := if neg then .NotEq else .Eq
theorem rc (neg : Bool) {N : Nat} (hu : A.units < cLine) (I : Nat → Shared → Prop) (Fd : Shared → Prop) (T : Turns prog w A E l b N I Fd) (fin : ∀ s, I N s → Q (.bool (!neg)) s) (dif : ∀ s, Fd s → Q (.bool neg) s) (h : I 0 s) :
    wpAny (model prog w) A (richCompare (opN neg) (.ref l) (.ref b)) Q E s := by
  obtain ⟨us, vs, n, m, p1, p2, _⟩ := T _ _ h
  have body := whole (A := A) (R := wants (fun v s' => v ≠ .notImplemented ∧ Q v s') E) neg l b N I Fd T (fun s' q => ⟨(fun x => nomatch x), fin s' q⟩) (fun s' q => ⟨(fun x => nomatch x), dif s' q⟩) h
  cases neg
  · exact wpAny_richCompare_same_room (op := .Eq) ⟨_, p1, rfl⟩ ⟨_, p2, rfl⟩ F.slot_list_eq (GQ.call_here F.slot_list_eq ⟨_, p1, rfl⟩ F.entry_list_eq (F.args_list_eq_2 _ _) body) hu
  · exact wpAny_richCompare_same_room (op := .NotEq) ⟨_, p1, rfl⟩ ⟨_, p2, rfl⟩ F.slot_list_ne (GQ.call_here F.slot_list_ne ⟨_, p1, rfl⟩ F.entry_list_ne (F.args_list_ne_2 _ _) body) hu
theorem rc_lens (neg : Bool) {us vs : Array Value} {n m : Nat} (hu : A.units < cLine) (p1 : LstAt s l us n) (p2 : LstAt s b vs m) (z : us.size ≠ vs.size) (hQ : Q (.bool neg) s) :
    wpAny (model prog w) A (richCompare (opN neg) (.ref l) (.ref b)) Q E s := by
  have body := lens (prog := prog) (w := w) (A := A) (R := wants (fun v s' => v ≠ .notImplemented ∧ Q v s') E) neg l b p1 p2 z ⟨(fun x => nomatch x), hQ⟩
  cases neg
  · exact wpAny_richCompare_same_room (op := .Eq) ⟨_, p1, rfl⟩ ⟨_, p2, rfl⟩ F.slot_list_eq (GQ.call_here F.slot_list_eq ⟨_, p1, rfl⟩ F.entry_list_eq (F.args_list_eq_2 _ _) body) hu
  · exact wpAny_richCompare_same_room (op := .NotEq) ⟨_, p1, rfl⟩ ⟨_, p2, rfl⟩ F.slot_list_ne (GQ.call_here F.slot_list_ne ⟨_, p1, rfl⟩ F.entry_list_ne (F.args_list_ne_2 _ _) body) hu
end
end TLQ
namespace TL
open PySem PySem.Spec L2 PyProof.Rows
section
variable {X : Cx} {CX : CXT} {n : Nat} {C f : Addr} {fd : FuncData} {ps : List Str} {sp : Sp} {E : XK}
/-- two lists of instances of the class at C, by its own == -/
def rEqL (C : Addr) (sp : Sp) (neg : Bool) (E : XK) : R2 := fun x y H Q => ∃ l b xs ys, x = .ref l ∧ y = .ref b ∧ H l = some (.lst xs) ∧ H b = some (.lst ys) ∧
  ((xs.length ≠ ys.length ∧ Q (.bl neg) H) ∨ (xs.length = ys.length ∧ ∃ J : Nat → Hp → Prop, J 0 H ∧ (∀ i H', J i H' → H' l = some (.lst xs) ∧ H' b = some (.lst ys)) ∧
    (∀ (i : Nat) u v H', xs[i]? = some u → ys[i]? = some v → J i H' → ∃ p q dx dy fs gs, u = .ref p ∧ v = .ref q ∧ H' p = some (.ins C dx fs) ∧ H' q = some (.ins C dy gs) ∧ (p = q → J (i + 1) H') ∧
      sp [u, v] H' (fun r H'' => ∃ k, r = .bl k ∧ ((k = true ∧ J (i + 1) H'') ∨ (k = false ∧ J i H'' ∧ Q (.bl neg) H''))) E) ∧
    ∀ H', J xs.length H' → Q (.bl (!neg)) H'))
theorem op_eqL (neg : Bool) (h : OpOf X.K C "__eq__" f) (F : FnOk X.prog X.w X.K X.mg X.base CX n f fd ps sp) (hb : Binds X.K fd ps []) (hr : Room (n + 1) X.A) (hx : Passes CX X E) : OpR X (compareOp (TLQ.opN neg)) (rEqL C sp neg E) := by
  intro pins s σ H x y v u Q I rx ry hq
  obtain ⟨l, b, xs, ys, rfl, rfl, hl, hlb, hq⟩ := hq
  cases (show v = Value.ref l from rx)
  cases (show u = Value.ref b from ry)
  have goal : wpAny (model X.prog X.w) X.A (richCompare (TLQ.opN neg) (.ref l) (.ref b)) (EP X pins σ Q) X.xe s := by
    rcases hq with ⟨hz, q⟩ | ⟨hz, J, j0, jl, turn, fin⟩
    · obtain ⟨z, its, k, r, e⟩ := I.hok l _ hl
      obtain ⟨z2, its2, k2, r2, e2⟩ := I.hok b _ hlb
      exact TLQ.rc_lens neg hr.units0 e e2 (by rw [List.size_toArray, List.size_toArray, ← r.length, ← r2.length]; exact hz) ⟨.bl neg, H, I, rfl, q⟩
    · refine TLQ.rc neg (N := xs.length) hr.units0 (fun i s' => ∃ H', Inv X pins σ H' s' ∧ J i H') (fun s' => ∃ H', Inv X pins σ H' s' ∧ Q (.bl neg) H') (fun i s' ⟨H1, I1, j1⟩ => ?_) (fun s' ⟨H1, I1, j1⟩ => ⟨.bl (!neg), H1, I1, rfl, fin H1 j1⟩) (fun s' ⟨H1, I1, q1⟩ => ⟨.bl neg, H1, I1, rfl, q1⟩) ⟨H, I, j0⟩
      obtain ⟨p1, p2⟩ := jl i H1 j1
      obtain ⟨z, its, k, r, e⟩ := I1.hok l _ p1
      obtain ⟨z2, its2, k2, r2, e2⟩ := I1.hok b _ p2
      refine ⟨its.toArray, its2.toArray, k, k2, e, e2, by rw [List.size_toArray, ← r.length], by rw [List.size_toArray, ← r2.length, ← hz], fun c1 c2 => ?_⟩
      have d1 : i < its.length := by simpa using c1
      have d2 : i < its2.length := by simpa using c2
      have x1 : i < xs.length := by rw [r.length]; exact d1
      have x2 : i < ys.length := by rw [r2.length]; exact d2
      obtain ⟨u, hu, ru⟩ := r.get (List.getElem?_eq_getElem x1)
      obtain ⟨v, hv, rv⟩ := r2.get (List.getElem?_eq_getElem x2)
      have gu : its.toArray[i] = u := by
        have := List.getElem?_eq_getElem d1
        rw [hu] at this
        simpa using (Option.some.inj this).symm
      have gv : its2.toArray[i] = v := by
        have := List.getElem?_eq_getElem d2
        rw [hv] at this
        simpa using (Option.some.inj this).symm
      rw [gu, gv]
      obtain ⟨p, q, dx, dy, fs, gs, eu, ev, hp, hq, same, sq⟩ := turn i _ _ H1 (List.getElem?_eq_getElem x1) (List.getElem?_eq_getElem x2) j1
      rw [eu] at ru
      rw [ev] at rv
      cases (show u = Value.ref p from ru)
      cases (show v = Value.ref q from rv)
      by_cases hpq : p = q
      · subst hpq
        exact SeqAt.EqAt.same (A := X.A.in1) (s := s') (.ref p) X.prog X.w X.xe _ (.inl ⟨rfl, H1, I1, same rfl⟩)
      · obtain ⟨od, i1⟩ := ins_inst I1 hp
        obtain ⟨od2, i2⟩ := ins_inst I1 hq
        obtain ⟨m, hF⟩ := I1.fr
        have sb : L2.Sub X n X.A.in1 := L2.Sub.in1 ⟨hr, rfl⟩
        rw [eu, ev] at sq
        refine GQ.eqBool_refG hpq ?_
        refine PySem.W.cmp_K (op := .Eq) (tb := .ref C) sb.room.units0 hF I1.ok.mod.kin i1 i2.type (by unfold PySem.W.notFirst; rw [beq_self_eq_true]; rfl) h.at_ h.isFn (wpAny_mono (run_fnA sb F hb hx I1 (.cons ru (.cons rv .nil)) sq) (fun r s2 w2 => ?_) fun _ _ w2 => w2)
        obtain ⟨r', H', I', rr, kk, rfl, qk⟩ := w2
        cases (show r = Value.bool kk from rr)
        refine ⟨kk, rfl, ?_⟩
        rcases qk with ⟨e3, j3⟩ | ⟨e3, j3, q3⟩
        · exact .inl ⟨e3, H', I', j3⟩
        · exact .inr ⟨e3, ⟨H', I', j3⟩, H', I', q3⟩
  cases neg
  · exact goal
  · exact goal
end
end TL
set_option Elab.async false
set_option linter.all false
set_option maxRecDepth 100000
namespace TL
open PySem PySem.Spec L2 PyProof.Rows
/-! ### lists of own objects compared, in readings -/
theorem op_eqL0 {X : Cx} {CX : CXT} {n : Nat} {C f : Addr} {fd : FuncData} {ps : List Str} {sp : Sp} {E : XK} (h : OpOf X.K C "__eq__" f) (F : FnOk X.prog X.w X.K X.mg X.base CX n f fd ps sp) (hb : Binds X.K fd ps []) (hr : Room (n + 1) X.A) (hx : Passes CX X E) : OpR X (compareOp .Eq) (rEqL C sp false E) := op_eqL false h F hb hr hx
theorem op_neL0 {X : Cx} {CX : CXT} {n : Nat} {C f : Addr} {fd : FuncData} {ps : List Str} {sp : Sp} {E : XK} (h : OpOf X.K C "__eq__" f) (F : FnOk X.prog X.w X.K X.mg X.base CX n f fd ps sp) (hb : Binds X.K fd ps []) (hr : Room (n + 1) X.A) (hx : Passes CX X E) : OpR X (compareOp .NotEq) (rEqL C sp true E) := op_eqL true h F hb hr hx
section
variable {G : Type} [Gh G] {W : Wd G} {g : G} {H0 : Hp} {ρ : Rho} {ta tb : TE} {k : Rs → G → Prop} {C : Addr} {Ca : Ct G} {E : XK}
theorem all_false {bs : List Bool} {i : Nat} (h : bs[i]? = some false) : bs.all id = false := by
  rw [← Bool.not_eq_true, List.all_eq_true]
  intro z
  have := z _ (List.mem_of_getElem? h)
  cases this
theorem all_take {bs : List Bool} {i : Nat} {c : Bool} (h : bs[i]? = some c) (ha : (bs.take i).all id = true) : (bs.take (i + 1)).all id = c := by
  rw [List.take_add_one, h, List.all_append, ha]
  show (true && (c && true)) = c
  rw [Bool.true_and, Bool.and_true]
theorem e_eqL {neg : Bool} {f : D → D → Bool} (h : wpE W H0 g ρ ta fun r g1 => wpE W H0 g1 ρ tb fun y g2 => ∃ ds es, r = .v (.lst ds) ∧ y = .v (.lst es) ∧ (∀ d ∈ ds, ∃ fs, d = .ins C fs) ∧ (∀ d ∈ es, ∃ fs, d = .ins C fs) ∧
      (∀ d ∈ ds, ∀ e ∈ es, ∀ (M : Addr → Prop) (H : Hp) (p : V), Dt M H d p → Dt M H e p → f d e = true) ∧
      (∀ d ∈ ds, ∀ e ∈ es, ∀ W', In W W' ρ → ∀ kk : D → G → Prop, kk (.bl (f d e)) g2 → Ca W' g2 [.v d, .v e] kk noX) ∧
      k (.v (.bl (xor neg (decide (ds.length = es.length) && (List.zipWith f ds es).all id)))) g2) : wpE W H0 g ρ (tOp (rEqL C (mkSp Ca) neg E) ta tb) k := fun ps H σ S Q hq =>
  h ps H σ S _ fun r v g1 H1 kx e1 ox => kx ps H1 σ (S.to e1) _ fun y w g2 H2 ky e2 oy => by
    obtain ⟨ds, es, rfl, rfl, hd, he, hu, hc, q⟩ := ky
    have e12 := e1.trans e2
    have ox' := ox.ext e2
    cases ox' with
    | v ox' =>
      cases oy with
      | v oy =>
        cases ox' with
        | @lst l xs _ nl pl tl =>
          cases oy with
          | @lst b ys _ nb pb tb =>
            refine ⟨l, b, xs, ys, rfl, rfl, pl, pb, ?_⟩
            have z1 := tl.length
            have z2 := tb.length
            by_cases hz : ds.length = es.length
            · rw [decide_eq_true hz, Bool.true_and] at q
              refine .inr ⟨by omega, fun i H' => Ext (pinW W ps) H2 g2 H' ∧ ((List.zipWith f ds es).take i).all id = true, ⟨Ext.refl e2.j, rfl⟩, fun i H' x => ⟨x.1.keep _ _ nl pl, x.1.keep _ _ nb pb⟩, fun i u v H' iu iv x => ?_, fun H' x => ?_⟩
              · have c1 : i < ds.length := by have := (List.getElem?_eq_some_iff.mp iu).1; omega
                have c2 : i < es.length := by omega
                obtain ⟨u', hu', du⟩ := tl.get (List.getElem?_eq_getElem c1)
                obtain ⟨v', hv', dv⟩ := tb.get (List.getElem?_eq_getElem c2)
                rw [iu] at hu'
                rw [iv] at hv'
                cases hu'
                cases hv'
                have m1 : ds[i] ∈ ds := List.getElem_mem c1
                have m2 : es[i] ∈ es := List.getElem_mem c2
                have zg : (List.zipWith f ds es)[i]? = some (f ds[i] es[i]) := by
                  rw [List.getElem?_zipWith, List.getElem?_eq_getElem c1, List.getElem?_eq_getElem c2]
                obtain ⟨fs, ef⟩ := hd _ m1
                obtain ⟨gs, eg⟩ := he _ m2
                have hu1 := hu _ m1 _ m2
                have hc1 := hc _ m1 _ m2
                have du' := du.ext x.1
                have dv' := dv.ext x.1
                generalize ds[i] = d1 at *
                generalize es[i] = d2 at *
                subst ef
                subst eg
                have du2 := du'
                have dv2 := dv'
                cases du' with
                | @ins p dx _ vs _ np hp tp =>
                  cases dv' with
                  | @ins p2 dx2 _ vs2 _ np2 hp2 tp2 =>
                    refine ⟨p, p2, dx, dx2, vs, vs2, rfl, rfl, hp, hp2, fun epq => ⟨x.1, ?_⟩, ?_⟩
                    · subst epq
                      rw [all_take zg x.2]
                      exact hu1 _ _ _ du2 dv2
                    · refine ⟨_, g2, _, fun d g3 => d = .bl (f (.ins C fs) (.ins C gs)) ∧ g3 = g2, _, .cons (.v du2) (.cons (.v dv2) .nil), x.1.j, hc1 _ (S.to e12).in_ _ ⟨rfl, rfl⟩, fun d w g' H'' kd e3 od => ?_, fun c g' H' z => z.elim⟩
                      obtain ⟨rfl, rfl⟩ := kd
                      cases od
                      refine ⟨_, rfl, ?_⟩
                      cases hf : f (.ins C fs) (.ins C gs) with
                      | true =>
                        rw [hf] at zg
                        exact .inl ⟨rfl, x.1.trans e3, all_take zg x.2⟩
                      | false =>
                        rw [hf] at zg
                        rw [all_false zg, Bool.xor_false] at q
                        exact .inr ⟨rfl, ⟨x.1.trans e3, x.2⟩, hq _ _ _ _ q (e12.trans (x.1.trans e3)) (.v (.bl _))⟩
              · have ha := x.2
                rw [List.take_of_length_le (by rw [List.length_zipWith]; omega)] at ha
                rw [ha, Bool.xor_true] at q
                exact hq _ _ _ _ q (e12.trans x.1) (.v (.bl _))
            · rw [decide_eq_false hz, Bool.false_and, Bool.xor_false] at q
              exact .inl ⟨by omega, hq _ _ _ _ q e12 (.v (.bl _))⟩
end
end TL
set_option Elab.async false
set_option linter.all false
set_option maxRecDepth 100000
set_option maxHeartbeats 1000000
/-! zip of a tuple with a list, at the library's level -/
namespace TLZ
open PySem RZ
open PySem.Sem (wp)
section
variable {prog : Program} {w : World} {A : Around} {E : Value → Shared → Prop} {s : Shared}
theorem zm_item {z TI TO i1 i2 l1 l2 : Addr} {k1 k2 : Nat} {xs ys : Array Value} {x y a b : Value} {Q : Value → Shared → Prop} (D : ZipApart z TI TO i1 i2 l1 l2)
    (zz : IsZip s.heap z TI TO .none) (tI : IsPair s.heap TI (.ref i1) (.ref i2)) (tO : IsPair s.heap TO a b)
    (u1 : s.heap.IsTupleIter i1 l1 k1) (u2 : s.heap.IsListIter i2 l2 k2) (m1 : s.heap.IsTuple l1 xs) (m2 : s.heap.IsList l2 ys) (hx : xs[k1]? = some x) (hy : ys[k2]? = some y)
    (hQ : ∀ h', IsZip h' z TI TO (rawInt s.heap.objs.size) → IsPair h' TO x y → h'.IsTupleIter i1 l1 (k1 + 1) → h'.IsListIter i2 l2 (k2 + 1) → IsPair h' s.heap.objs.size x y → h'.objs.size = s.heap.objs.size + 1 →
      (∀ c o, c ≠ z → c ≠ TO → c ≠ i1 → c ≠ i2 → s.heap.get? c = some o → h'.get? c = some o) → Q (.ref s.heap.objs.size) { s with heap := h' }) :
    wpAny (model prog w) A (Builtin.«zip.__next__» ⟨[.ref z], []⟩) (fun fin s' => ∃ v, fin = .done (.ret v) ∧ Q v s') E s := by
  show wpAny _ _ (field (.ref z) 2 >>= _) _ _ _
  refine wpAny_bind (wpAny_field zz rfl (x := .bool false) rfl ?_)
  show wpAny _ _ (field (.ref z) 3 >>= _) _ _ _
  refine wpAny_bind (wpAny_field zz rfl (x := .ref TI) rfl ?_)
  refine wpAny_bind (wpAny_seqItems tI rfl ?_)
  show wpAny _ _ (Builtin.SmallTypes.ownedTupleIsFree (.ref z) >>= _) _ _ _
  refine wpAny_bind ?_
  unfold Builtin.SmallTypes.ownedTupleIsFree
  refine wpAny_bind (wpAny_field zz rfl (x := .none) rfl (wpAny_pure ?_))
  simp only [if_true]
  refine wpAny_bind (wpAny_rule ?_)
  refine wpAny_bind (wpAny_field zz rfl (x := .ref TO) rfl ?_)
  refine wpAny_bind (wpAny_setField_rec zz (by simp) fun h₁ zz₁ hs₁ => ?_)
  replace zz₁ : IsZip h₁ z TI TO .ellipsis := zz₁
  refine wpAny_bind ?_
  simp only [List.zipIdx_cons, List.zipIdx_nil, List.forIn_cons, List.forIn_nil]

  refine wpAny_bind (wpAny_bind (wpAny_onRaise ?_))
  show wpAny _ _ (Builtin.SmallTypes.nextOf (.ref i1) >>= _) _ _ _
  refine wpAny_bind (nextOf_tuple_item (u1.extBut hs₁.extBut D.i1z) (m1.extBut hs₁.extBut D.l1z) hx fun h₂ u1₂ hs₂ => wpAny_pure ?_)
  have tO₂ : IsPair h₂ TO a b := hs₂.extBut _ _ D.TOi1 (hs₁.extBut _ _ D.TOz tO)
  refine wpAny_bind (wpAny_seqItems tO₂ rfl ?_)
  refine wpAny_bind (wpAny_updateSeq_pair tO₂ fun h₃ tO₃ hs₃ => ?_)
  replace tO₃ : IsPair h₃ TO x b := tO₃
  refine wpAny_bind (wpAny_letGo (wpAny_pure ?_))

  refine wpAny_bind (wpAny_bind (wpAny_onRaise ?_))
  show wpAny _ _ (Builtin.SmallTypes.nextOf (.ref i2) >>= _) _ _ _
  refine wpAny_bind (wpAny_nextOf_list_item (((u2.extBut hs₁.extBut D.i2z).extBut hs₂.extBut D.i12.symm).extBut hs₃.extBut D.TOi2.symm)
    (((m2.extBut hs₁.extBut D.l2z).extBut hs₂.extBut D.l2i1).extBut hs₃.extBut D.l2TO) hy fun h₄ u2₄ hs₄ => wpAny_pure ?_)
  have tO₄ : IsPair h₄ TO x b := hs₄.extBut _ _ D.TOi2 tO₃
  refine wpAny_bind (wpAny_seqItems tO₄ rfl ?_)
  refine wpAny_bind (wpAny_updateSeq_pair tO₄ fun h₅ tO₅ hs₅ => ?_)
  replace tO₅ : IsPair h₅ TO x y := tO₅
  refine wpAny_bind (wpAny_letGo (wpAny_pure (wpAny_pure ?_)))

  refine wpAny_bind (wpAny_seqItems tO₅ rfl ?_)
  refine wpAny_bind (wpAny_newTuple ?_)
  have hsz : h₅.objs.size = s.heap.objs.size := by rw [hs₅.1, hs₄.1, hs₃.1, hs₂.1, hs₁.1]
  have zz₅ : IsZip h₅ z TI TO .ellipsis := hs₅.extBut _ _ D.TOz.symm (hs₄.extBut _ _ D.i2z.symm (hs₃.extBut _ _ D.TOz.symm (hs₂.extBut _ _ D.i1z.symm zz₁)))
  have hk₅ : ∀ c o, c ≠ z → c ≠ TO → c ≠ i1 → c ≠ i2 → s.heap.get? c = some o → h₅.get? c = some o := fun c o c1 c2 c3 c4 e =>
    hs₅.extBut _ _ c2 (hs₄.extBut _ _ c4 (hs₃.extBut _ _ c2 (hs₂.extBut _ _ c3 (hs₁.extBut _ _ c1 e))))
  have u1₅ : h₅.IsTupleIter i1 l1 (k1 + 1) := ((u1₂.extBut hs₃.extBut D.TOi1.symm).extBut hs₄.extBut D.i12).extBut hs₅.extBut D.TOi1.symm
  have u2₅ : h₅.IsListIter i2 l2 (k2 + 1) := u2₄.extBut hs₅.extBut D.TOi2.symm
  have hzlt : z < h₅.objs.size := Heap.lt_size zz₅
  have hTOlt : TO < h₅.objs.size := Heap.lt_size tO₅
  have hi1lt : i1 < h₅.objs.size := by obtain ⟨_, e, _⟩ := u1₅; exact Heap.lt_size e
  have hi2lt : i2 < h₅.objs.size := by obtain ⟨_, e, _⟩ := u2₅; exact Heap.lt_size e
  show wpAny _ _ (Builtin.SmallTypes.ownedTupleHandOut (.ref z) (.ref h₅.objs.size) >>= _) _ _ _
  refine wpAny_bind ?_
  unfold Builtin.SmallTypes.ownedTupleHandOut
  have zz₆ : IsZip (h₅.push { cls := .type "tuple", data := .seq #[x, y] }) z TI TO .ellipsis := Heap.get?_push_of_some _ zz₅
  refine wpAny_bind (wpAny_setField_rec zz₆ (by simp) fun h₇ zz₇ hs₇ => ?_)
  replace zz₇ : IsZip h₇ z TI TO (rawInt h₅.objs.size) := zz₇
  refine wpAny_setField_rec zz₇ (by simp) fun h₈ zz₈ hs₈ => ?_
  replace zz₈ : IsZip h₈ z TI TO (rawInt h₅.objs.size) := zz₈
  have up : ∀ c o, c ≠ z → h₅.get? c = some o → h₈.get? c = some o := fun c o c1 e => hs₈.extBut _ _ c1 (hs₇.extBut _ _ c1 (Heap.get?_push_of_some _ e))
  have hT₈ : IsPair h₈ h₅.objs.size x y := hs₈.extBut _ _ (Nat.ne_of_gt hzlt) (hs₇.extBut _ _ (Nat.ne_of_gt hzlt) (Heap.get?_push_size _ rfl))
  have hz8 : h₈.objs.size = h₅.objs.size + 1 := by rw [hs₈.1, hs₇.1, Heap.size_push]
  rw [hsz] at zz₈ hT₈ hz8
  refine wpAny_pure ⟨_, rfl, ?_⟩
  show Q (.ref h₅.objs.size) _
  rw [hsz]
  exact hQ h₈ zz₈ (up _ _ D.TOz tO₅) (u1₅.at fun o e => up _ o D.i1z e) (u2₅.at fun o e => up _ o D.i2z e) hT₈ hz8 fun c o c1 c2 c3 c4 e => up c o c1 (hk₅ c o c1 c2 c3 c4 e)

theorem zm_end {z TI TO i1 i2 l1 l2 : Addr} {k1 k2 : Nat} {xs ys : Array Value} {a b : Value} {Q : Fin → Shared → Prop} (hh : A.handled = none) (D : ZipApart z TI TO i1 i2 l1 l2)
    (zz : IsZip s.heap z TI TO .none) (tI : IsPair s.heap TI (.ref i1) (.ref i2)) (tO : IsPair s.heap TO a b)
    (u1 : s.heap.IsTupleIter i1 l1 k1) (u2 : s.heap.IsListIter i2 l2 k2) (m1 : s.heap.IsTuple l1 xs) (m2 : s.heap.IsList l2 ys) (hend : xs[k1]? = none ∨ ys[k2]? = none)
    (hE : ∀ h' e, (∀ c o, c ≠ z → c ≠ TO → c ≠ i1 → c ≠ i2 → s.heap.get? c = some o → h'.get? c = some o) → (∃ o, h'.get? e = some o ∧ o.cls = .type "StopIteration") → E (.ref e) { s with heap := h' }) :
    wpAny (model prog w) A (Builtin.«zip.__next__» ⟨[.ref z], []⟩) Q E s := by
  show wpAny _ _ (field (.ref z) 2 >>= _) _ _ _
  refine wpAny_bind (wpAny_field zz rfl (x := .bool false) rfl ?_)
  show wpAny _ _ (field (.ref z) 3 >>= _) _ _ _
  refine wpAny_bind (wpAny_field zz rfl (x := .ref TI) rfl ?_)
  refine wpAny_bind (wpAny_seqItems tI rfl ?_)
  show wpAny _ _ (Builtin.SmallTypes.ownedTupleIsFree (.ref z) >>= _) _ _ _
  refine wpAny_bind ?_
  unfold Builtin.SmallTypes.ownedTupleIsFree
  refine wpAny_bind (wpAny_field zz rfl (x := .none) rfl (wpAny_pure ?_))
  simp only [if_true]
  refine wpAny_bind (wpAny_rule ?_)
  refine wpAny_bind (wpAny_field zz rfl (x := .ref TO) rfl ?_)
  refine wpAny_bind (wpAny_setField_rec zz (by simp) fun h₁ zz₁ hs₁ => ?_)
  replace zz₁ : IsZip h₁ z TI TO .ellipsis := zz₁
  refine wpAny_bind ?_
  simp only [List.zipIdx_cons, List.zipIdx_nil, List.forIn_cons, List.forIn_nil]
  refine wpAny_bind (wpAny_bind (wpAny_onRaise ?_))
  show wpAny _ _ (Builtin.SmallTypes.nextOf (.ref i1) >>= _) _ _ _
  cases hx : xs[k1]? with
  | none =>
    refine wpAny_bind (nextOf_tuple_end hh (u1.extBut hs₁.extBut D.i1z) (m1.extBut hs₁.extBut D.l1z) hx fun h₂ e hs₂ he => ?_)
    obtain ⟨oe, hoe, hce⟩ := he
    have zz₂ : IsZip h₂ z TI TO .ellipsis := hs₂ _ _ D.i1z.symm zz₁
    have hez : e ≠ z := fun x => by subst x; rw [zz₂] at hoe; cases hoe; simp at hce
    refine wpAny_setField_rec zz₂ (by simp) fun h₃ _ hs₃ => hE h₃ e (fun c o c1 _ c3 _ x => hs₃.extBut _ _ c1 (hs₂ _ _ c3 (hs₁.extBut _ _ c1 x))) ⟨oe, hs₃.extBut _ _ hez hoe, hce⟩
  | some x =>
    have hy : ys[k2]? = none := by rcases hend with h | h; rw [hx] at h; cases h; exact h
    refine wpAny_bind (nextOf_tuple_item (u1.extBut hs₁.extBut D.i1z) (m1.extBut hs₁.extBut D.l1z) hx fun h₂ u1₂ hs₂ => wpAny_pure ?_)
    have tO₂ : IsPair h₂ TO a b := hs₂.extBut _ _ D.TOi1 (hs₁.extBut _ _ D.TOz tO)
    refine wpAny_bind (wpAny_seqItems tO₂ rfl ?_)
    refine wpAny_bind (wpAny_updateSeq_pair tO₂ fun h₃ tO₃ hs₃ => ?_)
    refine wpAny_bind (wpAny_letGo (wpAny_pure ?_))
    refine wpAny_bind (wpAny_bind (wpAny_onRaise ?_))
    show wpAny _ _ (Builtin.SmallTypes.nextOf (.ref i2) >>= _) _ _ _
    refine wpAny_bind (wpAny_nextOf_list_end hh (((u2.extBut hs₁.extBut D.i2z).extBut hs₂.extBut D.i12.symm).extBut hs₃.extBut D.TOi2.symm)
      (((m2.extBut hs₁.extBut D.l2z).extBut hs₂.extBut D.l2i1).extBut hs₃.extBut D.l2TO) hy fun h₄ e hs₄ he => ?_)
    obtain ⟨oe, hoe, hce⟩ := he
    have zz₄ : IsZip h₄ z TI TO .ellipsis := hs₄ _ _ D.i2z.symm (hs₃.extBut _ _ D.TOz.symm (hs₂.extBut _ _ D.i1z.symm zz₁))
    have hez : e ≠ z := fun x => by subst x; rw [zz₄] at hoe; cases hoe; simp at hce
    refine wpAny_setField_rec zz₄ (by simp) fun h₅ _ hs₅ => hE h₅ e (fun c o c1 c2 c3 c4 x => hs₅.extBut _ _ c1 (hs₄ _ _ c4 (hs₃.extBut _ _ c2 (hs₂.extBut _ _ c3 (hs₁.extBut _ _ c1 x))))) ⟨oe, hs₅.extBut _ _ hez hoe, hce⟩

theorem zm_nextItem {z TI TO i1 i2 l1 l2 : Addr} {k1 k2 : Nat} {xs ys : Array Value} {x y a b : Value} {Q : Option Value → Shared → Prop} (D : ZipApart z TI TO i1 i2 l1 l2)
    (zz : IsZip s.heap z TI TO .none) (tI : IsPair s.heap TI (.ref i1) (.ref i2)) (tO : IsPair s.heap TO a b)
    (u1 : s.heap.IsTupleIter i1 l1 k1) (u2 : s.heap.IsListIter i2 l2 k2) (m1 : s.heap.IsTuple l1 xs) (m2 : s.heap.IsList l2 ys) (hx : xs[k1]? = some x) (hy : ys[k2]? = some y)
    (hQ : ∀ h', IsZip h' z TI TO (rawInt s.heap.objs.size) → IsPair h' TO x y → h'.IsTupleIter i1 l1 (k1 + 1) → h'.IsListIter i2 l2 (k2 + 1) → IsPair h' s.heap.objs.size x y → h'.objs.size = s.heap.objs.size + 1 →
      (∀ c o, c ≠ z → c ≠ TO → c ≠ i1 → c ≠ i2 → s.heap.get? c = some o → h'.get? c = some o) → Q (some (.ref s.heap.objs.size)) { s with heap := h' }) :
    wpAny (model prog w) A (pyNext (.ref z)) Q E s := by
  have hT : s.TypeIs (.ref z) "zip" := ⟨_, zz, rfl⟩
  unfold pyNext
  exact wpAny_bind (wpAny_attempt (wpAny_callSpecial?_slot (name := Str.ofString "__next__") hT F.slot_zip_next
    (wpAny_call_entry F.slot_zip_next hT F.entry_zip_next
      (zm_item D zz tI tO u1 u2 m1 m2 hx hy fun h' a1 a2 a3 a4 a5 a6 a7 => wpAny_pure (hQ h' a1 a2 a3 a4 a5 a6 a7)) (F.args_zip_next_1 _))))

theorem zm_nextEnd {z TI TO i1 i2 l1 l2 : Addr} {k1 k2 : Nat} {xs ys : Array Value} {a b : Value} {Q : Option Value → Shared → Prop} (hh : A.handled = none) (D : ZipApart z TI TO i1 i2 l1 l2)
    (zz : IsZip s.heap z TI TO .none) (tI : IsPair s.heap TI (.ref i1) (.ref i2)) (tO : IsPair s.heap TO a b)
    (u1 : s.heap.IsTupleIter i1 l1 k1) (u2 : s.heap.IsListIter i2 l2 k2) (m1 : s.heap.IsTuple l1 xs) (m2 : s.heap.IsList l2 ys) (hend : xs[k1]? = none ∨ ys[k2]? = none)
    (hQ : ∀ h', (∀ c o, c ≠ z → c ≠ TO → c ≠ i1 → c ≠ i2 → s.heap.get? c = some o → h'.get? c = some o) → Q none { s with heap := h' }) : wpAny (model prog w) A (pyNext (.ref z)) Q E s := by
  have hT : s.TypeIs (.ref z) "zip" := ⟨_, zz, rfl⟩
  unfold pyNext
  refine wpAny_bind (wpAny_attempt (wpAny_callSpecial?_slot (name := Str.ofString "__next__") hT F.slot_zip_next
    (wpAny_call_entry F.slot_zip_next hT F.entry_zip_next (zm_end hh D zz tI tO u1 u2 m1 m2 hend fun h' e hk he => ?_) (F.args_zip_next_1 _))))
  obtain ⟨o, ho, hc⟩ := he
  refine wpAny_bind (wpAny_isInstance (T := "StopIteration") (b := true) ⟨o, ho, hc⟩ isSubtype_stop ?_)
  exact wpAny_pure (hQ _ hk)
end

abbrev zmH1 (h : Heap) (l1 : Addr) : Heap := h.push { cls := .type "tuple_iterator", data := .fields #[.ref l1, .int 0 0] }
abbrev zmH2 (h : Heap) (l1 l2 : Addr) : Heap := (zmH1 h l1).push { cls := .type "list_iterator", data := .fields #[.ref l2, .int 0 0] }
abbrev zmH3 (h : Heap) (l1 l2 : Addr) : Heap := (zmH2 h l1 l2).push { cls := .type "tuple", data := .seq #[.ref h.objs.size, .ref (zmH1 h l1).objs.size] }
abbrev zmH4 (h : Heap) (l1 l2 : Addr) : Heap := (zmH3 h l1 l2).push { cls := .type "tuple", data := .seq #[.none, .none] }
abbrev zmH5 (h : Heap) (l1 l2 : Addr) : Heap := (zmH4 h l1 l2).push { cls := .type "zip", data := .fields #[.none, .bool false, .bool false, .ref (zmH2 h l1 l2).objs.size, .ref (zmH3 h l1 l2).objs.size] }

theorem zm_new (l1 l2 : Addr) (xs ys : Array Value) :
    Meets (Builtin.«zip.__new__» ⟨[.type "zip", .ref l1, .ref l2], []⟩) (fun _ R s => s.heap.IsTuple l1 xs ∧ s.heap.IsList l2 ys ∧
      R (.ok (.ret (.ref (zmH4 s.heap l1 l2).objs.size))) { s with heap := zmH5 s.heap l1 l2 }) :=
  .of_wp fun prog w A R s h => by
    obtain ⟨hp, g, d, tk, os⟩ := s; obtain ⟨hl1, hl2, h⟩ := h
    have hsub := sub_zip
    have hL1 : Heap.IsTuple (Shared.heap ⟨hp, g, d, tk, os⟩) l1 xs := hl1
    have hL2 : Heap.IsList (Shared.heap ⟨hp.push { cls := .type "tuple_iterator", data := .fields #[.ref l1, .int 0 0] }, g, d, tk, os⟩) l2 ys := Heap.IsList.push hl2 _
    wp_walk using wpAny_pyIter_tuple hL1, wpAny_pyIter_list hL2
    exact ⟨_, rfl, h⟩

section
variable {prog : Program} {w : World} {A : Around} {E : Value → Shared → Prop} {s : Shared}

theorem call_zm {l1 l2 : Addr} {xs ys : Array Value} {Q : Value → Shared → Prop} (hl1 : s.heap.IsTuple l1 xs) (hl2 : s.heap.IsList l2 ys)
    (h : ∀ h', IsZip h' (s.heap.objs.size + 4) (s.heap.objs.size + 2) (s.heap.objs.size + 3) .none → IsPair h' (s.heap.objs.size + 2) (.ref s.heap.objs.size) (.ref (s.heap.objs.size + 1)) →
      IsPair h' (s.heap.objs.size + 3) .none .none → h'.IsTupleIter s.heap.objs.size l1 0 → h'.IsListIter (s.heap.objs.size + 1) l2 0 → h'.objs.size = s.heap.objs.size + 5 →
      (∀ c o, s.heap.get? c = some o → h'.get? c = some o) → Q (.ref (s.heap.objs.size + 4)) { s with heap := h' }) :
    wpAny (model prog w) A (call (.type "zip") [.ref l1, .ref l2]) Q E s := by
  refine callType_new F.called_zip (by decide) (F.typeCall_zip_2 _ _) (F.newCall_zip_2 _ _) (fun obj => F.args_object_init_3 obj _ _) F.entry_zip_new
    (zm_new l1 l2 xs ys) ⟨hl1, hl2, ?_⟩
  have z1 : (zmH1 s.heap l1).objs.size = s.heap.objs.size + 1 := Heap.size_push ..
  have z2 : (zmH2 s.heap l1 l2).objs.size = s.heap.objs.size + 2 := by rw [Heap.size_push, z1]
  have z3 : (zmH3 s.heap l1 l2).objs.size = s.heap.objs.size + 3 := by rw [Heap.size_push, z2]
  have z4 : (zmH4 s.heap l1 l2).objs.size = s.heap.objs.size + 4 := by rw [Heap.size_push, z3]
  have z5 : (zmH5 s.heap l1 l2).objs.size = s.heap.objs.size + 5 := by rw [Heap.size_push, z4]
  have g5 : (zmH5 s.heap l1 l2).get? (zmH4 s.heap l1 l2).objs.size = some _ := Heap.get?_push_size _ rfl
  have g4 : (zmH5 s.heap l1 l2).get? (zmH3 s.heap l1 l2).objs.size = some _ := Heap.get?_push_of_some _ (Heap.get?_push_size _ rfl)
  have g3 : (zmH5 s.heap l1 l2).get? (zmH2 s.heap l1 l2).objs.size = some _ := Heap.get?_push_of_some _ (Heap.get?_push_of_some _ (Heap.get?_push_size _ rfl))
  have g2 : (zmH5 s.heap l1 l2).get? (zmH1 s.heap l1).objs.size = some _ := Heap.get?_push_of_some _ (Heap.get?_push_of_some _ (Heap.get?_push_of_some _ (Heap.get?_push_size _ rfl)))
  have g1 : (zmH5 s.heap l1 l2).get? s.heap.objs.size = some _ := Heap.get?_push_of_some _ (Heap.get?_push_of_some _ (Heap.get?_push_of_some _ (Heap.get?_push_of_some _ (Heap.get?_push_size _ rfl))))
  show _ ∧ _
  rw [z2, z3, z4] at g5
  rw [z1, z2] at g3
  rw [z3] at g4
  rw [z1] at g2
  rw [z4]
  exact ⟨⟨_, g5, rfl⟩, h _ g5 g3 g4 ⟨_, g1, rfl, rfl⟩ ⟨_, g2, rfl, rfl⟩ z5 fun c o x =>
    Heap.get?_push_of_some _ (Heap.get?_push_of_some _ (Heap.get?_push_of_some _ (Heap.get?_push_of_some _ (Heap.get?_push_of_some _ x))))⟩
end
end TLZ
set_option Elab.async false
set_option linter.all false
set_option maxRecDepth 100000
namespace TL
open PySem PySem.Spec L2 PyProof.Rows
section
/-- a tuple and a list, item by item -/
def ItzM (K : PySem.W.Frag) (a b : Addr) : It :=
  ⟨fun i H => ∃ (xs ys : List V) (x y : V), SqT K H a xs ∧ SqL K H b ys ∧ xs[i]? = some x ∧ ys[i]? = some y,
    fun i H v H' => ∃ T x y, v = .ref T ∧ H T = none ∧ H' = upd H T (.tup [x, y]) ∧ (∀ xs, SqT K H a xs → xs[i]? = some x) ∧ ∀ ys, SqL K H b ys → ys[i]? = some y,
    fun i H => ∃ xs ys : List V, SqT K H a xs ∧ SqL K H b ys ∧ (xs.length ≤ i ∨ ys.length ≤ i)⟩
theorem turn_zipM {P : Program} {w : World} {K : PySem.W.Frag} {elts : List Expr} {kk : Nat} {tpos : Pos} {a b z TI TO i1 i2 : Addr} (D : ZipApart z TI TO i1 i2 a b) :
    Turn P w K (.Tuple elts kk tpos) (ItzM K a b) [z, TI, TO, i1, i2] z (fun i h => IsZip h z TI TO .none ∧ IsPair h TI (.ref i1) (.ref i2) ∧ (∃ x y, IsPair h TO x y) ∧ h.IsTupleIter i1 a i ∧ h.IsListIter i2 b i) where
  mem := by simp
  obj := fun i h st c hc => by
    obtain ⟨zz, tI, ⟨x, y, tO⟩, ⟨o1, e1, _, d1⟩, ⟨o2, e2, _, d2⟩⟩ := st
    have e' : c = z ∨ c = TI ∨ c = TO ∨ c = i1 ∨ c = i2 := by simpa using hc
    rcases e' with q | q | q | q | q
    · rw [q]; exact ⟨_, zz, fun v q => nomatch q⟩
    · rw [q]; exact ⟨_, tI, fun v q => nomatch q⟩
    · rw [q]; exact ⟨_, tO, fun v q => nomatch q⟩
    · rw [q]; exact ⟨o1, e1, fun v q => by rw [d1] at q; cases q⟩
    · rw [q]; exact ⟨o2, e2, fun v q => by rw [d2] at q; cases q⟩
  keep := fun i h h' st k => by
    obtain ⟨zz, tI, ⟨x, y, tO⟩, h1, h2⟩ := st
    exact ⟨k z (by simp) _ zz, k TI (by simp) _ tI, ⟨x, y, k TO (by simp) _ tO⟩, h1.at fun o q => k i1 (by simp) o q, h2.at fun o q => k i2 (by simp) o q⟩
  item := by
    intro X hP hw hK hc i pins s σ H E I hf st hg
    subst hP hw hK
    obtain ⟨zz, tI, ⟨x0, y0, tO⟩, h1, h2⟩ := st
    obtain ⟨xs, ys, x, y, hqx, hqy, hx, hy⟩ := hg
    obtain ⟨its, rv, p, _⟩ := I.tuple hqx
    obtain ⟨its2, rv2, p2, _⟩ := I.list hqy
    obtain ⟨u, hu, ru⟩ := rv.get hx
    obtain ⟨u2, hu2, ru2⟩ := rv2.get hy
    have hzl : z < s.heap.objs.size := Heap.lt_size zz
    refine TLZ.zm_nextItem D zz tI tO h1 h2 p p2.isList (x := u) (y := u2) (by simpa using hu) (by simpa using hu2) fun h' z' TO' h1' h2' hT hsz hk => ?_
    refine ⟨_, rfl, wpAny_letOwnedTupleGo_zip (s := { s with heap := h' }) z' fun h'' z'' sb => ?_⟩
    have hT2 : h''.get? s.heap.objs.size = some { cls := .type "tuple", data := .seq #[u, u2] } := (sb.2 _ (Nat.ne_of_gt hzl)).trans hT
    have new : ObjOk X.prog X.w (upd H s.heap.objs.size (.tup [x, y])) h'' s.heap.objs.size (.tup [x, y]) :=
      ⟨by show 2 ≤ sizeLine; decide, [u, u2], .cons ru (.cons ru2 .nil), ⟨_, hT2, rfl, _, rfl⟩⟩
    have I1 : Inv X pins σ (upd H s.heap.objs.size (.tup [x, y])) { s with heap := h'' } :=
      I.turnedNew (t' := s.toks) (ch := [z, TI, TO, i1, i2]) (fun c o hb q => (sb.2 c (fun q' => hb (by simp [q']))).trans (hk c o (fun q' => hb (by simp [q'])) (fun q' => hb (by simp [q'])) (fun q' => hb (by simp [q'])) (fun q' => hb (by simp [q'])) q)) hf (Nat.le_refl _) new
    refine ⟨.ref s.heap.objs.size, _, I1, rfl, ⟨_, x, y, rfl, I.hok.fresh (Nat.le_refl _), rfl, fun l hl => by rw [I.tuple_inj hl hqx]; exact hx, fun l hl => by rw [I.list_inj hl hqy]; exact hy⟩, ⟨z'', ?_, ⟨u, u2, ?_⟩, ?_, ?_⟩, fun c hcm => ?_⟩
    · exact (sb.2 _ D.TIz).trans (hk _ _ D.TIz D.TITO D.TIi1 D.TIi2 tI)
    · exact (sb.2 _ D.TOz).trans TO'
    · exact h1'.at fun o q => (sb.2 _ D.i1z).trans q
    · exact h2'.at fun o q => (sb.2 _ D.i2z).trans q
    · have hlt : c < s.heap.objs.size := by
        have e' : c = z ∨ c = TI ∨ c = TO ∨ c = i1 ∨ c = i2 := by simpa using hcm
        rcases e' with q | q | q | q | q
        · rw [q]; exact hzl
        · rw [q]; exact Heap.lt_size tI
        · rw [q]; exact Heap.lt_size tO
        · rw [q]; obtain ⟨_, e1, _⟩ := h1; exact Heap.lt_size e1
        · rw [q]; obtain ⟨_, e2, _⟩ := h2; exact Heap.lt_size e2
      rw [upd_ne (Nat.ne_of_lt hlt)]
      exact (hf c hcm).1
  done := by
    intro X hP hw hK hc i pins s σ H E I hf st hg
    subst hP hw hK
    obtain ⟨zz, tI, ⟨x0, y0, tO⟩, h1, h2⟩ := st
    obtain ⟨xs, ys, hqx, hqy, hend⟩ := hg
    obtain ⟨its, rv, p, _⟩ := I.tuple hqx
    obtain ⟨its2, rv2, p2, _⟩ := I.list hqy
    have l1 := rv.length
    have l2 := rv2.length
    have he : its.toArray[i]? = none ∨ its2.toArray[i]? = none := by
      rcases hend with q | q
      · exact .inl (by simp; omega)
      · exact .inr (by simp; omega)
    exact TLZ.zm_nextEnd (I.ok.hd hc) D zz tI tO h1 h2 p p2.isList he fun h' hk => ⟨rfl, I.turnedL (t' := s.toks) (ch := [z, TI, TO, i1, i2]) (fun c o hb q =>
      hk c o (fun q' => hb (by simp [q'])) (fun q' => hb (by simp [q'])) (fun q' => hb (by simp [q'])) (fun q' => hb (by simp [q'])) q) hf⟩
  self := fun A i s Q E st h => wpAny_pyIter_zip st.1 h


/-- zip of a tuple with a list -/
def iZipM (K : PySem.W.Frag) (ta : TA) : TI := fun σ H R => ta σ H fun vs H1 => ∃ a b xs ys, vs = [.ref a, .ref b] ∧ SqT K H1 a xs ∧ SqL K H1 b ys ∧ R (ItzM K a b) H1
theorem pi_zipM {X : Cx} {K : PySem.W.Frag} {e e2 : Expr} {ta : TA} {p pos tpos : Pos} {elts : List Expr} {kk : Nat} (hk : X.K = K) (hg : Gl X "zip") (hm : X.mg "zip" = none) (ha : PA X [e, e2] ta)
    (hs : starEach [e, e2] X.env = (false, eval e X.env) :: starEach [e2] X.env := by rfl) (hpl : (backTo pos (starEach [e2] X.env)).any (·.1) = false := by rfl) :
    PI X (.Tuple elts kk tpos) (.Call (.Name "zip" p) [e, e2] [] pos) (iZipM K ta) := by
  subst hk
  refine ⟨fun pins s σ H R I h => ?_⟩
  refine Call_ (ld_blt I hg hm PyProof.Rows.boot_zip (PyProof.Rows.callWith_type1 (thn (ha.run pos pins s σ H _ I h) fun us s1 ⟨vs, H1, I1, r1, q1⟩ => ?_) hs hpl))
  obtain ⟨a, b, xs, ys, ex, hqx, hqy, q⟩ := q1
  subst ex
  cases r1 with
  | cons r rr =>
    cases rr with
    | cons r' rr =>
      cases rr
      cases r
      cases r'
      have new5 : ∀ c, c ∈ [s1.heap.objs.size + 4, s1.heap.objs.size + 2, s1.heap.objs.size + 3, s1.heap.objs.size, s1.heap.objs.size + 1] → FpOk X pins H1 c := fun c hcm => by
        have hle : s1.heap.objs.size ≤ c := by
          have e' : c = s1.heap.objs.size + 4 ∨ c = s1.heap.objs.size + 2 ∨ c = s1.heap.objs.size + 3 ∨ c = s1.heap.objs.size ∨ c = s1.heap.objs.size + 1 := by simpa using hcm
          rcases e' with z | z | z | z | z <;> rw [z]
          · exact Nat.le_add_right _ _
          · exact Nat.le_add_right _ _
          · exact Nat.le_add_right _ _
          · exact Nat.le_refl _
          · exact Nat.le_add_right _ _
        exact I1.fpOk hle (I1.hok.fresh hle)
      obtain ⟨its, rv, p1, _⟩ := I1.tuple hqx
      obtain ⟨its2, rv2, p2, _⟩ := I1.list hqy
      obtain ⟨o1, ho1, _⟩ := id p1
      refine TLZ.call_zm (show s1.heap.IsTuple a its.toArray from p1) p2.isList fun h' zz tI tO h1 h2 hsz hk => wpAny_pyIter_zip zz ?_
      have I2 : Inv X pins σ H1 { s1 with heap := h' } := I1.kept (t' := s1.toks) hk
      exact ⟨s1.heap.objs.size + 4, [s1.heap.objs.size + 4, s1.heap.objs.size + 2, s1.heap.objs.size + 3, s1.heap.objs.size, s1.heap.objs.size + 1], _, _, H1, rfl, I2, turn_zipM (PySem.W.ktu_apart s1.heap.objs.size a b (Heap.lt_size ho1) p2.lt), ⟨zz, tI, ⟨_, _, tO⟩, h1, h2⟩, new5, q⟩
end
section
variable {G : Type} [Gh G] {W : Wd G} {g : G} {H0 : Hp} {ρ : Rho} {tg : TA} {F : PySem.W.Frag}
theorem i_zipM {k : List D → G → Prop} (h : wpA W H0 g ρ tg fun rs g1 => ∃ ds es : List D, rs = [.v (.tup ds), .v (.lst es)] ∧ k (pairs ds es) g1) : wpI W H0 g ρ (iZipM F tg) k := fun ps H σ S R hR => h ps H σ S _ fun rs vs g1 H1 q e o => by
  obtain ⟨ds, es, rfl, q⟩ := q
  obtain ⟨v, u, rfl, o1, o2⟩ := o.two
  cases o1 with
  | v o1 =>
    cases o2 with
    | v o2 =>
      cases o1 with
      | @tup a xs _ m p t =>
        cases o2 with
        | @lst b ys _ m' p' t' =>
          refine ⟨a, b, xs, ys, rfl, .inl (.inl p), .inl (.inl p'), hR _ _ _ H1 q e ⟨fun ps' _ H' n j i d hd => ?_, fun ps' _ H' n j => ?_⟩⟩
          · obtain ⟨x, y, hx, hy, rfl⟩ := pairs_get hd
            have pa := n.keep a _ m p
            have pb := n.keep b _ m' p'
            obtain ⟨w, hw, r⟩ := (n.dtL t).get hx
            obtain ⟨w', hw', r'⟩ := (n.dtL t').get hy
            refine ⟨⟨xs, ys, w, w', .inl (.inl pa), .inl (.inl pb), hw, hw'⟩, fun z H2 yl => ?_⟩
            obtain ⟨T, x1, y1, rfl, hT, rfl, q1, q2⟩ := yl
            have e1 := q1 xs (.inl (.inl pa))
            have e2 := q2 ys (.inl (.inl pb))
            rw [hw] at e1
            rw [hw'] at e2
            cases e1
            cases e2
            have ex := Ext.new (W := pinW W ps') (o := .tup [w, w']) j hT
            exact ⟨ex, .tup (j.nn hT) upd_same (.cons (r.ext ex) (.cons (r'.ext ex) .nil))⟩
          · refine ⟨xs, ys, .inl (.inl (n.keep a _ m p)), .inl (.inl (n.keep b _ m' p')), ?_⟩
            rw [t.length, t'.length, pairs_len]
            omega
end
section
variable {G : Type} [Gh G] {W : Wd G} {g : G} {H0 : Hp} {ρ : Rho} {tv : TE}
/-- a dict of one entry -/
theorem e_dic1 {x : Str} {k : Rs → G → Prop} (h : wpE W H0 g ρ tv fun r g1 => ∃ d, r = .v d ∧ k (.v (.dic [.inr x] [d])) g1) : wpE W H0 g ρ (tDisp [(tC (.str x), tv)]) k := fun ps H σ S Q hq => fun p hp => by
  have nM : ¬ (pinW W ps).M p := S.j.nn hp
  obtain ⟨S1, n1⟩ := S.grow (o := some (.dK [])) (Ext.new S.j hp) hp upd_same rfl
  have up : ∀ a, a ≠ p → ∀ g u, (pinW W ((p, some (.dK [])) :: ps)) g a u ↔ (pinW W ps) g a u := fun a ha g u => by
    constructor
    · rintro (⟨q, h, z⟩ | h)
      · rcases List.mem_cons.mp h with h | h
        · cases h; exact absurd rfl ha
        · exact .inl ⟨q, h, z⟩
      · exact .inr h
    · rintro (⟨q, h, z⟩ | h)
      · exact .inl ⟨q, List.mem_cons_of_mem _ h, z⟩
      · exact .inr h
  have upM : ∀ a, a ≠ p → (¬ (pinW W ((p, some (.dK [])) :: ps)).M a ↔ ¬ (pinW W ps).M a) := fun a ha => not_congr ⟨fun ⟨g, u, z⟩ => ⟨g, u, (up a ha g u).mp z⟩, fun ⟨g, u, z⟩ => ⟨g, u, (up a ha g u).mpr z⟩⟩
  refine h _ _ σ S1 _ fun r v g1 H1 ⟨d, er, q⟩ e1 o => ?_
  subst er
  have hp1 : H1 p = some (.dK []) := (S1.to e1).pin List.mem_cons_self
  refine ⟨hp1, [(.inr x, v)], rfl, Nat.le_of_ble_eq_true rfl, ?_⟩
  have e2 : Ext (pinW W ps) H g1 (upd H1 p (.dK (mergeK [] [(.inr x, v)]))) := by
    refine ⟨fun a u m z => ?_, fun a m => ?_⟩
    · have ha : a ≠ p := ne_of_none z hp
      rw [upd_ne ha]
      exact e1.keep a u ((upM a ha).mpr m) (by rw [upd_ne ha]; exact z)
    · have ha : a ≠ p := fun z => nM (z ▸ m)
      obtain ⟨g', u', m⟩ := m
      obtain ⟨u, z, w⟩ := e1.j a ⟨g', u', (up a ha g' u').mpr m⟩
      exact ⟨u, by rw [upd_ne ha]; exact z, (up a ha g1 u).mp w⟩
  cases o with
  | v o =>
    refine hq _ _ g1 _ q e2 (.v (.dic (kvs := [(.inr x, v)]) nM upd_same rfl (.cons (Dt.mono (fun a u m z => ?_) _ _ o) .nil)))
    have ha : a ≠ p := fun z => m (by subst z; exact pin_in List.mem_cons_self)
    exact ⟨(upM a ha).mp m, by rw [upd_ne ha]; exact z⟩
end
end TL
set_option Elab.async false
set_option linter.all false
set_option maxRecDepth 100000
namespace TL
open PySem PySem.Spec L2
theorem ixN_nat {n i : Nat} (h : i < n) : ixN n (i : Int) = some i := by
  unfold ixN
  rw [if_pos (by omega), if_pos (by omega)]
  rfl
theorem atI_nat {α : Type} {ds : List α} {i : Nat} {d : α} (h : ds[i]? = some d) : L2.atI ds (i : Int) = some d := by
  unfold L2.atI
  rw [ixN_nat (List.getElem?_eq_some_iff.mp h).1]
  exact h
theorem atI_ok {α : Type} {ds : List α} {i : Int} (h0 : 0 ≤ i) (h1 : i < (ds.length : Int)) : ∃ d, ds[i.toNat]? = some d ∧ d ∈ ds ∧ L2.atI ds i = some d := by
  have hl : i.toNat < ds.length := by omega
  have e := List.getElem?_eq_getElem hl
  refine ⟨_, e, List.getElem_mem hl, ?_⟩
  have := atI_nat e
  rw [show ((i.toNat : Nat) : Int) = i by omega] at this
  exact this
theorem cutFrom (m : Nat) (ds : List D) : TL.cut ds (some (m : Int)) none = ds.drop m := by
  unfold TL.cut
  have e : HT.sIx ds.length 0 (some (m : Int)) = min m ds.length := HT.sIx_nat ds.length 0 m
  have e0 : HT.sIx ds.length ds.length none = ds.length := rfl
  rw [e, e0]
  rcases Nat.le_total m ds.length with h | h
  · rw [Nat.min_eq_left h, List.take_of_length_le (by rw [List.length_drop]; exact Nat.le_refl _)]
  · rw [Nat.min_eq_right h, List.drop_length, List.take_nil, List.drop_of_length_le h]
theorem cutMem {ds : List D} {lo hi : Option Int} {d : D} (h : d ∈ cut ds lo hi) : d ∈ ds := List.mem_of_mem_drop (List.mem_of_mem_take h)
theorem cutLen (ds : List D) (lo hi : Option Int) : (cut ds lo hi).length ≤ ds.length := by
  unfold cut
  rw [List.length_take, List.length_drop]; omega
section
variable {G : Type} [Gh G] {W : Wd G} {g : G} {H0 : Hp} {ρ : Rho}
theorem e_dict0 {k : Rs → G → Prop} (q : k (.v .emp) g) : wpE W H0 g ρ tDNewK k := fun ps H σ S Q hq => fun d hd => hq _ _ g _ q (Ext.new S.j hd) (.v (.emp (S.j.nn hd) upd_same))
end
theorem inV_no (bs : List Bool) : inV (V.bl false) (bs.map V.bl) = !bs.all id := by
  induction bs with
  | nil => rfl
  | cons b bs ih =>
    show (eqV (V.bl b) (V.bl false) || inV (V.bl false) (bs.map V.bl)) = !(b && bs.all id)
    rw [ih]
    cases b <;> rfl
theorem inV_yes (bs : List Bool) : inV (V.bl true) (bs.map V.bl) = bs.any id := by
  induction bs with
  | nil => rfl
  | cons b bs ih =>
    show (eqV (V.bl b) (V.bl true) || inV (V.bl true) (bs.map V.bl)) = (b || bs.any id)
    rw [ih]
    cases b <;> rfl
/-- False not in a list of bools -/
theorem p_noFalse {K : PySem.W.Frag} {y : Rs} {bs : List Bool} {k : Rs → Prop} (l : SeqOf y (bs.map D.bl)) (q : k (.v (.bl (bs.all id)))) : wp2 (rIn K true) (.v (.bl false)) y k := by
  refine p_notin (us := bs.map V.bl) rfl rfl rfl l ?_ ?_ ?_
  · rw [List.map_map, List.map_map]; rfl
  · rw [List.all_map]; exact List.all_eq_true.mpr fun b _ => rfl
  · rw [inV_no, Bool.not_not]; exact q
theorem ne_other {K : PySem.W.Frag} {C E : Addr} (h : PySem.W.subIn K (.ref C) (.ref C) = some true) (h' : PySem.W.subIn K (.ref C) (.ref E) = some false) : C ≠ E := fun e => by
  subst e
  rw [h] at h'; cases h'
theorem kit_other {K : PySem.W.Frag} {C E : Addr} (h : PySem.W.subIn K (.ref C) (.ref C) = some true) (h' : PySem.W.subIn K (.ref C) (.ref E) = some false) (hd : PySem.W.hasDictIn K E = true) (ty : PySem.W.typeIn K (.ref E) = some (.type "type")) : PySem.W.kitOne K (.ref C) (.ref E) = some false :=
  OwnC.kit ⟨hd, ty⟩ (beq_eq_false_iff_ne.mpr fun e => ne_other h h' (Value.ref.inj e)) h'
theorem nf_builtin {K : PySem.W.Frag} {C : Addr} : ∀ t ∈ ["NoneType", "bool", "int", "str", "list", "tuple", "dict"], PySem.W.notFirst K C (.type t) = true := fun t ht => by
  unfold PySem.W.notFirst
  rw [sub_builtin K C t ht]; simp
end TL
set_option Elab.async false
set_option linter.all false
set_option maxRecDepth 100000
namespace TL
open PySem PySem.Spec L2
/-! ### a new list that stands in another list and is changed there: the world is widened by it -/
/-- at q stands ys while the ghost is at most g1, some list behind that -/
def wide (W : Wd Nat) (q : Addr) (ys : List V) (g1 : Nat) : Wd Nat := fun g b o => W g b o ∨ (b = q ∧ (o = .lst ys ∨ (g1 < g ∧ ∃ zs, o = .lst zs)))
section
variable {W : Wd Nat} {q p : Addr} {ys : List V} {g g1 g2 : Nat} {H0 H H1 H2 : Hp} {ps ps' : Pins} {σ : L2.St} {ρ : Rho}
theorem wide_q : (wide W q ys g1).M q := ⟨0, .lst ys, .inr ⟨rfl, .inl rfl⟩⟩
theorem wide_m {a : Addr} (h : W.M a) : (wide W q ys g1).M a := by
  obtain ⟨g, o, h⟩ := h
  exact ⟨g, o, .inl h⟩
theorem wide_M {a : Addr} : (wide W q ys g1).M a ↔ (W.M a ∨ a = q) := by
  constructor
  · rintro ⟨g, o, h | ⟨h, _⟩⟩
    · exact .inl ⟨g, o, h⟩
    · exact .inr h
  · rintro (h | rfl)
    · exact wide_m h
    · exact wide_q
theorem wide_ne {a : Addr} (h : a ≠ q) {g : Nat} {o : HO} : wide W q ys g1 g a o ↔ W g a o := ⟨fun z => by
  rcases z with z | ⟨z, _⟩
  · exact z
  · exact absurd z h, .inl⟩
theorem wide_up (u : Up W) : Up (wide W q ys g1) := fun g g' a o l w => by
  rcases w with w | ⟨e, w | ⟨h, w⟩⟩
  · exact .inl (u g g' a o l w)
  · exact .inr ⟨e, .inl w⟩
  · exact .inr ⟨e, .inr ⟨Nat.lt_of_lt_of_le h l, w⟩⟩
theorem wide_tp (t : Tp W p) (n : ¬ W.M q) : Tp (wide W q ys g1) p := fun g o => by
  have h : p ≠ q := fun e => n (e ▸ t.m)
  rw [wide_ne h]; exact t g o
/-- pins and widening -/
theorem pin_wide {a : Addr} (h : a ≠ q) {g : Nat} {o : HO} : (pinW (wide W q ys g1) ps) g a o ↔ (pinW W ps) g a o := by
  constructor
  · rintro (z | z)
    · exact .inl z
    · exact .inr ((wide_ne h).mp z)
  · rintro (z | z)
    · exact .inl z
    · exact .inr ((wide_ne h).mpr z)
theorem pin_wideM {a : Addr} : (pinW (wide W q ys g1) ps).M a ↔ ((pinW W ps).M a ∨ a = q) := by
  by_cases h : a = q
  · subst h
    exact ⟨fun _ => .inr rfl, fun _ => pin_m wide_q⟩
  · constructor
    · rintro ⟨g, o, z⟩
      exact .inl ⟨g, o, (pin_wide h).mp z⟩
    · rintro (⟨g, o, z⟩ | z)
      · exact ⟨g, o, (pin_wide h).mpr z⟩
      · exact absurd z h
/-- trees that stood before q was there -/
theorem RsOk.widen {r : Rs} {v : V} (j : (pinW W ps).J g H) (e : Ext (pinW W ps) H g2 H1) (hn : H q = none) (h : RsOk (pinW W ps) H r v) : RsOk (pinW (wide W q ys g1) ps) H1 r v := by
  have mo : ∀ a o, ¬ (pinW W ps).M a → H a = some o → ¬ (pinW (wide W q ys g1) ps).M a ∧ H1 a = some o := fun a o m z => ⟨fun c => by
    rcases pin_wideM.mp c with c | c
    · exact m c
    · exact ne_of_none z hn c, e.keep a o m z⟩
  cases h with
  | v h => exact .v (Dt.mono mo _ _ h)
  | @b ds a xs h1 h2 h3 =>
    have ha : a ≠ q := fun z => by
      obtain ⟨o, e1, _⟩ := j a h1
      rw [z, hn] at e1; cases e1
    exact .b (pin_wideM.mpr (.inl h1)) (fun g o z => h2 g o ((pin_wide ha).mp z)) (DtL.mono mo _ _ h3)
theorem SlOk.widen {s : Sl} {v : Option V} (j : (pinW W ps).J g H) (e : Ext (pinW W ps) H g2 H1) (hn : H q = none) (h : SlOk (pinW W ps) H s v) : SlOk (pinW (wide W q ys g1) ps) H1 s v := by
  cases s with
  | un => trivial
  | tp p => exact h
  | r r => obtain ⟨w, e1, h⟩ := h; exact ⟨w, e1, h.widen j e hn⟩
  | ow ds => obtain ⟨w, e1, h⟩ := h; exact ⟨w, e1, h.widen j e hn⟩
  | oi p C fs =>
    obtain ⟨w, e1, z, h⟩ := h
    refine ⟨w, e1, z, ?_⟩
    cases h with
    | @mk a dx gs h1 h2 h3 =>
      have ha : a ≠ q := fun z => by
        obtain ⟨o, e1, _⟩ := j a h1
        rw [z, hn] at e1; cases e1
      exact .mk (pin_wideM.mpr (.inl h1)) (fun g o z => h2 g o ((pin_wide ha).mp z)) (DtF.mono (fun a o m z => ⟨fun c => by
        rcases pin_wideM.mp c with c | c
        · exact m c
        · exact ne_of_none z hn c, e.keep a o m z⟩) _ _ h3)
theorem Sta.widen (S : Sta W H0 ps g H σ ρ) (e : Ext (pinW W ps) H g2 H1) (hn : H q = none) (hq : H1 q = some (.lst ys)) (hg : g2 ≤ g1) : Sta (wide W q ys g1) H0 ps g2 H1 σ ρ where
  len := S.len
  at_ := fun i s h => by
    obtain ⟨o, e1, k⟩ := S.at_ i s h
    exact ⟨o, e1, k.widen S.j e hn⟩
  nd := S.nd
  out := fun p h => ⟨(S.out p h).1, fun c => by
    rcases wide_M.mp c with c | c
    · exact (S.out p h).2 c
    · exact S.pinN (a := p.1) (q := p.2) h (by rw [c]; exact hn)⟩
  own := S.own
  one := S.one
  lent := fun i ds h => by
    obtain ⟨a, e1, m⟩ := S.lent i ds h
    exact ⟨a, e1, wide_m m⟩
  ext := by
    refine ⟨fun a o m z => ?_, fun a m => ?_⟩
    · have m' : ¬ (pinW W ps).M a := fun c => m (pin_wideM.mpr (.inl c))
      exact e.keep a o m' (S.ext.keep a o m' z)
    · by_cases ha : a = q
      · subst ha
        exact ⟨_, hq, .inr (.inr ⟨rfl, .inl rfl⟩)⟩
      · rcases pin_wideM.mp m with m | m
        · obtain ⟨o, z, w⟩ := e.j a m
          exact ⟨o, z, (pin_wide ha).mpr w⟩
        · exact absurd m ha
/-- back: the list is pinned as it is now -/
theorem wide_at (j : (pinW (wide W q ys g1) ps).J g H) (hp : ∀ u, (q, u) ∉ ps) (hw : ¬ W.M q) : ∃ zs, H q = some (.lst zs) := by
  obtain ⟨o, e, ⟨u, h, _⟩ | h | ⟨_, h | ⟨_, zs, h⟩⟩⟩ := j q (pin_m wide_q)
  · exact absurd h (hp u)
  · exact absurd ⟨_, _, h⟩ hw
  · exact ⟨ys, by rw [e, h]⟩
  · exact ⟨zs, by rw [e, h]⟩
theorem lent_ne {v : V} {ds : List D} (h : RsOk (pinW (wide W q ys g1) ps) H (.b ds) v) : v ≠ .ref q := fun e => by
  subst e
  cases h with
  | b h1 h2 h3 =>
    have a1 := h2 (g1 + 1) (.lst []) (.inr (.inr ⟨rfl, .inr ⟨Nat.lt_succ_self _, _, rfl⟩⟩))
    have a2 := h2 (g1 + 1) (.lst [.non]) (.inr (.inr ⟨rfl, .inr ⟨Nat.lt_succ_self _, _, rfl⟩⟩))
    rw [← a1] at a2
    cases a2
theorem narrowM {a : Addr} {o : HO} {u : Option HO} : (pinW W ((q, u) :: ps)).M a ↔ ((pinW W ps).M a ∨ a = q) := by
  constructor
  · rintro ⟨g, o, ⟨z, h, w⟩ | h⟩
    · rcases List.mem_cons.mp h with h | h
      · cases h; exact .inr rfl
      · exact .inl ⟨g, o, .inl ⟨z, h, w⟩⟩
    · exact .inl ⟨g, o, .inr h⟩
  · rintro (⟨g, o, ⟨z, h, w⟩ | h⟩ | h)
    · exact ⟨g, o, .inl ⟨z, List.mem_cons_of_mem _ h, w⟩⟩
    · exact ⟨g, o, .inr h⟩
    · subst h; exact pin_in List.mem_cons_self
theorem narrow_ne {a : Addr} {u : Option HO} (h : a ≠ q) {g : Nat} {o : HO} : (pinW W ((q, u) :: ps)) g a o ↔ (pinW W ps) g a o := by
  constructor
  · rintro (⟨z, m, w⟩ | z)
    · rcases List.mem_cons.mp m with m | m
      · cases m; exact absurd rfl h
      · exact .inl ⟨z, m, w⟩
    · exact .inr z
  · rintro (⟨z, m, w⟩ | z)
    · exact .inl ⟨z, List.mem_cons_of_mem _ m, w⟩
    · exact .inr z
theorem RsOk.narrow {r : Rs} {v : V} {u : Option HO} (h : RsOk (pinW (wide W q ys g1) ps) H r v) : RsOk (pinW W ((q, u) :: ps)) H r v := by
  have mo : ∀ a o, ¬ (pinW (wide W q ys g1) ps).M a → H a = some o → ¬ (pinW W ((q, u) :: ps)).M a ∧ H a = some o := fun a o m z => ⟨fun c => m (pin_wideM.mpr (narrowM (o := o).mp c)), z⟩
  have h' := h
  cases h with
  | v h => exact .v (Dt.mono mo _ _ h)
  | @b ds a xs h1 h2 h3 =>
    have ha : a ≠ q := fun z => lent_ne h' (by rw [z])
    exact .b (narrowM (o := .lst []).mpr ((pin_wideM.mp h1).elim .inl fun z => absurd z ha)) (fun g o z => h2 g o ((pin_wide ha).mpr ((narrow_ne ha).mp z))) (DtL.mono mo _ _ h3)
theorem SlOk.narrow {s : Sl} {v : Option V} {u : Option HO} (hs : s.own = true → ∀ a, v = some (.ref a) → a ≠ q) (h : SlOk (pinW (wide W q ys g1) ps) H s v) : SlOk (pinW W ((q, u) :: ps)) H s v := by
  cases s with
  | un => trivial
  | tp p => exact h
  | r r => obtain ⟨w, e1, h⟩ := h; exact ⟨w, e1, h.narrow⟩
  | ow ds => obtain ⟨w, e1, h⟩ := h; exact ⟨w, e1, h.narrow⟩
  | oi p C fs =>
    obtain ⟨w, e1, z, h⟩ := h
    refine ⟨w, e1, z, ?_⟩
    cases h with
    | @mk a dx gs h1 h2 h3 =>
      have ha : a ≠ q := hs rfl a e1
      exact .mk (narrowM (o := .lst []).mpr ((pin_wideM.mp h1).elim .inl fun z => absurd z ha)) (fun g o z => h2 g o ((pin_wide ha).mpr ((narrow_ne ha).mp z))) (DtF.mono (fun a o m z => ⟨fun c => m (pin_wideM.mpr (narrowM (o := o).mp c)), z⟩) _ _ h3)
theorem Sta.narrow (S : Sta (wide W q ys g1) H0 ps g H σ ρ) (h0 : H0 q = none) (hw : ¬ W.M q) : ∃ u, Sta W H0 ((q, some u) :: ps) g H σ ρ := by
  have hp : ∀ u, (q, u) ∉ ps := fun u h => (S.out _ h).2 wide_q
  obtain ⟨zs, hz⟩ := wide_at S.j hp hw
  refine ⟨.lst zs, S.len, fun i s h => ?_, ?_, fun p h => ?_, fun i s h hs => ?_, S.one, fun i ds h => ?_, fun a o m z => ?_, fun a m => ?_⟩
  · obtain ⟨o, e1, k⟩ := S.at_ i s h
    refine ⟨o, e1, k.narrow fun hs a ea => ?_⟩
    subst ea
    obtain ⟨b, w, e2, m, _⟩ := S.own i s h hs
    rw [e1] at e2
    cases e2
    exact fun z => hp w (z ▸ m)
  · rw [List.map_cons, List.nodup_cons]
    refine ⟨fun c => ?_, S.nd⟩
    obtain ⟨⟨b, w⟩, m, e⟩ := List.mem_map.mp c
    have e : b = q := e
    subst e
    exact hp w m
  · rcases List.mem_cons.mp h with rfl | h
    · exact ⟨h0, hw⟩
    · exact ⟨(S.out p h).1, fun c => (S.out p h).2 (wide_m c)⟩
  · obtain ⟨b, w, e2, m, e3⟩ := S.own i s h hs
    exact ⟨b, w, e2, List.mem_cons_of_mem _ m, e3⟩
  · obtain ⟨a, e1, m⟩ := S.lent i ds h
    obtain ⟨o, e2, w, e3, k⟩ := S.at_ i _ h
    rw [e1] at e2
    cases e2
    cases e3
    have ha : a ≠ q := fun z => lent_ne k (by rw [z])
    exact ⟨a, e1, (wide_M.mp m).elim id fun z => absurd z ha⟩
  · exact S.ext.keep a o (fun c => m (narrowM (o := o).mpr (pin_wideM.mp c))) z
  · by_cases ha : a = q
    · subst ha
      exact ⟨_, hz, .inl ⟨_, List.mem_cons_self, rfl⟩⟩
    · rcases narrowM (o := .lst []).mp m with m | m
      · obtain ⟨o, z, w⟩ := S.j a (pin_wideM.mpr (.inl m))
        exact ⟨o, z, (narrow_ne ha).mpr ((pin_wide ha).mp w)⟩
      · exact absurd m ha
theorem Nxt.narrow {u : HO} (n : Nxt (wide W q ys g1) ps H1 ps' H2) : Nxt W ((q, some (.lst ys)) :: ps) H1 ((q, some u) :: ps') H2 where
  pins := fun p h => by
    rcases List.mem_cons.mp h with rfl | h
    · exact .inl ⟨_, List.mem_cons_self⟩
    · rcases n.pins p h with ⟨o, h⟩ | h
      · exact .inl ⟨o, List.mem_cons_of_mem _ h⟩
      · exact .inr h
  keep := fun a o m z => n.keep a o (fun c => m (narrowM (o := o).mpr (pin_wideM.mp c))) z
/-- what is wished behind, in the wider world -/
theorem KOk.widen {K : TK Nat} {De : Ends} (S : Sta W H0 ps g H σ ρ) (k : KOk K W H0 ps H De) (e : Ext (pinW W ps) H g2 H1) (hn : H q = none) (hq : H1 q = some (.lst ys)) : KOk K (wide W q ys g1) H0 ps H1 De := by
  have h0 : H0 q = none := S.ext.free hn
  have hw : ¬ W.M q := fun m => S.j.nn hn (pin_m m)
  obtain ⟨S1, n1⟩ := S.grow (o := some (.lst ys)) e hn hq rfl
  have go : ∀ {P : Rho → Nat → Prop} {Q : L2.St → Hp → Prop}, (∀ ps' g' H' σ' ρ', P ρ' g' → Sta W H0 ps' g' H' σ' ρ' → Nxt W ps H ps' H' → Q σ' H') → ∀ ps' g' H' σ' ρ', P ρ' g' → Sta (wide W q ys g1) H0 ps' g' H' σ' ρ' → Nxt (wide W q ys g1) ps H1 ps' H' → Q σ' H' := fun {P Q} h ps' g' H' σ' ρ' q1 S' n => by
    obtain ⟨u, S2⟩ := S'.narrow h0 hw
    exact h _ g' H' σ' ρ' q1 S2 (n1.trans n.narrow S1.j)
  refine ⟨go k.nx, fun d v g' H' q1 e2 t => k.rt d v g' H' q1 ⟨fun a o m z => ?_, fun a m => ?_⟩ (Dt.mono (fun a o m z => ⟨fun c => m (wide_m c), z⟩) _ _ t), go k.bk, go k.ct⟩
  · refine e2.keep a o (fun c => ?_) z
    rcases wide_M.mp c with c | c
    · exact m c
    · exact ne_of_none z h0 c
  · obtain ⟨o, z, w⟩ := e2.j a (wide_m m)
    exact ⟨o, z, (wide_ne fun c => by rw [c] at m; exact hw m).mp w⟩
end
section
variable {W : Wd Nat} {q : Addr} {ys : List V} {g : Nat} {H0 : Hp} {ρ : Rho} {ta tb te : TE} {t : TS} {K : TK Nat} {i : Nat}
/-- x = [new list, e]: the new list may be changed where it stands -/
theorem s_told (M1 : Nat) (h : wpN W H0 g ρ ta fun ds g1 => g1 ≤ M1 ∧ ∀ (q : Addr) (ys : List V), ¬ W.M q → ys.length = ds.length → wpE (wide W q ys M1) H0 g1 ρ tb fun r g2 => ∃ d, r = .v d ∧ wpS (wide W q ys M1) H0 g2 (ρ.set i (.v (.lst [.lnt q ys ds, d]))) t K) :
    wpS W H0 g ρ (tSeq (tAsg (tLst (tCons ta (tCons tb tNil))) (gName i)) t) K := fun ps H σ De S k => h ps H σ S _ fun ds q ys g1 H1 ⟨hg, q1⟩ hn e ha tr => by
  have hw : ¬ W.M q := fun m => S.j.nn hn (pin_m m)
  have S1 := S.widen (g1 := M1) e hn ha hg
  have k1 := k.widen (g1 := M1) S e hn ha
  have tr1 : DtL (pinW (wide W q ys M1) ps).M H1 ds ys := DtL.mono (fun a o m z => ⟨fun c => m (pin_wideM.mp c), z⟩) _ _ tr
  refine q1 q ys hw tr.length ps H1 σ S1 _ fun r v g2 H2 ⟨d, er, q2⟩ e2 o2 => ⟨by show 2 ≤ sizeLine; decide, fun p hp => ?_⟩
  subst er
  have e3 : Ext (pinW (wide W q ys M1) ps) H1 g2 (upd H2 p (.lst [.ref q, v])) := e2.trans (Ext.new e2.j hp)
  have S3 := S1.to e3
  cases o2 with
  | v o2 =>
    have dt : Dt (pinW (wide W q ys M1) ps).M (upd H2 p (.lst [.ref q, v])) (.lst [.lnt q ys ds, d]) (.ref p) := .lst (e2.j.nn hp) upd_same (.cons (.lnt (tr1.ext e3)) (.cons (o2.ext (Ext.new e2.j hp)) .nil))
    exact q2 ps _ _ _ (S3.set dt) (k1.after (Nxt.of e3) e3.j)
end
end TL
set_option Elab.async false
set_option linter.all false
set_option maxRecDepth 100000
namespace TL
open PySem PySem.Spec L2
section
variable {W : Wd Nat} {q p : Addr} {ys : List V} {g g1 g2 M1 : Nat} {H0 H H1 H2 : Hp} {ps ps' : Pins} {σ : L2.St} {ρ : Rho} {F : PySem.W.Frag} {ta tb te : TE} {tg : TA} {K : TK Nat} {ds : List D}
/-- x[0].append(e), x[0] being such a list: it stands changed behind -/
theorem s_appD (u : Up W) (hl : ys.length ≤ 1000000) (h : wpE (wide W q ys M1) H0 g ρ ta fun r g1 => r = .v (.lnt q ys ds) ∧ wpE (wide W q ys M1) H0 g1 ρ te fun r g2 => ∃ d, r = .v d ∧ g2 ≤ M1 ∧ K.nx ρ (M1 + 1)) (hw : ¬ W.M q) :
    wpS (wide W q ys M1) H0 g ρ (tDrop (tBM F "list" rAppend ta (tCons te tNil))) K := fun ps H σ De S k => h ps H σ S _ fun r v g1 H1 ⟨er, q1⟩ e o => by
  subst er
  cases o with
  | v o =>
    cases o with
    | lnt tr =>
      have S1 := S.to e
      have hp : ∀ {H2 : Hp} {g2 : Nat}, Sta (wide W q ys M1) H0 ps g2 H2 σ ρ → ∀ u, (q, u) ∉ ps := fun S u h => (S.out _ h).2 wide_q
      have now : ∀ {H2 : Hp} {g2 : Nat}, g2 ≤ M1 → Sta (wide W q ys M1) H0 ps g2 H2 σ ρ → H2 q = some (.lst ys) := fun {H2 g2} hg S => by
        obtain ⟨o, e, ⟨u, h, _⟩ | h | ⟨_, h | ⟨h, _⟩⟩⟩ := S.j q (pin_m wide_q)
        · exact absurd h (hp S u)
        · exact absurd ⟨_, _, h⟩ hw
        · rw [e, h]
        · omega
      obtain ⟨zs, hz⟩ := wide_at S1.j (hp S1) hw
      refine ⟨.inl ⟨rfl, zs, .inl (.inl hz)⟩, q1 ps H1 σ S1 _ fun r v g2 H2 ⟨d, er, hg, q2⟩ e2 o2 => ?_⟩
      subst er
      have S2 := S1.to e2
      have hx := now hg S2
      have ex : Ext (pinW (wide W q ys M1) ps) H2 (M1 + 1) (upd H2 q (.lst (ys ++ [v]))) := by
        refine ⟨fun a o n z => ?_, fun a m => ?_⟩
        · rw [upd_ne fun c => n (by rw [c]; exact pin_m wide_q)]; exact z
        · by_cases ha : a = q
          · subst ha
            exact ⟨_, upd_same, .inr (.inr ⟨rfl, .inr ⟨Nat.lt_succ_self _, _, rfl⟩⟩)⟩
          · obtain ⟨o, z, w⟩ := S2.j a m
            exact ⟨o, by rw [upd_ne ha]; exact z, (wide_up u).pin _ _ _ _ (show g2 ≤ M1 + 1 by omega) w⟩
      exact ⟨q, ys, v, rfl, rfl, hx, Nat.lt_of_le_of_lt hl (by decide), k.nx _ _ _ _ _ q2 (S2.to ex) (Nxt.of ((e.trans e2).trans ex))⟩
end
/-! ### such lists are read as lists -/
mutual
inductive Dr (P : Addr → List V → Prop) : D → D → Prop
  | same {d : D} : Dr P d d
  | lnt {q : Addr} {ys : List V} {ds : List D} : P q ys → Dr P (.lnt q ys ds) (.lst ds)
  | lst {ds es : List D} : DrL P ds es → Dr P (.lst ds) (.lst es)
  | tup {ds es : List D} : DrL P ds es → Dr P (.tup ds) (.tup es)
inductive DrL (P : Addr → List V → Prop) : List D → List D → Prop
  | nil : DrL P [] []
  | cons {d e : D} {ds es : List D} : Dr P d e → DrL P ds es → DrL P (d :: ds) (e :: es)
end
mutual
theorem Dr.dt {P : Addr → List V → Prop} {M M' : Addr → Prop} {H : Hp} (hm : ∀ a, ¬ M a → ¬ M' a) (hP : ∀ q ys, P q ys → ¬ M' q ∧ H q = some (.lst ys)) : ∀ {d e : D} {v : V}, Dr P d e → Dt M H d v → Dt M' H e v
  | _, _, _, .same, h => Dt.mono (fun a o m z => ⟨hm a m, z⟩) _ _ h
  | _, _, _, .lnt p, h => by
    cases h with
    | lnt t => exact .lst (hP _ _ p).1 (hP _ _ p).2 (DtL.mono (fun a o m z => ⟨hm a m, z⟩) _ _ t)
  | _, _, _, .lst r, h => by
    cases h with
    | lst n e t => exact .lst (hm _ n) e (DrL.dt hm hP r t)
  | _, _, _, .tup r, h => by
    cases h with
    | tup n e t => exact .tup (hm _ n) e (DrL.dt hm hP r t)
theorem DrL.dt {P : Addr → List V → Prop} {M M' : Addr → Prop} {H : Hp} (hm : ∀ a, ¬ M a → ¬ M' a) (hP : ∀ q ys, P q ys → ¬ M' q ∧ H q = some (.lst ys)) : ∀ {ds es : List D} {vs : List V}, DrL P ds es → DtL M H ds vs → DtL M' H es vs
  | _, _, _, .nil, h => by cases h; exact .nil
  | _, _, _, .cons r rs, h => by
    cases h with
    | cons h1 h2 => exact .cons (Dr.dt hm hP r h1) (DrL.dt hm hP rs h2)
end
/-- what stands at q just now -/
def Now (W : Wd Nat) (g : Nat) (q : Addr) (ys : List V) : Prop := W.M q ∧ ∀ o, W g q o → o = .lst ys
theorem now_wide {W : Wd Nat} {q : Addr} {ys : List V} {g M1 : Nat} (hw : ¬ W.M q) (hg : g ≤ M1) : Now (wide W q ys M1) g q ys := ⟨wide_q, fun o w => by
  rcases w with w | ⟨_, w | ⟨h, _⟩⟩
  · exact absurd ⟨_, _, w⟩ hw
  · exact w
  · omega⟩
theorem Fl.dt {M : Addr → Prop} {H : Hp} {d : D} {u : V} (h : Fl d = some u) : Dt M H d u := by
  cases d <;> first | (cases h; constructor) | cases h
section
variable {W : Wd Nat} {g g1 : Nat} {H0 H H1 : Hp} {ps : Pins} {σ : L2.St} {ρ : Rho} {ta tb te : TE} {tg : TA} {k : Rs → Nat → Prop}
/-- the world without what is read so -/
def bare (W : Wd Nat) (P : Addr → Prop) : Wd Nat := fun g b o => W g b o ∧ ¬ P b
theorem bare_ok (S : Sta W H0 ps g H σ ρ) : (bare (pinW W ps) fun b => ∃ ys, Now W g b ys).J g H ∧
    (∀ {d e : D} {v : V}, Dr (Now W g) d e → Dt (pinW W ps).M H d v → Dt (bare (pinW W ps) fun b => ∃ ys, Now W g b ys).M H e v) ∧
    ∀ H1, Ext (bare (pinW W ps) fun b => ∃ ys, Now W g b ys) H g H1 → Ext (pinW W ps) H g H1 := by
  have hm : ∀ a, ¬ (pinW W ps).M a → ¬ (bare (pinW W ps) fun b => ∃ ys, Now W g b ys).M a := fun a n ⟨g', o, h, _⟩ => n ⟨g', o, h⟩
  have np : ∀ q ys, Now W g q ys → ∀ u, (q, u) ∉ ps := fun q ys h u c => (S.out _ c).2 h.1
  have at_ : ∀ q ys, Now W g q ys → H q = some (.lst ys) := fun q ys h => by
    obtain ⟨o, e, ⟨u, c, _⟩ | w⟩ := S.j q (pin_m h.1)
    · exact absurd c (np q ys h u)
    · rw [e, h.2 o w]
  have nb : ∀ q, (∃ ys, Now W g q ys) → ¬ (bare (pinW W ps) fun b => ∃ ys, Now W g b ys).M q := fun q h ⟨_, _, _, n⟩ => n h
  refine ⟨fun a m => ?_, fun r t => r.dt hm (fun q ys h => ⟨nb q ⟨ys, h⟩, at_ q ys h⟩) t, fun H1 e => ⟨fun a o n z => e.keep a o (hm a n) z, fun a m => ?_⟩⟩
  · obtain ⟨g', o', h, n⟩ := m
    obtain ⟨o, e, w⟩ := S.j a ⟨g', o', h⟩
    exact ⟨o, e, w, n⟩
  · by_cases h : ∃ ys, Now W g a ys
    · obtain ⟨o, z, w⟩ := S.j a m
      exact ⟨o, e.keep a o (nb a h) z, w⟩
    · obtain ⟨g', o', m⟩ := m
      obtain ⟨o, z, w⟩ := e.j a ⟨g', o', m, h⟩
      exact ⟨o, z, w.1⟩
inductive DrA (P : Addr → List V → Prop) : List Rs → List Rs → Prop
  | nil : DrA P [] []
  | cons {d e : D} {xs ys : List Rs} : Dr P d e → DrA P xs ys → DrA P (.v d :: xs) (.v e :: ys)
theorem DrA.ok {P : Addr → List V → Prop} {W W' : Wd Nat} {H : Hp} (f : ∀ {d e : D} {v : V}, Dr P d e → Dt W.M H d v → Dt W'.M H e v) : ∀ {xs ys : List Rs} {vs : List V}, DrA P xs ys → RsL W H xs vs → RsL W' H ys vs
  | _, _, _, .nil, h => by cases h; exact .nil
  | _, _, _, .cons r rs, h => by
    cases h with
    | cons h1 h2 =>
      cases h1 with
      | v h1 => exact .cons (.v (f r h1)) (DrA.ok f rs h2)
/-- a flat answer -/
def Flat (z : Rs) : Prop := ∃ d u, z = .v d ∧ Fl d = some u
theorem Flat.ok {z : Rs} {v : V} {W W' : Wd Nat} {H : Hp} (h : Flat z) (o : RsOk W H z v) : RsOk W' H z v := by
  obtain ⟨d, u, rfl, e⟩ := h
  cases o with
  | v o => rw [Fl.ok e o]; exact .v (Fl.dt e)
/-- a built-in call that reads such lists -/
theorem e_cbD {r : List V → Hp → VK → Prop} (h : wpA W H0 g ρ tg fun xs g1 => ∃ xs', DrA (Now W g1) xs xs' ∧ wpC r xs' fun z => Flat z ∧ k z g1) : wpE W H0 g ρ (tCB r tg) k := fun ps H σ S Q hq =>
  h ps H σ S _ fun xs vs g1 H1 ⟨xs', dr, kx⟩ e1 ox => by
    obtain ⟨j, f, b⟩ := bare_ok (S.to e1)
    exact kx _ _ g1 H1 vs j (dr.ok f ox) Q fun z w' H3 ⟨fl, kz⟩ e3 oz => hq z w' g1 H3 kz (e1.trans (b H3 e3)) (fl.ok oz)
theorem e_opD {r : R2} (h : wpE W H0 g ρ ta fun x g1 => wpE W H0 g1 ρ tb fun y g2 => ∃ d d' e e', x = .v d ∧ y = .v e ∧ Dr (Now W g2) d d' ∧ Dr (Now W g2) e e' ∧ wp2 r (.v d') (.v e') fun z => Flat z ∧ k z g2) : wpE W H0 g ρ (tOp r ta tb) k := fun ps H σ S Q hq =>
  h ps H σ S _ fun x v g1 H1 kx e1 ox => kx ps H1 σ (S.to e1) _ fun y w g2 H2 ky e2 oy => by
    obtain ⟨d, d', c, c', rfl, rfl, r1, r2, kz⟩ := ky
    obtain ⟨j, f, b⟩ := bare_ok ((S.to e1).to e2)
    cases ox with
    | v ox =>
      cases oy with
      | v oy => exact kz _ _ g2 H2 v w j (.v (f r1 (ox.ext e2))) (.v (f r2 oy)) Q fun z w' H3 ⟨fl, kz⟩ e3 oz => hq z w' g2 H3 kz ((e1.trans e2).trans (b H3 e3)) (fl.ok oz)
theorem flat_bl {b : Bool} : Flat (.v (.bl b)) := ⟨_, _, rfl, rfl⟩
theorem flat_str {b : Str} : Flat (.v (.str b)) := ⟨_, _, rfl, rfl⟩
theorem flat_int {b : Int} : Flat (.v (.int b)) := ⟨_, _, rfl, rfl⟩
end
end TL
set_option Elab.async false
set_option linter.all false
set_option maxRecDepth 100000
namespace TL
open PySem PySem.Spec L2
/-! ### defs that give a new list to the caller alone, and may raise -/
def frP (H0 : Hp) (ds : List D) : (Addr → Prop) → Hp → V → Prop := fun M H v => ∃ a xs, v = .ref a ∧ H0 a = none ∧ ¬ M a ∧ H a = some (.lst xs) ∧ DtL (fun b => M b ∨ b = a) H ds xs
/-- a list that is new since H0, and nobody else's -/
def frs (H0 : Hp) (ds : List D) : D := .hp (frP H0 ds)
theorem frs_ok {H0 : Hp} {ds : List D} {M : Addr → Prop} {H : Hp} {a : Addr} {xs : List V} (hn : H0 a = none) (m : ¬ M a) (e : H a = some (.lst xs)) (t : DtL (fun b => M b ∨ b = a) H ds xs) : Dt M H (frs H0 ds) (.ref a) := by
  refine .hp ⟨a, xs, rfl, hn, m, e, t⟩ fun M' H' k => ⟨a, xs, rfl, hn, (k a _ m e).1, (k a _ m e).2, DtL.mono (fun b o nb z => ?_) _ _ t⟩
  have nb' : ¬ M b := fun c => nb (.inl c)
  refine ⟨fun c => ?_, (k b o nb' z).2⟩
  rcases c with c | c
  · exact (k b o nb' z).1 c
  · exact nb (.inr c)
variable {G : Type} [Gh G]
abbrev Cf (G : Type) := Wd G → G → List Rs → (List D → G → Prop) → (Value → G → Prop) → Prop
def mkSpF (C : Cf G) : Sp := fun vs H Q E => ∃ (W : Wd G) (g : G) (rs : List Rs) (k : List D → G → Prop) (x : Value → G → Prop), RsL W H rs vs ∧ W.J g H ∧ C W g rs k x ∧
  (∀ ds a xs g' H', k ds g' → H a = none → Ext W H g' H' → H' a = some (.lst xs) → DtL (fun b => W.M b ∨ b = a) H' ds xs → Q (.ref a) H') ∧ ∀ c g' H', x c g' → Ext W H g' H' → E c none H'
section
variable {W : Wd G} {g : G} {H0 : Hp} {ρ : Rho} {tg te : TA} {ta : TE} {C : Cf G} {E : XK} {kn : List D → G → Prop} {K : TK G} {i : Nat} {ds : List D} {rt : List D → G → Prop}
theorem n_callF (h : wpA W H0 g ρ tg fun rs g1 => ∀ W', In W W' ρ → C W' g1 rs kn noX) : wpN W H0 g ρ (tCall (mkSpF C) [] E tg) kn := fun ps H σ S Q hq => h ps H σ S _ fun rs vs g1 H1 q e o => by
  show mkSpF C (vs ++ []) H1 Q E
  rw [List.append_nil]
  exact ⟨_, g1, rs, kn, _, o, e.j, q _ (S.to e).in_, fun ds a xs g' H' k hn e2 ha t => hq ds a xs g' H' k (e.free hn) (e.trans e2) ha t, fun c g' H' z => z.elim⟩
theorem n_callFX {x : Value → G → Prop} (hx : ∀ c g' H', x c g' → Ext W H0 g' H' → E c none H') (h : wpA W H0 g ρ tg fun rs g1 => ∀ W', In W W' ρ → C W' g1 rs kn x) : wpN W H0 g ρ (tCall (mkSpF C) [] E tg) kn := fun ps H σ S Q hq => h ps H σ S _ fun rs vs g1 H1 q e o => by
  show mkSpF C (vs ++ []) H1 Q E
  rw [List.append_nil]
  exact ⟨_, g1, rs, kn, _, o, e.j, q _ (S.to e).in_, fun ds a xs g' H' k hn e2 ha t => hq ds a xs g' H' k (e.free hn) (e.trans e2) ha t, fun c g' H' z e2 => hx c g' H' z (S.to (e.trans e2)).base⟩
theorem n_callKSF {tk : TA} {x : Value → G → Prop} {n j : Nat} {ix : List Nat} {E : L2.St → XK} (hx : ∀ ps g' H σ c, x c g' → Sta W H0 ps g' H σ ρ → E σ c none H) (h : wpA W H0 g ρ tg fun rs g1 => wpA W H0 g1 ρ tk fun zs g2 => rs.length = n ∧ zs.length = j ∧ ∀ W', In W W' ρ → C W' g2 (pick ix (rs ++ zs)) kn x) :
    wpN W H0 g ρ (tCallKS (mkSpF C) n j ix E tg tk) kn := fun ps H σ S Q hq => h ps H σ S _ fun rs vs g1 H1 q e o => q ps H1 σ (S.to e) _ fun zs ws g2 H2 ⟨l1, l2, q2⟩ e2 o2 =>
  ⟨by rw [o.length]; exact l1, by rw [o2.length]; exact l2, _, g2, _, kn, _, pick_rs ((RsL.ext e2 o).append o2) ix, e2.j, q2 _ (S.to (e.trans e2)).in_, fun ds a xs g' H' k hn e3 ha t => hq ds a xs g' H' k ((e.trans e2).free hn) ((e.trans e2).trans e3) ha t, fun c g' H' z e3 => hx ps g' H' σ c z (S.to ((e.trans e2).trans e3))⟩
/-- return of a new list -/
theorem s_retF (h : wpN W H0 g ρ ta fun ds g1 => rt ds g1) (hr : ∀ d g, K.rt d g ↔ ∃ ds, d = frs H0 ds ∧ rt ds g) : wpS W H0 g ρ (tRet ta) K := fun ps H σ De S k => h ps H σ S _ fun ds a xs g1 H1 q hn e ha t => by
  have e2 := (S.to e).base
  have h0 : H0 a = none := S.ext.free hn
  have nM : ¬ W.M a := fun m => S.j.nn hn (pin_m m)
  refine k.rt (frs H0 ds) _ g1 H1 ((hr _ _).mpr ⟨ds, rfl, q⟩) e2 (frs_ok h0 nM ha (DtL.mono (fun b o m z => ⟨fun c => m ?_, z⟩) _ _ t))
  rcases c with c | c
  · exact .inl (pin_m c)
  · exact .inr c
/-- return x, x an own list -/
theorem s_retOw (hi : ρ[i]? = some (.ow ds)) (q : rt ds g) (hr : ∀ d g, K.rt d g ↔ ∃ ds, d = frs H0 ds ∧ rt ds g) : wpS W H0 g ρ (tRet (tVar i)) K := fun ps H σ De S k => by
  obtain ⟨a, xs, e1, p, t, _⟩ := S.ow hi
  obtain ⟨b, u, e2, m, _⟩ := S.own i _ hi rfl
  rw [e1] at e2
  cases e2
  have o := S.out _ m
  refine ⟨.ref a, e1, k.rt (frs H0 ds) _ g H ((hr _ _).mpr ⟨ds, rfl, q⟩) S.base (frs_ok o.1 o.2 p (DtL.mono (fun b w n z => ⟨fun c => n ?_, z⟩) _ _ t))⟩
  rcases c with c | c
  · exact pin_m c
  · exact c ▸ pin_in m
end
section
variable {P : Program} {w : World} {K : PySem.W.Frag} {mg : Str → Option Value} {base : Heap}
/-- the wish of such a body -/
abbrev frK (H0 : Hp) (kd : List D → G → Prop) : TK G := ⟨fun _ _ => False, fun d g => ∃ ds, d = frs H0 ds ∧ kd ds g, fun _ _ => False, fun _ _ => False⟩
theorem frDone {W : Wd G} {H : Hp} {Q : VK} {ds : List D} {v : V} {g' : G} {H' : Hp} {kd : List D → G → Prop} (hq : ∀ ds a xs g' H', kd ds g' → H a = none → Ext W H g' H' → H' a = some (.lst xs) → DtL (fun b => W.M b ∨ b = a) H' ds xs → Q (.ref a) H') (q : kd ds g') (e : Ext W H g' H') (t : Dt W.M H' (frs H ds) v) : Q v H' := by
  cases t with
  | hp h _ =>
    obtain ⟨a, xs, rfl, h0, _, ha, t⟩ := h
    exact hq ds a xs g' H' q h0 e ha t
theorem Fun_tF {x qual : Str} {st : Stmt} {f : Addr} {fd : FuncData} {N ps : List Str} {k : Nat} {C : Cf G} (F : Fun K x qual st f fd) (S : FnScope N ps (defScope st)) (len : ∀ W g rs k x, C W g rs k x → rs.length = ps.length)
    (hbody : ∀ (cdv : Value) (A : Around) (outer : List Env) (s : Shared) (H : Hp) (E : XK) (W : Wd G) (g : G) (rs : List Rs) (kd : List D → G → Prop) (x : Value → G → Prop), Room k (A.deeper (PyProof.Rows.envOfC qual (defScope st) s.heap.objs.size f cdv)) → C W g rs kd x → (∀ c g' H', x c g' → Ext W H g' H' → E c none H') →
      ∃ t, PSs (cxOf (L2.CX P w) P w K mg base N qual (defScope st) f cdv A outer s H E) (defBody st) t ∧ wpS W H g (st0 N.length rs) t (frK H kd)) : FnOk P w K mg base (L2.CX P w) (k + 1) f fd ps (mkSpF C) := by
  refine F.okX S (fun vs H Q E h => ?_) fun cdv A outer s H vs Q E hr h => ?_
  · obtain ⟨W, g, rs, kd, x, o, j, c, _⟩ := h
    rw [o.length]; exact len W g rs kd x c
  · obtain ⟨W, g, rs, kd, x, o, j, c, hq, hx⟩ := h
    obtain ⟨t, h1, h2⟩ := hbody cdv A outer s H E W g rs kd x hr c hx
    exact ⟨t, h1, h2 [] H (L2.start N vs) _ (sta0 o j) ⟨fun ps' g' H' σ' ρ' q S' _ => q.elim, fun d v g' H' ⟨ds, ed, q⟩ e t => frDone hq q e (ed ▸ t), fun _ _ _ _ _ q => q.elim, fun _ _ _ _ _ q => q.elim⟩⟩
/-- .. that raises nothing -/
theorem Fun_tF0 {x qual : Str} {st : Stmt} {f : Addr} {fd : FuncData} {N ps : List Str} {k : Nat} {C : Cf G} (F : Fun K x qual st f fd) (S : FnScope N ps (defScope st)) (len : ∀ W g rs k x, C W g rs k x → rs.length = ps.length)
    (hbody : ∀ (cdv : Value) (A : Around) (outer : List Env) (s : Shared) (H : Hp) (E : XK) (W : Wd G) (g : G) (rs : List Rs) (kd : List D → G → Prop) (x : Value → G → Prop), Room k (A.deeper (PyProof.Rows.envOfC qual (defScope st) s.heap.objs.size f cdv)) → C W g rs kd x →
      ∃ t, PSs (cxOf CX0 P w K mg base N qual (defScope st) f cdv A outer s H E).nox (defBody st) t ∧ wpS W H g (st0 N.length rs) t (frK H kd)) : FnOk P w K mg base CX0 (k + 1) f fd ps (mkSpF C) := by
  refine F.ok S (fun vs H Q E h => ?_) fun cdv A outer s H vs Q E hr h => ?_
  · obtain ⟨W, g, rs, kd, x, o, j, c, _⟩ := h
    rw [o.length]; exact len W g rs kd x c
  · obtain ⟨W, g, rs, kd, x, o, j, c, hq, hx⟩ := h
    obtain ⟨t, h1, h2⟩ := hbody cdv A outer s H E W g rs kd x hr c
    exact ⟨t, h1, h2 [] H (L2.start N vs) _ (sta0 o j) ⟨fun ps' g' H' σ' ρ' q S' _ => q.elim, fun d v g' H' ⟨ds, ed, q⟩ e t => frDone hq q e (ed ▸ t), fun _ _ _ _ _ q => q.elim, fun _ _ _ _ _ q => q.elim⟩⟩
end
end TL
set_option Elab.async false
set_option linter.all false
set_option maxRecDepth 100000
namespace TL
open PySem PySem.Spec L2
/-! ### repr of plain things with numbers below 10 ** 250 -/
structure Rq (n w : Nat) (d : D) : Prop where
  pl : Pl n d
  sho : d.py.showable = true
  dic : d.py.hasDict = false
  lea : d.py.leavesShort 260 = true
  wei : d.py.weight ≤ w
theorem Rq.mono {n w n' w' : Nat} {d : D} (h : Rq n w d) (hn : n ≤ n') (hw : w ≤ w') : Rq n' w' d := ⟨h.pl.mono hn, h.sho, h.dic, h.lea, Nat.le_trans h.wei hw⟩
theorem Rq.non {n w : Nat} : Rq n w .non := ⟨.non, rfl, rfl, rfl, Nat.zero_le _⟩
theorem Rq.bl {n w : Nat} {b : Bool} : Rq n w (.bl b) := ⟨.bl, rfl, rfl, rfl, Nat.zero_le _⟩
theorem log_big {i : Int} (h : i.natAbs < 10 ^ 250) : i.natAbs.log2 < 831 := PySem.Flt.log2_lt_of (by decide) (Nat.lt_of_lt_of_le h (by decide +kernel))
theorem Rq.int {n w : Nat} {i : Int} (h : i.natAbs < 10 ^ 250) (hw : 832 ≤ w) : Rq n w (.int i) := by
  refine ⟨.int, decide_eq_true (Nat.lt_trans (log_big h) (by decide)), rfl, decide_eq_true ?_, ?_⟩
  · have := int_text_length_le10 (k := 250) (by decide) h
    show (Str.ofString (toString i)).length ≤ 260
    rw [PySem.ofString_length]; omega
  · show (if (i == 0) = true then 0 else i.natAbs.log2 + 1) ≤ w
    split
    · omega
    · have := log_big h
      omega
theorem rqAll {n w : Nat} : ∀ {ds : List D}, (∀ d ∈ ds, Rq n w d) → PyData.showableAll (D.pyL ds) = true ∧ PyData.hasDictAll (D.pyL ds) = false ∧ PyData.leavesShortAll 260 (D.pyL ds) = true ∧ PyData.weightAll (D.pyL ds) ≤ (w + 1) * ds.length
  | [], _ => ⟨rfl, rfl, rfl, Nat.zero_le _⟩
  | d :: ds, h => by
    have s := h d List.mem_cons_self
    obtain ⟨h1, h2, h3, h4⟩ := rqAll (ds := ds) fun e he => h e (List.mem_cons_of_mem _ he)
    refine ⟨?_, ?_, ?_, ?_⟩
    · show (PyData.showable d.py && PyData.showableAll (D.pyL ds)) = true
      rw [s.sho, h1]; rfl
    · show (PyData.hasDict d.py || PyData.hasDictAll (D.pyL ds)) = false
      rw [s.dic, h2]; rfl
    · show (PyData.leavesShort 260 d.py && PyData.leavesShortAll 260 (D.pyL ds)) = true
      rw [s.lea, h3]; rfl
    · show PyData.weight d.py + 1 + PyData.weightAll (D.pyL ds) ≤ _
      have := s.wei
      rw [List.length_cons, Nat.mul_succ]; omega
theorem Rq.lst {n w w' : Nat} {ds : List D} (h : ∀ d ∈ ds, Rq n w d) (hw : (w + 1) * ds.length ≤ w') : Rq (n + 1) w' (.lst ds) := by
  obtain ⟨h1, h2, h3, h4⟩ := rqAll h
  exact ⟨.lst fun d hd => (h d hd).pl, h1, h2, h3, Nat.le_trans h4 hw⟩
theorem Rq.tup {n w w' : Nat} {ds : List D} (h : ∀ d ∈ ds, Rq n w d) (hw : (w + 1) * ds.length ≤ w') : Rq (n + 1) w' (.tup ds) := by
  obtain ⟨h1, h2, h3, h4⟩ := rqAll h
  exact ⟨.tup fun d hd => (h d hd).pl, h1, h2, h3, Nat.le_trans h4 hw⟩
section
variable {k : Rs → Prop} {K : PySem.W.Frag}
theorem c_reprQ {n w : Nat} {d : D} (h : Rq n w d) (hn : n ≤ 60) (hw : w ≤ 63000) (q : k (.v (.str d.shows))) : wpC (rReprA K) [.v d] k := fun _ W g0 H vs J oo Q hq => by
  obtain ⟨v, rfl, o⟩ := oo.one
  have e : d.shows = d.py.shown := by
    cases d <;> first | rfl | (have := h.pl; cases this)
  have len : d.py.shown.length ≤ sizeLine := by
    have := PyData.shown_le 260 (by decide) d.py h.lea
    have e : sizeLine = 16777216 := sizeLine_eq
    have := h.wei
    omega
  rw [e] at q
  cases o with
  | v o => exact ⟨v, _, rfl, .inl ⟨h.pl.dp v o, h.dic⟩, h.sho, Nat.le_trans h.pl.plain.2 hn, len, hq _ _ H q (Ext.refl J) (.v (.str _))⟩
end
/-- pairs of two lists that go by one list -/
theorem pairs_map {α : Type} (f h : α → D) : ∀ l : List α, pairs (l.map f) (l.map h) = l.map fun x => .tup [f x, h x]
  | [] => rfl
  | x :: l => by
    show .tup [f x, h x] :: pairs (l.map f) (l.map h) = _
    rw [pairs_map f h l]; rfl
end TL
set_option Elab.async false
set_option linter.all false
set_option maxRecDepth 100000
set_option maxHeartbeats 1000000
/-! where an exception is handled: walks end, tuples are unpacked -/
namespace TLH
open PySem PyProof.Rows
open PySem.Sem (wp)
section
variable {prog : Program} {w : World} {A : Around} {E : Value → Shared → Prop} {s : Shared}
theorem list_endH {x1 : Addr} {it l : Addr} {i : Nat} {items} {Q : Option Value → Shared → Prop} (hot : HotX.HotAt A x1 s.heap)
    (hit : s.heap.IsListIter it l i) (hl : s.heap.IsList l items) (hx : items[i]? = none)
    (hQ : ∀ h', Heap.ExtBut it s.heap h' → Q none { s with heap := h' }) : wpAny (model prog w) A (pyNext (.ref it)) Q E s := by
  obtain ⟨hh, o1, vs1, h1, d1, c1⟩ := hot
  obtain ⟨o, ho, hc, hd⟩ := id hit
  obtain ⟨ol, hol, _, nl, hdl⟩ := hl
  unfold pyNext
  refine wpAny_bind (wpAny_attempt (wpAny_callSpecial?_slot (name := Str.ofString "__next__") hit.typeIs slot_listiter_next
    (wpAny_call_entry slot_listiter_next hit.typeIs entry_listiter_next ?_ (args_listiter_next _))))
  show wpAny _ _ (field (.ref it) 0 >>= _) _ _ s
  refine wpAny_bind (wpAny_field ho hd (x := .ref l) rfl ?_)
  show wpAny _ _ (if (Value.ref l == Value.none) = true then _ else _) _ _ s
  rw [if_neg (show ¬ ((Value.ref l == Value.none) = true) from Bool.false_ne_true)]
  show wpAny _ _ (field (.ref it) 1 >>= _) _ _ s
  refine wpAny_bind (wpAny_field ho hd (x := .int i 0) rfl ?_)
  show wpAny _ _ (seqItems? (.ref l) >>= _) _ _ s
  refine wpAny_bind (wpAny_seqItems hol hdl ?_)
  simp only [Int.toNat_natCast, hx]
  refine wpAny_bind (wpAny_rule (wpAny_bind (wpAny_setField ho hd (by simp) ?_)))
  show wpAny _ _ (newExc (.type "StopIteration") [] >>= _) _ _ _
  refine wpAny_bind ?_
  simp only [newExc, newTuple]
  refine wpAny_bind (wpAny_newObj_type ?_ (by size_fits))
  refine wpAny_bind (m := firstArgMember _ _) (wpAny_of_eq (a := Value.none) (by first | rfl | (simp only [firstArgMember]; rfl)) ?_)
  refine wpAny_newObj_type ?_ (by size_fits)
  have nx : x1 ≠ it := fun z => by
    subst z
    rw [ho] at h1
    cases h1
    rw [hd] at d1
    cases d1
    cases c1
  refine HotX.raiseNew_hot ⟨hh, o1, vs1, Heap.get?_push_of_some _ (Heap.get?_push_of_some _ ((Heap.get?_update_other _ _ (Ne.symm nx)).trans h1)), d1, c1⟩ (Nat.ne_of_lt (Heap.lt_size (Heap.get?_push_of_some _ ((Heap.get?_update_other _ _ (Ne.symm nx)).trans h1)))) (Heap.get?_push_size _ rfl) rfl (by first | (simp; done) | (simp; omega) | (simp only [Array.size_append]; simp; omega)) ?_
  refine wpAny_bind (wpAny_isInstance (T := "StopIteration") (b := true) ⟨_, Heap.get?_update_self _ (Heap.get?_push_size _ rfl) rfl, rfl⟩ isSubtype_stop ?_)
  refine wpAny_pure (hQ _ fun b u hb e => ?_)
  have e2 := Heap.get?_push_of_some { cls := .type "tuple", data := .seq #[] } ((Heap.get?_update_other _ (Obj.mapFields (·.setIfInBounds 0 .none)) (Ne.symm hb)).trans e)
  rw [Heap.get?_update_other _ _ (Nat.ne_of_gt (Heap.lt_size e2))]
  exact Heap.get?_push_of_some _ e2
theorem tup_endH {x1 : Addr} {it t : Addr} {i : Nat} {items} {Q : Option Value → Shared → Prop} (hot : HotX.HotAt A x1 s.heap)
    (hit : IsTupIter s.heap it t i) (ht : IsTup s.heap t items) (hx : items[i]? = none)
    (hQ : ∀ h', Heap.ExtBut it s.heap h' → Q none { s with heap := h' }) : wpAny (model prog w) A (pyNext (.ref it)) Q E s := by
  obtain ⟨hh, o1, vs1, h1, d1, c1⟩ := hot
  obtain ⟨o, ho, hc, hd⟩ := id hit
  obtain ⟨ol, hol, _, nl, hdl⟩ := ht
  unfold pyNext
  refine wpAny_bind (wpAny_attempt (wpAny_callSpecial?_slot (name := Str.ofString "__next__") hit.typeIs slot_tupleiter_next
    (wpAny_call_entry slot_tupleiter_next hit.typeIs entry_tupleiter_next ?_ (args_tupleiter_next _))))
  show wpAny _ _ (field (.ref it) 0 >>= _) _ _ s
  refine wpAny_bind (wpAny_field ho hd (x := .ref t) rfl ?_)
  show wpAny _ _ (if (Value.ref t == Value.none) = true then _ else _) _ _ s
  rw [if_neg (show ¬ ((Value.ref t == Value.none) = true) from Bool.false_ne_true)]
  show wpAny _ _ (field (.ref it) 1 >>= _) _ _ s
  refine wpAny_bind (wpAny_field ho hd (x := .int i 0) rfl ?_)
  show wpAny _ _ (seqItems? (.ref t) >>= _) _ _ s
  refine wpAny_bind (wpAny_seqItems hol hdl ?_)
  simp only [Int.toNat_natCast, hx]
  refine wpAny_bind (wpAny_rule (wpAny_bind (wpAny_setField ho hd (by simp) ?_)))
  show wpAny _ _ (newExc (.type "StopIteration") [] >>= _) _ _ _
  refine wpAny_bind ?_
  simp only [newExc, newTuple]
  refine wpAny_bind (wpAny_newObj_type ?_ (by size_fits))
  refine wpAny_bind (m := firstArgMember _ _) (wpAny_of_eq (a := Value.none) (by first | rfl | (simp only [firstArgMember]; rfl)) ?_)
  refine wpAny_newObj_type ?_ (by size_fits)
  have nx : x1 ≠ it := fun z => by
    subst z
    rw [ho] at h1
    cases h1
    rw [hd] at d1
    cases d1
    cases c1
  refine HotX.raiseNew_hot ⟨hh, o1, vs1, Heap.get?_push_of_some _ (Heap.get?_push_of_some _ ((Heap.get?_update_other _ _ (Ne.symm nx)).trans h1)), d1, c1⟩ (Nat.ne_of_lt (Heap.lt_size (Heap.get?_push_of_some _ ((Heap.get?_update_other _ _ (Ne.symm nx)).trans h1)))) (Heap.get?_push_size _ rfl) rfl (by first | (simp; done) | (simp; omega) | (simp only [Array.size_append]; simp; omega)) ?_
  refine wpAny_bind (wpAny_isInstance (T := "StopIteration") (b := true) ⟨_, Heap.get?_update_self _ (Heap.get?_push_size _ rfl) rfl, rfl⟩ isSubtype_stop ?_)
  refine wpAny_pure (hQ _ fun b u hb e => ?_)
  have e2 := Heap.get?_push_of_some { cls := .type "tuple", data := .seq #[] } ((Heap.get?_update_other _ (Obj.mapFields (·.setIfInBounds 0 .none)) (Ne.symm hb)).trans e)
  rw [Heap.get?_update_other _ _ (Nat.ne_of_gt (Heap.lt_size e2))]
  exact Heap.get?_push_of_some _ e2
theorem unpackItemsH {x1 : Addr} {t : Addr} {items : Array Value} {Q : List Value → Shared → Prop} (hot : HotX.HotAt A x1 s.heap) (ht : IsTup s.heap t items)
    (hQ : ∀ h', Heap.ExtBut s.heap.objs.size s.heap h' → Q items.toList { s with heap := h' }) : wpAny (model prog w) A (unpackItems (.ref t) items.size none) Q E s := by
  have hlt : t ≠ s.heap.objs.size := by obtain ⟨o, ho, _⟩ := ht; exact Nat.ne_of_lt (Heap.lt_size ho)
  unfold unpackItems
  refine wpAny_bind ?_
  · unfold notIterableAtAll
    refine wpAny_bind (wpAny_specialOf ht.typeIs slot_tuple_iter.lookup ?_)
    refine wpAny_pure ?_
    simp only [Bool.false_eq_true, if_false]
    refine wpAny_bind (wpAny_holding (iter_tuple ht ?_))
    refine wpAny_bind (wpAny_holding (draw_tuple hlt items.size 0 _ _ ⟨_, Heap.get?_push_size _ rfl, rfl, rfl⟩ (ht.push _) (by omega) fun h₁ hit₁ hs₁ => ?_))
    have hall : List.take items.size (List.drop 0 items.toList) = items.toList := by
      rw [List.drop_zero]; exact List.take_of_length_le (by simp)
    rw [hall]
    rw [if_neg (by simp)]
    have ht₁ : IsTup h₁ t items := (ht.push _).extBut hs₁.extBut hlt
    have hot₁ : HotX.HotAt A x1 h₁ := by
      obtain ⟨hh, o1, vs1, h1, d1, c1⟩ := hot
      exact ⟨hh, o1, vs1, hs₁.extBut _ _ (Nat.ne_of_lt (Heap.lt_size h1)) (Heap.get?_push_of_some _ h1), d1, c1⟩
    refine wpAny_bind (wpAny_holding (tup_endH hot₁ hit₁ ht₁ (by simp) fun h₂ he₂ => ?_))
    simp only [Option.isSome_none, Bool.false_eq_true, if_false]
    refine wpAny_pure (hQ h₂ fun b o hb e => he₂ b o hb (hs₁.extBut b o hb (Heap.get?_push_of_some _ e)))
theorem unpackH {x1 : Addr} {t : Addr} {items : Array Value} {targets : List (Bool × (Value → Sem Unit))} {Q : Unit → Shared → Prop} (hot : HotX.HotAt A x1 s.heap) (ht : IsTup s.heap t items)
    (hn : targets.length = items.size) (hstar : targets.findIdx? (·.1) = none)
    (h : ∀ h', Heap.ExtBut s.heap.objs.size s.heap h' → wpAny (model prog w) A (assignInOrder (targets.map (·.2)) items.toList) Q E { s with heap := h' }) :
    wpAny (model prog w) A (unpack (.ref t) targets) Q E s := by
  unfold unpack
  rw [hn, hstar]
  exact wpAny_bind (wpAny_holding (unpackItemsH hot ht h))
theorem assignTupH {x1 : Addr} {env : Env} {elts : List Expr} {kk} {pos : Pos} {t : Addr} {items : Array Value} {Q : Unit → Shared → Prop} (hot : HotX.HotAt A x1 s.heap) (ht : IsTup s.heap t items)
    (hn : (assignEach elts env).length = items.size) (hstar : (assignEach elts env).findIdx? (·.1) = none)
    (h : ∀ h', Heap.ExtBut s.heap.objs.size s.heap h' → wpAny (model prog w) A (assignInOrder ((assignEach elts env).map (·.2)) items.toList) Q E { s with heap := h' }) :
    wpAny (model prog w) A (assign (.Tuple elts kk pos) env (.ref t)) Q E s := by
  rw [assign_Tuple]
  exact wpAny_bind (wpAny_standAt (unpackH hot ht hn hstar h))
end
end TLH
set_option Elab.async false
set_option linter.all false
set_option maxRecDepth 100000
set_option maxHeartbeats 2000000
/-! where an exception is handled: list comprehensions over lists -/
namespace TLH
open PySem PySem.Spec PyProof.Rows L2
abbrev St := L2.St
structure TurnP (P : Program) (w : World) (K : PySem.W.Frag) (tg : Expr) (J : It) (fp : List Addr) (it : Addr) (tn : Nat → Heap → Prop) : Prop where
  mem : it ∈ fp
  obj : ∀ i h, tn i h → ∀ b ∈ fp, ∃ o, h.get? b = some o ∧ ∀ v, o.data ≠ .cell v
  keep : ∀ i h h', tn i h → (∀ b ∈ fp, ∀ o, h.get? b = some o → h'.get? b = some o) → tn i h'
  item : ∀ (X : Cx), X.prog = P → X.w = w → X.K = K →  ∀ (i : Nat) (pins : List (Addr × Obj)) (s : Shared) (σ : St) (H : Hp) (E : Value → Shared → Prop), Inv X pins σ H s → (∀ b ∈ fp, FpOk X pins H b) → tn i s.heap → (∃ x1, HotX.HotAt X.A x1 s.heap) → J.go i H →
    wpAny (model P w) X.A (pyNext (.ref it)) (fun r s1 => ∃ u, r = some u ∧
      wpAny (model P w) X.A (letOwnedTupleGo tg (.ref it) u) (fun _ s2 => ∃ x H', Inv X pins σ H' s2 ∧ RelV x u ∧ J.yld i H x H' ∧ tn (i + 1) s2.heap ∧ ∀ b ∈ fp, H' b = none) E s1) E s
  done : ∀ (X : Cx), X.prog = P → X.w = w → X.K = K →  ∀ (i : Nat) (pins : List (Addr × Obj)) (s : Shared) (σ : St) (H : Hp) (E : Value → Shared → Prop), Inv X pins σ H s → (∀ b ∈ fp, FpOk X pins H b) → tn i s.heap → (∃ x1, HotX.HotAt X.A x1 s.heap) → J.stop i H →
    wpAny (model P w) X.A (pyNext (.ref it)) (fun r s1 => r = none ∧ Inv X pins σ H s1) E s
  self : ∀ (A : Around) (i : Nat) (s : Shared) (Q : Value → Shared → Prop) (E : Value → Shared → Prop), tn i s.heap → Q (.ref it) s → wpAny (model P w) A (pyIter (.ref it)) Q E s
theorem turn_listP {P : Program} {w : World} {K : PySem.W.Frag} {tg : Expr} (a it : Addr) : TurnP P w K tg (Itl K a) [it] it (fun i h => h.IsListIter it a i) where
  mem := by simp
  obj := fun i h st b hb => by
    have e : b = it := by simpa using hb
    subst e
    obtain ⟨o, e, c, d⟩ := st
    exact ⟨o, e, fun v z => by rw [d] at z; cases z⟩
  keep := fun i h h' st k => st.at fun o e => k it (by simp) o e
  item := by
    intro X hP hw hK i pins s σ H E I hf st hot hg
    subst hP hw hK
    obtain ⟨xs, x, hq, hx⟩ := hg
    obtain ⟨its, rv, p, hz⟩ := I.list hq
    obtain ⟨u, hu, ru⟩ := rv.get hx
    obtain ⟨f0, f1, f2, f3, f4, f5⟩ := hf it (by simp)
    refine wpAny_pyNext_list_item st p.isList (x := u) (by simpa using hu) fun h' st' sb => ?_
    have I1 : Inv X pins σ H { s with heap := h' } := I.turned (t' := s.toks) (fun b o hb e => (sb.2 b hb).trans e) f0 f1 f3 f4 f5
    obtain ⟨o, e, c, d⟩ := id st'
    exact ⟨u, rfl, go_of (s := { s with heap := h' }) e c d (by decide) ⟨x, H, I1, ru, ⟨rfl, fun ys hy => by rw [I.list_inj hy hq]; exact hx⟩, st', fun b hb => (hf b hb).1⟩⟩
  done := by
    intro X hP hw hK i pins s σ H E I hf st hot hg
    subst hP hw hK
    obtain ⟨xs, hq, hx⟩ := hg
    obtain ⟨its, rv, p, hz⟩ := I.list hq
    obtain ⟨f0, f1, f2, f3, f4, f5⟩ := hf it (by simp)
    have hl := rv.length
    obtain ⟨x1, hot⟩ := hot
    exact TLH.list_endH hot st p.isList (by simp; omega) fun h' eb => ⟨rfl, I.turned (t' := s.toks) (fun b o hb e => eb b o hb e) f0 f1 f3 f4 f5⟩
  self := fun _ _ _ _ _ st h => wpAny_pyIter_listiter st h
def PIEP (X : Cx) (pins : List (Addr × Obj)) (σ : L2.St) (tg : Expr) (R : It → Hp → Prop) (itv : Value) (s2 : Shared) : Prop :=
  ∃ (it : Addr) (fp : List Addr) (tn : Nat → Heap → Prop) (J : It) (H' : Hp), itv = .ref it ∧ Inv X pins σ H' s2 ∧ TurnP X.prog X.w X.K tg J fp it tn ∧ tn 0 s2.heap ∧ (∀ b ∈ fp, FpOk X pins H' b) ∧ R J H'
structure PIP (X : Cx) (tg iter : Expr) (wi : TI) : Prop where
  run : ∀ (pins : List (Addr × Obj)) (s : Shared) (σ : L2.St) (H : Hp) (R : It → Hp → Prop), Inv X pins σ H s → wi σ H R →
    wpAny (model X.prog X.w) X.A (eval iter X.env) (fun v s1 => wpAny (model X.prog X.w) X.A (pyIter v) (PIEP X pins σ tg R) X.xe s1) X.xe s
theorem pi_listP {X : Cx} {F : PySem.W.Frag} {tg l : Expr} {tl : TE} (hk : X.K = F) (hl : PE X l tl) : PIP X tg l (iList F tl) := by
  subst hk
  refine ⟨fun pins s σ H R I h => ?_⟩
  refine thn (hl.run pins s σ H _ I h) fun v s1 ⟨x, H1, I1, r1, q1⟩ => ?_
  obtain ⟨a, e, ⟨xs, hq⟩, q⟩ := q1
  subst e
  cases r1
  obtain ⟨its, rv, p, hz⟩ := I1.list hq
  refine wpAny_pyIter_list p.isList ?_
  refine ⟨s1.heap.objs.size, [s1.heap.objs.size], _, _, H1, rfl, I1.kept (t' := s1.toks) fun b o e => Heap.get?_push_of_some _ e, turn_listP a _, ⟨_, Heap.get?_push_size _ rfl, rfl, rfl⟩, fun b hb => ?_, q⟩
  have e : b = s1.heap.objs.size := by simpa using hb
  subst e
  exact I1.fpOk (Nat.le_refl _) (I1.hok.fresh (Nat.le_refl _))
/-- a block's context in which an exception is handled -/
def HotB (X : Cx) : Prop := ∃ p : Addr × Obj, L2H.Hot1 X.A p ∧ X.s_0.heap.get? p.1 = some p.2 ∧ X.H_0 p.1 = none ∧ p.1 ∉ X.fs ∧ p.1 ∉ X.ex
theorem HotB.at {X : Cx} (b : HotB X) (pins : List (Addr × Obj)) (σ : St) (H : Hp) (s : Shared) (I : Inv X pins σ H s) : ∃ x1, HotX.HotAt X.A x1 s.heap := by
  obtain ⟨p, ⟨hh, v1, e1, c1⟩, q1, q2, q3, q4⟩ := b
  exact ⟨p.1, hh, p.2, v1, I.base.keep p.1 p.2 q1 q2 q3 q4, e1, c1⟩
theorem lc_coreP {X : Cx} {pins : List (Addr × Obj)} {s : Shared} {σ : L2.St} {H : Hp} {Q : VK} {elt tg iter : Expr} {ifs : List Expr} {scope : Scope} {own : List (Str × Nat)} {pos pos' : Pos} {wi : TI} {g : TG} {tt : TT} {te : TE} {use : Option (Value → Sem Unit)} {Qf : Value → Shared → Prop}
    (hc : L2H.HotC X) (hN : X.N.Nodup) (I : Inv X pins σ H s) (hi : PIP X tg iter wi) (ok : BlkOk X.N X.env.scope scope own)
    (hg : ∀ (s : Shared) (H : Hp) (C : Addr) (cl : List (Str × Addr)) (fp : List Addr), HotB (X.blk s H scope (compEnvC scope cl C X.env) fp) → PG (X.blk s H scope (compEnvC scope cl C X.env) fp) tg g) (ht : ∀ (s : Shared) (H : Hp) (C : Addr) (cl : List (Str × Addr)) (fp : List Addr), PTs (X.blk s H scope (compEnvC scope cl C X.env) fp) ifs tt)
    (he : ∀ (s : Shared) (H : Hp) (C : Addr) (cl : List (Str × Addr)) (fp : List Addr), PE (X.blk s H scope (compEnvC scope cl C X.env) fp) elt te) (hs : ∀ x, foldedSetIterable iter X.env x = pure x)
    (h : tLc wi g tt te (own.map (·.2)) σ H Q)
    (hRR : ∀ D C s' m H', Inv X pins σ H' s' → Q (.ref D) H' → s'.heap.Ns C m → FpOk X pins H' C → compPost (model X.prog X.w) X.A X.xe use Qf (.ref D) C (.ok .next) s') :
    wpAny (model X.prog X.w) X.A (comprehension (.ListComp elt [⟨tg, iter, ifs, 0⟩] scope pos) scope X.env pos' (newList []) false (eval iter X.env) use) Qf X.xe s := by
  have hfree : ∀ y ∈ scope.names, y.2 = .free → ∃ c, X.env.cells.lookup y.1 = some c := fun y hy e => by
    rcases ok.free y hy e with k | k
    · exact I.ok.has _ (.inl k)
    · exact I.ok.has _ (.inr k)
  refine wpAny_comprehension_free (use := use) rfl hs (closure_ok hfree) ok.kind (fun y hy e => by rw [ok.uniq y hy, e])
    (thn (hi.run pins s σ H _ I h) fun xv s1 hx => thn hx fun itv s2 h2 => ?_)
  obtain ⟨it, fp, tn, J, H2, e, I2, T, st2, f2, q⟩ := h2
  subst e
  refine wpAny_newObj_type (newEnv_comp ?_) (by show 0 ≤ sizeLine; decide)
  generalize hD : s2.heap.objs.size = D
  have hDn : H2 D = none := I2.hok.fresh (Nat.le_of_eq hD)
  obtain ⟨W, ⟨m0, w0⟩, turn⟩ := q D hDn
  -- the new list
  generalize hs3 : ({ s2 with heap := s2.heap.push { cls := .type "list", data := .seq ([] : List Value).toArray } } : Shared) = s3
  have I3 : Inv X pins σ (upd H2 D (.lst [])) s3 := by
    rw [← hs3]
    refine I2.laid (t' := s2.toks) (fun b o e => Heap.get?_push_of_some _ e) (Nat.le_of_eq hD) ⟨Nat.zero_le _, [], 0, .nil, ?_⟩
    rw [← hD]
    exact Heap.get?_push_size _ rfl
  have h3 : s3.heap = s2.heap.push { cls := .type "list", data := .seq ([] : List Value).toArray } := by rw [← hs3]
  have sz : ∀ b ∈ fp, b < s2.heap.objs.size := fun b hb => by
    obtain ⟨o, e, _⟩ := T.obj _ _ st2 b hb
    exact Heap.lt_size e
  have f3 : ∀ b ∈ fp, FpOk X pins (upd H2 D (.lst [])) b ∧ b < s3.heap.objs.size := fun b hb => by
    have hlt := sz b hb
    refine ⟨⟨?_, (f2 b hb).2⟩, by rw [h3, Heap.size_push]; exact Nat.lt_succ_of_lt hlt⟩
    rw [upd_ne (by rw [← hD]; exact Nat.ne_of_lt hlt)]
    exact (f2 b hb).1
  have st3 : tn 0 s3.heap := T.keep _ _ _ st2 fun b _ o e => by rw [h3]; exact Heap.get?_push_of_some _ e
  have I4 := block_start I3 ok hN f3
  have hB : HotB (X.blk s3 (upd H2 D (.lst [])) scope (compEnvC scope (cellsFrom (s3.heap.objs.size + 1) scope.names (cloFrom X.env.cells scope.names [])) s3.heap.objs.size X.env) fp) := by
    obtain ⟨p, hp1, hp⟩ := hc
    obtain ⟨q1, q2, q3, q4, q5⟩ := I3.pin p (List.mem_append_left _ hp)
    refine ⟨p, hp1, q1, q2, fun m => ?_, fun m => ?_⟩
    · rcases List.mem_cons.mp (I3.stkSub p.1 m) with z | z
      · exact q3 z
      · exact q4 z
    · have fz := (f3 p.1 m).1
      exact fz.2.2.2.2.2 p (List.mem_append_left _ hp) rfl
  have pg := hg s3 (upd H2 D (.lst [])) s3.heap.objs.size (cellsFrom (s3.heap.objs.size + 1) scope.names (cloFrom X.env.cells scope.names [])) fp hB
  have pt := ht s3 (upd H2 D (.lst [])) s3.heap.objs.size (cellsFrom (s3.heap.objs.size + 1) scope.names (cloFrom X.env.cells scope.names [])) fp
  have pe := he s3 (upd H2 D (.lst [])) s3.heap.objs.size (cellsFrom (s3.heap.objs.size + 1) scope.names (cloFrom X.env.cells scope.names [])) fp
  show codeAny _ _ (.compStart (.ListComp elt [⟨tg, iter, ifs, 0⟩] scope pos) 0 (.ref it) (.ref D) (compEnvC scope (cellsFrom (s3.heap.objs.size + 1) scope.names (cloFrom X.env.cells scope.names [])) s3.heap.objs.size X.env)) (compPost (model X.prog X.w) X.A X.xe use Qf (.ref D) s3.heap.objs.size) { s3 with heap := pushCells (s3.heap.push { cls := .type "dict", data := .dict #[] }) scope.names }
  have nfp : ∀ b ∈ fp, (upd H2 D (.lst [])) b = none := fun b hb => (f3 b hb).1.1
  generalize hce : compEnvC scope (cellsFrom (s3.heap.objs.size + 1) scope.names (cloFrom X.env.cells scope.names [])) s3.heap.objs.size X.env = ce at I4 pg pt pe ⊢
  have cL : ce.locals = s3.heap.objs.size := by subst hce; rfl
  generalize hH3 : upd H2 D (.lst []) = H3 at I3 I4 pg pt pe w0 nfp f3
  generalize hs4 : ({ s3 with heap := pushCells (s3.heap.push { cls := .type "dict", data := .dict #[] }) scope.names } : Shared) = s4 at I4 ⊢
  have st4 : tn 0 s4.heap := T.keep _ _ _ st3 fun b _ o e => by rw [← hs4]; exact pushCells_keeps _ _ _ _ (Heap.get?_push_of_some _ e)
  have stat : ∀ {σ' : St} {H' : Hp} {s' : Shared}, Inv (X.blk s3 H3 scope ce fp) [] σ' H' s' → (∀ b ∈ fp, H' b = none) → ∀ b ∈ fp, FpOk (X.blk s3 H3 scope ce fp) [] H' b := fun {σ' H' s'} I' hn b hb =>
    ⟨hn b hb, (I'.ok.exf b hb).1, I'.ok.exfs b hb, .inl hb, fun x c e => (I'.ok.exf b hb).2 x c e, fun p hp => absurd (show p ∈ ([] : List (Addr × Obj)) ++ [] from hp) (by simp)⟩
  have hotB : ∀ {σ' : L2.St} {H' : Hp} {s' : Shared}, Inv (X.blk s3 H3 scope ce fp) [] σ' H' s' → ∃ x1, HotX.HotAt X.A x1 s'.heap := fun {σ' H' s'} I' => by
    obtain ⟨p, ⟨hh, v1, e1, c1⟩, hp⟩ := hc
    obtain ⟨q1, q2, q3, q4, q5⟩ := I3.pin p (List.mem_append_left _ hp)
    refine ⟨p.1, hh, p.2, v1, I'.base.keep p.1 p.2 q1 q2 (fun m => ?_) (fun m => ?_), e1, c1⟩
    · rcases List.mem_cons.mp (I3.stkSub p.1 m) with z | z
      · exact q3 z
      · exact q4 z
    · have fz := (f3 p.1 m).1
      exact fz.2.2.2.2.2 p (List.mem_append_left _ hp) rfl
  have loop : codeAny (model X.prog X.w) X.A (.compLoop (.ListComp elt [⟨tg, iter, ifs, 0⟩] scope pos) 0 (.ref it) (.ref D) ce) (compPost (model X.prog X.w) X.A X.xe use Qf (.ref D) s3.heap.objs.size) s4 := by
    refine compLoop_any (fun n s' => ∃ i H', Inv (X.blk s3 H3 scope ce fp) [] (wipe σ (own.map (·.2))) H' s' ∧ tn i s'.heap ∧ (∀ b ∈ fp, H' b = none) ∧ W i n H') ?_ m0 ⟨0, H3, I4, st4, nfp, w0⟩
    rintro n s5 ⟨i, H5, I5, st5, n5, w5⟩
    rcases turn i n H5 w5 with ⟨stop, qq⟩ | ⟨go, Nx, hNx, step⟩
    · have td := T.done (X.blk s3 H3 scope ce fp) rfl rfl rfl i [] s5 _ H5 (fun _ _ => False) I5 (stat I5 n5) st5 (hotB I5) stop
      refine thnF td fun r s6 ⟨hr, I6⟩ => ?_
      subst hr
      -- back in the def's context
      have I7 : Inv X pins σ H5 s6 := I3.call' (ch := fp) I6.os I6.base I6.hok I6.bare fun b hb => ⟨(f3 b hb).1.2.2.2.1, (f3 b hb).1.2.1, (f3 b hb).1.2.2.2.2.1, (f3 b hb).1.2.2.2.2.2⟩
      have nC : H5 s3.heap.objs.size = none := by
        have z : H5 ce.locals = none := I6.free
        rw [cL] at z
        exact z
      obtain ⟨m, hn, _⟩ := I6.loc
      have hn : s6.heap.Ns ce.locals m := hn
      rw [cL] at hn
      exact hRR D s3.heap.objs.size s6 m H5 I7 qq hn (I3.fpOk (Nat.le_refl _) nC)
    · have ti := T.item (X.blk s3 H3 scope ce fp) rfl rfl rfl i [] s5 _ H5 (fun _ _ => False) I5 (stat I5 n5) st5 (hotB I5) go
      refine thnF ti fun r s6 ⟨u, hr, h6⟩ => ?_
      subst hr
      refine thnF h6 fun _ s7 ⟨x, H7, I7, r7, y7, st7, n7⟩ => ?_
      have I7' := I7.pinned (stat I7 n7) (T.obj _ _ st7)
      refine thnF (pg.run _ s7 _ H7 x u _ I7' r7 (step x H7 y7)) fun _ s8 ⟨σ8, H8, I8, hw8, q8⟩ => ?_
      refine thnF (pt.run _ s8 σ8 H8 _ I8 q8) fun b s9 ⟨H9, I9, q9⟩ => ?_
      -- the turn's end
      have fin : ∀ {s' : Shared} {H' : Hp}, Inv (X.blk s3 H3 scope ce fp) ([] ++ pinsAt fp s7.heap) σ8 H' s' → Nx H' → ∃ m, m < n ∧ ∃ i H', Inv (X.blk s3 H3 scope ce fp) [] (wipe σ (own.map (·.2))) H' s' ∧ tn i s'.heap ∧ (∀ b ∈ fp, H' b = none) ∧ W i m H' := fun {s' H'} I' nx => by
        obtain ⟨m', hm, w'⟩ := hNx H' nx
        have pin' : ∀ b ∈ fp, ∀ o, s7.heap.get? b = some o → s'.heap.get? b = some o ∧ H' b = none := fun b hb o e =>
          let z := I'.pin (b, o) (List.mem_append_right _ (List.mem_append_right _ (mem_pinsAt hb e)))
          ⟨z.1, z.2.1⟩
        have hl : (wipe σ (own.map (·.2))).length = σ8.length := by rw [← hw8, wipe_length]
        refine ⟨m', hm, i + 1, H', (I'.unpinned (pins := [])).weak hl (fun j v e => ?_), T.keep _ _ _ st7 fun b hb o e => (pin' b hb o e).1, fun b hb => ?_, w'⟩
        · rw [← hw8] at e
          exact (wipe_some e).1
        · obtain ⟨o, e, _⟩ := T.obj _ _ st7 b hb
          exact (pin' b hb o e).2
      cases b with
      | false =>
        simp only [Bool.false_eq_true, if_false] at q9 ⊢
        exact fin I9 q9
      | true =>
        simp only [if_true] at q9 ⊢
        refine thnF (pe.run _ s9 σ8 H9 _ I9 q9) fun z s10 ⟨yv, H10, I10, r10, acc, hD10, hz10, nx⟩ => ?_
        exact app_ok (X := X.blk s3 H3 scope ce fp) I10 hD10 hz10 r10 fun s11 I11 => fin I11 nx
  exact codeAny_compStart_list loop (T.self X.A 0 _ _ _ st4 loop)
theorem pe_lcP {X : Cx} {elt tg iter : Expr} {ifs : List Expr} {scope : Scope} {own : List (Str × Nat)} {pos : Pos} {wi : TI} {g : TG} {tt : TT} {te : TE} (hc : L2H.HotC X) (hN : X.N.Nodup) (hi : PIP X tg iter wi) (ok : BlkOk X.N X.env.scope scope own)
    (hg : ∀ (s : Shared) (H : Hp) (C : Addr) (cl : List (Str × Addr)) (fp : List Addr), HotB (X.blk s H scope (compEnvC scope cl C X.env) fp) → PG (X.blk s H scope (compEnvC scope cl C X.env) fp) tg g) (ht : ∀ (s : Shared) (H : Hp) (C : Addr) (cl : List (Str × Addr)) (fp : List Addr), PTs (X.blk s H scope (compEnvC scope cl C X.env) fp) ifs tt)
    (he : ∀ (s : Shared) (H : Hp) (C : Addr) (cl : List (Str × Addr)) (fp : List Addr), PE (X.blk s H scope (compEnvC scope cl C X.env) fp) elt te) (hs : ∀ x, foldedSetIterable iter X.env x = pure x := by intro _; rfl) :
    PE X (.ListComp elt [⟨tg, iter, ifs, 0⟩] scope pos) (tLc wi g tt te (own.map (·.2))) := by
  refine ⟨fun pins s σ H Q I h => ?_⟩
  rw [eval_ListComp]
  refine lc_coreP hc hN I hi ok hg ht he hs h fun D C s' m H' I' q hn f => ⟨m, hn, fun h'' sb => ?_⟩
  obtain ⟨f0, f1, f2, f3, f4, f5⟩ := f
  exact ⟨.ref D, H', I'.turned (t' := s'.toks) (fun b o hb e => (sb.2 b hb).trans e) f0 f1 f3 f4 f5, rfl, q⟩
/-- (a, b) = .. there -/
theorem pg_tupP {X : Cx} {K : PySem.W.Frag} {pos : Pos} {es : List Expr} {k : Nat} {t : TGs} {n : Nat} (kk : X.K = K) (hot : ∀ pins σ H s, Inv X pins σ H s → ∃ x1, HotX.HotAt X.A x1 s.heap) (h : PGs X es t)
    (hn : (assignEach es X.env).length = n := by rfl) (hst : (assignEach es X.env).findIdx? (·.1) = none := by rfl) : PG X (.Tuple es k pos) (gTup K n t) := by
  subst kk
  refine ⟨fun pins s σ H v u Q I r hw => ?_⟩
  obtain ⟨a, xs, e1, hq, hl, hw⟩ := hw
  subst e1
  cases r
  obtain ⟨its, rv, ht, hz⟩ := I.tuple hq
  obtain ⟨x1, hot⟩ := hot pins σ H s I
  refine TLH.assignTupH hot ht (by simp [hn, ← hl, rv.length]) hst fun h' hx => ?_
  have I1 : Inv X pins σ H { s with heap := h' } := I.kept (t' := s.toks) fun b o e => hx b o (Nat.ne_of_lt (Heap.lt_size e)) e
  exact h.run pins _ σ H xs _ Q I1 (by simpa using rv) hw
end TLH
set_option Elab.async false
set_option linter.all false
set_option maxRecDepth 100000
set_option maxHeartbeats 1000000
namespace TL
open PySem PySem.Spec L2 L2H PyProof.Rows
/-! ### defs whose exceptions have the context None -/
theorem passFN {P : Program} {w : World} {X : Cx} : Passes (L2N.CX P w) X E0 := fun _ _ _ _ _ _ _ ⟨_, _, _, _, _, _, _, _, _, _, _, _, e⟩ => e.elim
theorem takes0N {X : Cx} : L2N.Takes X (fun _ _ _ _ => False) := fun _ _ x => by
  obtain ⟨_, _, _, _, _, _, _, _, _, _, _, _, _, _, _, _, z⟩ := x
  exact z.elim
section
variable {P : Program} {w : World} {K : PySem.W.Frag} {mg : Str → Option Value} {base : Heap} {G : Type} [Gh G]
theorem Fun.okC {CX : CXT} {x qual : Str} {st : Stmt} {f : Addr} {fd : FuncData} {N ps : List Str} {k : Nat} {sp : Sp} (F : Fun K x qual st f fd) (S : FnScope N ps (defScope st)) (len : ∀ vs H Q E, sp vs H Q E → vs.length = ps.length)
    (hbody : ∀ (cdv : Value) (A : Around) (outer : List Env) (s : Shared) (H : Hp) (vs : List V) (Q : VK) (E : XK), Room k (A.deeper (envOfC qual (defScope st) s.heap.objs.size f cdv)) → sp vs H Q E →
      ∃ t, PSs (cxOf CX P w K mg base N qual (defScope st) f cdv A outer s H E) (defBody st) t ∧ t { nx := fun _ H' => Q .non H', rt := Q } (start N vs) H) : FnOk P w K mg base CX (k + 1) f fd ps sp := by
  obtain ⟨oc, od, kV, doc, pm, an, cdv, ct, osl, rfl, lk, hcd⟩ := F.ex
  exact fn_of lk hcd S len fun A outer s H vs Q E hr hsp => hbody cdv A outer s H vs Q E hr hsp
/-- a def that may raise -/
theorem Fun_tXN {CX : CXT} {x qual : Str} {st : Stmt} {f : Addr} {fd : FuncData} {N ps : List Str} {k : Nat} {C : Ct G} (F : Fun K x qual st f fd) (S : FnScope N ps (defScope st)) (len : ∀ W g rs k x, C W g rs k x → rs.length = ps.length)
    (hbody : ∀ (cdv : Value) (A : Around) (outer : List Env) (s : Shared) (H : Hp) (E : XK) (W : Wd G) (g : G) (rs : List Rs) (kd : D → G → Prop) (x : Value → G → Prop), Room k (A.deeper (PyProof.Rows.envOfC qual (defScope st) s.heap.objs.size f cdv)) → C W g rs kd x → (∀ c g' H', x c g' → Ext W H g' H' → E c none H') →
      ∃ t, PSs (cxOf CX P w K mg base N qual (defScope st) f cdv A outer s H E) (defBody st) t ∧ wpS W H g (st0 N.length rs) t ⟨fun _ => kd .non, kd, fun _ _ => False, fun _ _ => False⟩) : FnOk P w K mg base CX (k + 1) f fd ps (mkSp C) := by
  refine TL.Fun.okC F S (fun vs H Q E h => ?_) fun cdv A outer s H vs Q E hr h => ?_
  · obtain ⟨W, g, rs, kd, x, o, j, c, _⟩ := h
    rw [o.length]; exact len W g rs kd x c
  · obtain ⟨W, g, rs, kd, x, o, j, c, hq, hx⟩ := h
    obtain ⟨t, h1, h2⟩ := hbody cdv A outer s H E W g rs kd x hr c hx
    exact ⟨t, h1, h2 [] H (L2.start N vs) _ (sta0 o j) ⟨fun ps' g' H' σ' ρ' q S' _ => hq _ _ g' H' q S'.base .non, fun d v g' H' q e t => hq d v g' H' q e t, fun _ _ _ _ _ q => q.elim, fun _ _ _ _ _ q => q.elim⟩⟩
/-- an __init__ that may raise -/
theorem Fun_initN {CX : CXT} {x qual : Str} {st : Stmt} {f : Addr} {fd : FuncData} {N ps : List Str} {k : Nat} {C : Ci G} {Cc : Addr} (F : Fun K x qual st f fd) (S : FnScope N ps (defScope st)) (len : ∀ W g rs k x, C W g rs k x → rs.length + 1 = ps.length)
    (hbody : ∀ (cdv : Value) (A : Around) (outer : List Env) (s : Shared) (H : Hp) (E : XK) (W : Wd G) (g : G) (p : Addr) (rs : List Rs) (kd : List (Str × D) → G → Prop) (x : Value → G → Prop), Room k (A.deeper (PyProof.Rows.envOfC qual (defScope st) s.heap.objs.size f cdv)) → C W g rs kd x → (∀ c g' H', x c g' → Ext W (hole H p) g' H' → E c none H') →
      ∃ t, PSs (cxOf CX P w K mg base N qual (defScope st) f cdv A outer s H E) (defBody st) t ∧
        wpS W (hole H p) g (.oi p Cc [] :: (st0 N.length (.b [] :: rs)).tail) t ⟨fun ρ' g' => ∃ fs, ρ'[0]? = some (.oi p Cc fs) ∧ kd fs g', fun _ _ => False, fun _ _ => False, fun _ _ => False⟩) : FnOk P w K mg base CX (k + 1) f fd ps (inSp Cc C) := by
  refine TL.Fun.okC F S (fun vs H Q E h => ?_) fun cdv A outer s H vs Q E hr h => ?_
  · obtain ⟨W, g, rs, kd, x, p, dx, us, rfl, hp, j, o, c, _⟩ := h
    rw [List.length_cons, o.length]; exact len W g rs kd x c
  · obtain ⟨W, g, rs, kd, x, p, dx, us, rfl, hp, j, o, c, hq, hx⟩ := h
    obtain ⟨t, h1, h2⟩ := hbody cdv A outer s H E W g p rs kd x hr c hx
    refine ⟨t, h1, h2 _ H _ _ (staI o j hp) ⟨fun ps' g' H' σ' ρ' q S' _ => ?_, fun d v g' H' q => q.elim, fun _ _ _ _ _ q => q.elim, fun _ _ _ _ _ q => q.elim⟩⟩
    obtain ⟨fs, q0, q⟩ := q
    obtain ⟨dy, gs, e1, hm, hp', t', nM⟩ := S'.oiAt q0
    exact hq fs gs dy g' H' q S'.base nM hp' (DtF.mono (fun a u m e => ⟨fun z => m (pin_m z), e⟩) _ _ t')
/-- a def that gives a new list to the caller alone, and may raise -/
theorem Fun_tFN {CX : CXT} {x qual : Str} {st : Stmt} {f : Addr} {fd : FuncData} {N ps : List Str} {k : Nat} {C : Cf G} (F : Fun K x qual st f fd) (S : FnScope N ps (defScope st)) (len : ∀ W g rs k x, C W g rs k x → rs.length = ps.length)
    (hbody : ∀ (cdv : Value) (A : Around) (outer : List Env) (s : Shared) (H : Hp) (E : XK) (W : Wd G) (g : G) (rs : List Rs) (kd : List D → G → Prop) (x : Value → G → Prop), Room k (A.deeper (PyProof.Rows.envOfC qual (defScope st) s.heap.objs.size f cdv)) → C W g rs kd x → (∀ c g' H', x c g' → Ext W H g' H' → E c none H') →
      ∃ t, PSs (cxOf CX P w K mg base N qual (defScope st) f cdv A outer s H E) (defBody st) t ∧ wpS W H g (st0 N.length rs) t (frK H kd)) : FnOk P w K mg base CX (k + 1) f fd ps (mkSpF C) := by
  refine TL.Fun.okC F S (fun vs H Q E h => ?_) fun cdv A outer s H vs Q E hr h => ?_
  · obtain ⟨W, g, rs, kd, x, o, j, c, _⟩ := h
    rw [o.length]; exact len W g rs kd x c
  · obtain ⟨W, g, rs, kd, x, o, j, c, hq, hx⟩ := h
    obtain ⟨t, h1, h2⟩ := hbody cdv A outer s H E W g rs kd x hr c hx
    exact ⟨t, h1, h2 [] H (L2.start N vs) _ (sta0 o j) ⟨fun ps' g' H' σ' ρ' q S' _ => q.elim, fun d v g' H' ⟨ds, ed, q⟩ e t => frDone hq q e (ed ▸ t), fun _ _ _ _ _ q => q.elim, fun _ _ _ _ _ q => q.elim⟩⟩
end

/-! ### a def that is called with the exception that is handled -/
structure FnE (P : Program) (w : World) (K : PySem.W.Frag) (mg : Str → Option Value) (base : Heap) (CX : CXT) (k : Nat) (f : Addr) (fd : FuncData) (ps : List Str) (sp : Addr → Addr → Sp) : Prop where
  len : ∀ D a vs H Q E, sp D a vs H Q E → vs.length = ps.length
  run : ∀ (A : Around) (outer : List Env) (s : Shared) (H : Hp) (args : Args) (us : List Value) (vs : List V) (Q : VK) (E : XK) (p : Addr × Obj) (D : Addr), RoomH k A → Hot1 A p → Zc (.ref D) none p.2 → PinOk outer H s p → Env0 P w K mg base A outer s H → BindsTo s fd args (ps.zip us) → Vals vs us → sp D p.1 vs H Q E →
    codeAny (model P w) A (.call (.ref f) args) (CR CX outer P w H s Q E) s
section
variable {P : Program} {w : World} {K : PySem.W.Frag} {mg : Str → Option Value} {base : Heap} {G : Type} [Gh G]
theorem Fun.okE {CX : CXT} {x qual : Str} {st : Stmt} {f : Addr} {fd : FuncData} {N ps : List Str} {k : Nat} {sp : Addr → Addr → Sp} (F : Fun K x qual st f fd) (S : FnScope N ps (defScope st)) (len : ∀ D a vs H Q E, sp D a vs H Q E → vs.length = ps.length)
    (hbody : ∀ (cdv : Value) (A : Around) (outer : List Env) (s : Shared) (H : Hp) (vs : List V) (Q : VK) (E : XK) (p : Addr × Obj) (D : Addr), Hot1 A p → Zc (.ref D) none p.2 → RoomH k (A.deeper (envOfC qual (defScope st) s.heap.objs.size f cdv)) → sp D p.1 vs H Q E →
      ∃ t, PSs (cxH CX P w K mg base N qual (defScope st) f cdv A outer s H E p) (defBody st) t ∧ t { nx := fun _ H' => Q .non H', rt := Q } (start N vs) H) : FnE P w K mg base CX (k + 1) f fd ps sp := by
  obtain ⟨oc, od, kV, doc, pm, an, cdv, ct, osl, rfl, lk, hcd⟩ := F.ex
  refine ⟨len, fun A outer s H args us vs Q E p D room hot hz pok env0 bnd vals want => ?_⟩
  have cnt := len _ _ _ _ _ _ want
  have inK : K.In s.heap := env0.mod.kin.keeps fun b o e => (env0.bs b o e).1
  have noLim : s.heap.NoLimit := env0.mod.nolimit.keeps fun b o e => (env0.bs b o e).1
  have places : ∀ y ∈ ps.zip us, (defScope st).names.lookup y.1 = some .local ∨ ((defScope st).names.lookup y.1 = some .cell ∧ ((cellsFrom (s.heap.objs.size + 1) (defScope st).names []).lookup y.1).isSome = true) := fun y hy =>
    (S.par y.1 (List.of_mem_zip hy).1).imp id fun q => ⟨q, PySem.W.cellsFrom_some _ _ _ (.inl q)⟩
  refine codeAny_call_function room.depth (inK _ _ lk) rfl S.co S.gen rfl (PySem.W.codeRec_of inK hcd) (bnd _ _ _ _ ?_)
  refine wpAny_newFunctionEnv_cells S.kind places fun env he s1 ic => ?_
  subst he
  refine ⟨noLim.keeps ic.toInCall.keep, codeAny_func ?_⟩
  obtain ⟨t, ht, fin⟩ := hbody cdv A outer s H vs Q E p D hot hz (room.deeper _) want
  have I : Inv (cxH CX P w K mg base N qual (defScope st) f cdv A outer s H E p) [] (L2.start N vs) H s1 := inv_startH S pok env0 cnt vals ic
  refine wpAny_mono (ht.run [] s1 (L2.start N vs) H _ I fin) (fun fl s2 end_ => ?_) fun _ _ z => z
  cases fl with
  | ret u =>
    obtain ⟨v, _, H2, J, rv, q⟩ := end_
    exact ⟨v, H2, J.os, J.bare, J.base, J.hok, rv, q⟩
  | next =>
    obtain ⟨_, H2, J, q⟩ := end_
    exact ⟨V.non, H2, J.os, J.bare, J.base, J.hok, rfl, q⟩
  | brk =>
    obtain ⟨_, _, _, z⟩ := end_
    exact z.elim
  | cont =>
    obtain ⟨_, _, _, z⟩ := end_
    exact z.elim
theorem Fun_e {x qual : Str} {st : Stmt} {f : Addr} {fd : FuncData} {N ps : List Str} {k : Nat} {C : Addr → Addr → Ct G} (F : Fun K x qual st f fd) (S : FnScope N ps (defScope st)) (len : ∀ D a W g rs k x, C D a W g rs k x → rs.length = ps.length)
    (hbody : ∀ (cdv : Value) (A : Around) (outer : List Env) (s : Shared) (H : Hp) (E : XK) (p : Addr × Obj) (D : Addr) (W : Wd G) (g : G) (rs : List Rs) (kd : TL.D → G → Prop) (x : Value → G → Prop), Hot1 A p → Zc (.ref D) none p.2 → RoomH k (A.deeper (PyProof.Rows.envOfC qual (defScope st) s.heap.objs.size f cdv)) → C D p.1 W g rs kd x →
      ∃ t, PSs (cxH CX0 P w K mg base N qual (defScope st) f cdv A outer s H E p) (defBody st) t ∧ wpS W H g (st0 N.length rs) t ⟨fun _ => kd .non, kd, fun _ _ => False, fun _ _ => False⟩) : FnE P w K mg base CX0 (k + 1) f fd ps (fun D a => mkSp (C D a)) := by
  refine TL.Fun.okE F S (fun D a vs H Q E h => ?_) fun cdv A outer s H vs Q E p D hot hz hr h => ?_
  · obtain ⟨W, g, rs, kd, x, o, j, c, _⟩ := h
    rw [o.length]; exact len D a W g rs kd x c
  · obtain ⟨W, g, rs, kd, x, o, j, c, hq, hx⟩ := h
    obtain ⟨t, h1, h2⟩ := hbody cdv A outer s H E p D W g rs kd x hot hz hr c
    exact ⟨t, h1, h2 [] H (L2.start N vs) _ (sta0 o j) ⟨fun ps' g' H' σ' ρ' q S' _ => hq _ _ g' H' q S'.base .non, fun d v g' H' q e t => hq d v g' H' q e t, fun _ _ _ _ _ q => q.elim, fun _ _ _ _ _ q => q.elim⟩⟩
end
section
variable {X : Cx} {k : Nat} {f : Addr} {fd : FuncData} {ps : List Str} {sp : Addr → Addr → Sp} {x : Str} {q pos : Pos} {e : Expr} {es : List Expr} {t : TA} {a : Addr} {oe : Obj} {pn : List (Addr × Obj)} {cls : Value} {d : Option Addr}
/-- such a call in an except suite -/
def tCallE (sp : Addr → Addr → Sp) (cls : Value) (d : Option Addr) (a : Addr) (t : TA) : TE := fun σ H Q => t σ H fun vs H1 => ∃ D, cls = .ref D ∧ d = none ∧ sp D a vs H1 Q E0
theorem pe_callE (F : FnE X.prog X.w X.K X.mg X.base CX0 k f fd ps sp) (hr : Room k X.A) (hz : L2N.Zn cls d oe) (hf : ∃ vs, oe.data = .fields vs) (hg : Gl X x) (hm : X.mg x = some (.ref f)) (hk : PySem.W.keepIn X.K (.ref f) = true) (hb : Binds X.K fd ps [])
    (ha : PA (X.suite a ((a, oe) :: pn)) (e :: es) t) (hdb : (x == ("__debug__" : Str)) = false := by decide) (he : starEach (e :: es) X.env = (false, eval e X.env) :: starEach es X.env := by rfl) (hpl : (backTo pos (starEach es X.env)).any (·.1) = false := by rfl) :
    PE (X.suite a ((a, oe) :: pn)) (.Call (.Name x q) (e :: es) [] pos) (tCallE sp cls d a t) := by
  refine ⟨fun pins s σ H Q I h => ?_⟩
  refine wpAny_Call_Name_kw (ld_glob I hg hm ?_ hdb)
  refine PySem.W.callWith_K (h₀ := (X.suite a ((a, oe) :: pn)).base) I.ok.mod.kin hk (thn (ha.run pos pins s σ H _ I h) fun us s1 ⟨vs, H1, I1, r, D, ec, ed, q⟩ => ⟨I1.kIn, ?_⟩) he hpl
  subst ec
  subst ed
  have hl : us.length = ps.length := by rw [← r.length]; exact F.len _ _ _ _ _ _ q
  have b := hb s1 us I1.kIn (by rw [List.append_nil]; exact hl)
  rw [List.append_nil] at b
  have P1 := I1.pin (a, oe) (List.mem_append_left _ List.mem_cons_self)
  have pok : PinOk X.stack H1 s1 (a, oe) := ⟨P1.1, P1.2.1, fun hm => (List.mem_cons.mp (I1.stkSub a hm)).elim P1.2.2.1 P1.2.2.2.1, P1.2.2.2.2⟩
  obtain ⟨vs1, hv1⟩ := hf
  have hot : Hot1 (X.suite a ((a, oe) :: pn)).A (a, oe) := ⟨rfl, vs1, hv1, hz.2.2 vs1 hv1⟩
  refine wpAny_call (codeAny_mono (F.run (X.suite a ((a, oe) :: pn)).A X.stack s1 H1 ⟨us, []⟩ us vs Q E0 (a, oe) D ⟨hr.dp, hr.un⟩ hot ⟨hz.1, hz.2.1⟩ pok I1.env0 b r q) fun r s' hq => ?_)
  cases r with
  | error e => exact hq.elim
  | ok fl =>
    cases fl with
    | ret u => exact I1.after hq
    | next => exact False.elim hq
    | brk => exact False.elim hq
    | cont => exact False.elim hq
end
section
variable {G : Type} [Gh G] {W : Wd G} {g : G} {H0 : Hp} {ρ : Rho} {te to : TE} {tg : TA} {k : Rs → G → Prop} {K : TK G} {F : PySem.W.Frag}
theorem e_callE {C : Addr → Addr → Ct G} {cls : Value} {dd : Option Addr} {a : Addr} (h : wpA W H0 g ρ tg fun rs g1 => ∃ D, cls = .ref D ∧ dd = none ∧ ∀ W', In W W' ρ → C D a W' g1 rs (fun d => k (.v d)) noX) : wpE W H0 g ρ (tCallE (fun D a => mkSp (C D a)) cls dd a tg) k := fun ps H σ S Q hq => h ps H σ S _ fun rs vs g1 H1 ⟨D, e1, e2, q⟩ e o =>
  ⟨D, e1, e2, _, g1, rs, _, _, o, e.j, q _ (S.to e).in_, fun d v g' H' kd e2 od => hq _ v g' H' kd (e.trans e2) (.v od), fun c g' H' z => z.elim⟩
/-! ### try: .. except X as n: .. (the suite returns) -/
def tTryAs (F : PySem.W.Frag) (c : Value) (i : Nat) (tb : WX → TS) (ts : Addr → Value → Option Addr → TS) (Wout : WX) : TS := fun D σ H => tb (wAs F c i ts Wout D) D σ H
theorem s_tryAs {c : Value} {i : Nat} {tb : WX → TS} {ts : Addr → Value → Option Addr → TS} {Wout : WX} (x : Value → G → Prop) (ok : ∀ cl g', x cl g' → PySem.W.exmOne F cl c = some true)
    (suite : ∀ a cl g', x cl g' → wpS W H0 g' (ρ.set i (.v (.raw (.ref a)))) (ts a cl none) K.ret) (body : ∀ Wx : WX, (∀ ps g' H σ cl, x cl g' → Sta W H0 ps g' H σ ρ → Wx cl none σ H) → wpS W H0 g ρ (tb Wx) K) : wpS W H0 g ρ (tTryAs F c i tb ts Wout) K := fun ps H σ De S k =>
  body (wAs F c i ts Wout De) (fun ps' g' H' σ' cl hx S' => ⟨true, ok cl g' hx, fun _ a _ => suite a cl g' hx ps' H' _ _ (S'.set (.raw (.ref a))) ⟨fun _ _ _ _ _ q => q.elim, k.rt, fun _ _ _ _ _ q => q.elim, fun _ _ _ _ _ q => q.elim⟩, fun q => nomatch q⟩) ps H σ De S k
end
theorem ps_tryAs {X : Cx} {x n : Str} {c : Value} {i : Nat} {body suite : List Stmt} {b₀ : Stmt} {np pos pos' : Pos} {tb : WX → TS} {ts : Addr → Value → Option Addr → TS} {Wout : WX} (hs : X.stack = X.env :: X.outer) (hf : X.env.frame = some X.env.locals) (hN : X.N.Nodup) (hi : X.N[i]? = some n) (hln : X.env.kindOf n = some .local) (hc : Names X x c) (tk : L2N.Takes X Wout)
    (hb : ∀ (W : WX) (pn : List (Addr × Obj)) (xe : Value → Shared → Prop), L2N.Takes (X.tr pn xe) W → PassesOwn (model X.prog X.w) X.A X.env xe → PSs (X.tr pn xe) body (tb W))
    (hsu : ∀ (a : Addr) (oe : Obj) (cls : Value) (d : Option Addr) (pn : List (Addr × Obj)), L2N.Zn cls d oe → (∃ vs, oe.data = .fields vs) → PSs (X.suite a ((a, oe) :: pn)) (b₀ :: suite) (ts a cls d)) :
    PS X (.Try body [.ExceptHandler (some (.Name x np)) (some n) (b₀ :: suite) pos'] [] [] pos) (tTryAs X.K c i tb ts Wout) := L2N.ps_try_as hs hf hN hi hln hc tk hb hsu

/-! ### isinstance of the exception that is handled -/
def rIsP (K : PySem.W.Frag) (D a : Addr) : List V → Hp → VK → Prop := fun xs H Q => (∃ (c : V) (cv : Value) (b : Bool), xs = [.ref a, c] ∧ (∀ u, RelV c u → u = cv) ∧ PySem.W.kitOne K (.ref D) cv = some b ∧ Q (.bl b) H) ∨
  ∃ (t : Addr) (Cs : List Addr) (b : Bool), xs = [.ref a, .ref t] ∧ SqT K H t (Cs.map V.ref) ∧ PySem.W.kitAny K (.ref D) (Cs.map Value.ref) = some b ∧ Q (.bl b) H
theorem refs_of {Cs : List Addr} : ∀ {its : List Value}, Vals (Cs.map V.ref) its → its = Cs.map Value.ref := by
  induction Cs with
  | nil => intro its r; cases r; rfl
  | cons C Cs ih =>
    intro its r
    cases r with
    | cons r1 r2 => rw [ih r2]; cases r1; rfl
theorem call_isP {X : Cx} {K : PySem.W.Frag} {a D : Addr} {oe : Obj} (kk : X.K = K) (C : ExcC K D) (hp : (a, oe) ∈ X.pn) (hz : Zc (.ref D) none oe) (hf : ∃ vs, oe.data = .fields vs) : CallR X (.builtin "isinstance") (rIsP K D a) := by
  subst kk
  intro pins s σ H xs us Q I r h
  obtain ⟨hget, _⟩ := I.pin (a, oe) (List.mem_append_left _ hp)
  obtain ⟨vs, hv⟩ := hf
  have J : PySem.W.InstAt s.heap a oe D none := by
    obtain ⟨oc, od, oda, osl⟩ := oe
    obtain ⟨h1, h2⟩ := hz
    dsimp only at h1 h2 hv
    subst h1 h2 hv
    exact ⟨hget, rfl, rfl, trivial⟩
  have Z := PySem.W.handS_kitx_exc (x := a) (ox := oe) C.hg C.hk C.hs C.hd C.ha C.hn C.ht C.hm
  rcases h with ⟨c, cv, b, rfl, hcv, e, q⟩ | ⟨t, Cs, b, rfl, hT, e, q⟩
  · cases r with
    | cons rx rr =>
      cases rr with
      | cons rt rr =>
        cases rr
        cases rx
        have ec := hcv _ rt
        subst ec
        exact PySem.W.kia_one Z I.kIn J e (fun z => nomatch z) fun tk => ⟨.bl b, H, I.kept (t' := tk) fun _ _ z => z, rfl, q⟩
  · cases r with
    | cons rx rr =>
      cases rr with
      | cons rt rr =>
        cases rr
        cases rx
        cases rt
        obtain ⟨its, rv, ⟨o, ho, hc, n, hd⟩, _⟩ := I.tuple hT
        rw [refs_of rv] at hd
        obtain ⟨oc, odd, oda, osl⟩ := o
        dsimp only at hc hd
        subst hc hd
        exact PySem.W.kia_tup Z I.kIn J ho e (fun z => nomatch z) fun tk => ⟨.bl b, H, I.kept (t' := tk) fun _ _ z => z, rfl, q⟩
section
variable {K : PySem.W.Frag} {k : Rs → Prop}
theorem c_isP {D a C : Addr} {b : Bool} (hk : PySem.W.kitOne K (.ref D) (.ref C) = some b) (q : k (.v (.bl b))) : wpC (rIsP K D a) [.v (.raw (.ref a)), .v (.raw (.ref C))] k := fun _ W g0 H vs J oo Q hq => by
  obtain ⟨v, u, rfl, o1, o2⟩ := oo.two
  rw [v_raw o1, v_raw o2]
  exact .inl ⟨_, .ref C, b, rfl, fun u r => (show u = _ from r), hk, hq _ _ H q (Ext.refl J) (.v (.bl b))⟩
theorem c_isPT {D a : Addr} {T : String} {b : Bool} (hk : PySem.W.kitOne K (.ref D) (.type T) = some b) (q : k (.v (.bl b))) : wpC (rIsP K D a) [.v (.raw (.ref a)), .v (.raw (.ty T))] k := fun _ W g0 H vs J oo Q hq => by
  obtain ⟨v, u, rfl, o1, o2⟩ := oo.two
  rw [v_raw o1, v_raw o2]
  exact .inl ⟨_, .type T, b, rfl, fun u r => (show u = _ from r), hk, hq _ _ H q (Ext.refl J) (.v (.bl b))⟩
theorem refs_dt {M : Addr → Prop} {H : Hp} : ∀ {Cs : List Addr} {xs : List V}, DtL M H (Cs.map fun C => D.raw (.ref C)) xs → xs = Cs.map V.ref
  | [], _, h => by cases h; rfl
  | C :: Cs, _, h => by
    cases h with
    | cons h1 h2 => cases h1; rw [refs_dt h2]; rfl
theorem c_isPs {D a : Addr} {Cs : List Addr} {b : Bool} (hk : PySem.W.kitAny K (.ref D) (Cs.map Value.ref) = some b) (q : k (.v (.bl b))) : wpC (rIsP K D a) [.v (.raw (.ref a)), .v (.tup (Cs.map fun C => TL.D.raw (.ref C)))] k := fun _ W g0 H vs J oo Q hq => by
  obtain ⟨v, u, rfl, o1, o2⟩ := oo.two
  rw [v_raw o1]
  obtain ⟨t, xs, rfl, e, dl, _⟩ := tup_at o2
  rw [refs_dt dl] at e
  exact .inr ⟨t, Cs, b, rfl, .inl (.inl e), hk, hq _ _ H q (Ext.refl J) (.v (.bl b))⟩
end

/-! ### texts: join, times -/
def rSRep : R2 := fun x y H Q => ∃ a k, x = .str a ∧ y = .int k ∧ (k = 0 ∧ Q (.str Str.empty) H ∨ k = 1 ∧ Q (.str a) H)
theorem op_srep {X : Cx} : OpR X (binaryOp .Mult) rSRep := fun pins s σ H x y v u Q I rx ry h => by
  obtain ⟨a, k, rfl, rfl, h⟩ := h
  obtain ⟨t, rfl⟩ := rx
  obtain ⟨t', rfl⟩ := ry
  rcases h with ⟨rfl, q⟩ | ⟨rfl, q⟩
  · exact PySem.P.mul_str_none (by decide) (by decide) ⟨.str _, H, I.tok _, ⟨_, rfl⟩, q⟩
  · refine PySem.P.mul_str (by decide) (fun _ z => absurd z (by simp)) (fun _ z => absurd z (by simp)) ?_
    rw [if_neg (by decide), if_pos (by simp)]
    exact ⟨.str _, H, I, ⟨_, rfl⟩, q⟩
theorem p_srep {a : Str} {b : Bool} {k : Rs → Prop} (q : k (.v (.str (if b then a else Str.empty)))) : wp2 rSRep (.v (.str a)) (.v (.int (if b then 1 else 0))) k := fun _ W g0 H v u J ox oy Q hq => by
  rw [v_str ox, v_int oy]
  cases b with
  | true => exact ⟨_, _, rfl, rfl, .inr ⟨rfl, hq _ _ H q (Ext.refl J) (.v (.str _))⟩⟩
  | false => exact ⟨_, _, rfl, rfl, .inl ⟨rfl, hq _ _ H q (Ext.refl J) (.v (.str _))⟩⟩
def rJoin (K : PySem.W.Frag) : V → List V → Hp → VK → Prop := fun x xs H Q => ∃ a p, ∃ ys : List Str, x = .str a ∧ xs = [.ref p] ∧ (SqL K H p (ys.map V.str) ∨ SqT K H p (ys.map V.str)) ∧
  (ys.map (·.length)).sum + ys.length * a.length ≤ 16777216 ∧ Q (.str (Txt.join a ys)) H
theorem pe_joinK {X : Cx} {K : PySem.W.Frag} {o e : Expr} {to te : TE} {apos pos : Pos} (kk : X.K = K) (ho : PE X o to) (he : PE X e te) (hs : starEach [e] X.env = [(false, eval e X.env)] := by rfl) (hbase : attributeBase o "join" X.env (eval o X.env) = eval o X.env := by rfl) (hline : (apos.endLine == pos.line) = true := by rfl) :
    PE X (.Call (.Attribute o "join" apos) [e] [] pos) (tM1 (rJoin K) to te) := by subst kk; exact pe_join ho he hs hbase hline
theorem strs_dt {M : Addr → Prop} {H : Hp} : ∀ {ys : List Str} {xs : List V}, DtL M H (ys.map D.str) xs → xs = ys.map V.str
  | [], _, h => by cases h; rfl
  | C :: Cs, _, h => by
    cases h with
    | cons h1 h2 => cases h1; rw [strs_dt h2]; rfl
theorem e_join {G : Type} [Gh G] {W : Wd G} {g : G} {H0 : Hp} {ρ : Rho} {te to : TE} {k : Rs → G → Prop} {K : PySem.W.Frag} (h : wpE W H0 g ρ to fun x g1 => ∃ a, x = .v (.str a) ∧ wpE W H0 g1 ρ te fun y g2 => ∃ ys : List Str, LstOf y (ys.map D.str) ∧ (ys.map (·.length)).sum + ys.length * a.length ≤ 16777216 ∧ k (.v (.str (Str.join a ys))) g2) :
    wpE W H0 g ρ (tM1 (rJoin K) to te) k := fun ps H σ S Q hq => h ps H σ S _ fun x v g1 H1 q e o => by
  obtain ⟨a, rfl, q⟩ := q
  rw [v_str o]
  refine ⟨⟨a, rfl⟩, q ps H1 σ (S.to e) _ fun y u g2 H2 q2 e2 o2 => ?_⟩
  obtain ⟨ys, l, hz, q2⟩ := q2
  obtain ⟨b, xs, rfl, hb, t, _⟩ := l.at e2.j o2
  rw [strs_dt t] at hb
  exact ⟨a, b, ys, rfl, rfl, .inl (.inl (.inl hb)), hz, by rw [TL.join_eq]; exact hq _ _ g2 H2 q2 (e.trans e2) (.v (.str _))⟩
theorem hot_data {A : Around} {p : Addr × Obj} (h : Hot1 A p) : ∃ vs, p.2.data = .fields vs := ⟨h.2.choose, h.2.choose_spec.1⟩
theorem kit_ownT {K : PySem.W.Frag} {C : Addr} {T : String} (h : PySem.W.subIn K (.ref C) (.type T) = some true) (m : PySem.W.kitMeta T = true) : PySem.W.kitOne K (.ref C) (.type T) = some true := by
  unfold PySem.W.kitOne PySem.W.kitCls
  dsimp only
  rw [m, if_pos rfl, h]
  split <;> rfl
/-! ### a function of a module, by an imported name -/
section
variable {X : Cx} {x : Str} {id : String} {r : List V → Hp → VK → Prop} {e : Expr} {es : List Expr} {t : TA} {p pos : Pos}
theorem pe_callBfun (hc : CallR X (.builtin id) r) (hg : Gl X x) (hm : X.mg x = some (.builtin id)) (ha : PA X (e :: es) t) (hdb : (x == ("__debug__" : Str)) = false := by decide)
    (he : starEach (e :: es) X.env = (false, eval e X.env) :: starEach es X.env := by rfl) (hpl : (backTo pos (starEach es X.env)).any (·.1) = false := by rfl) : PE X (.Call (.Name x p) (e :: es) [] pos) (tCB r t) := by
  refine ⟨fun pins s σ H Q I h => ?_⟩
  refine wpAny_Call_Name_kw (ld_glob I hg hm ?_ hdb)
  exact PyProof.Rows.callWith_builtin1 (thn (ha.run pos pins s σ H _ I h) fun us s1 ⟨vs, H1, I1, r1, q1⟩ => hc pins s1 σ H1 vs us Q I1 r1 q1) he hpl
end
theorem c_gcd {i j : Int} {k : Rs → Prop} (q : k (.v (.int ((Nat.gcd i.natAbs j.natAbs : Nat) : Int)))) : wpC rGcd [.v (.int i), .v (.int j)] k := fun _ W g0 H vs J oo Q hq => by
  obtain ⟨v, u, rfl, o1, o2⟩ := oo.two
  rw [v_int o1, v_int o2]
  exact ⟨i, j, rfl, hq _ _ H q (Ext.refl J) (.v (.int _))⟩
end TL
set_option Elab.async false
set_option linter.all false
set_option maxRecDepth 100000
set_option maxHeartbeats 1000000
namespace TL
open PySem PySem.Spec L2 PyProof.Rows
/-! ### methods that give a new list, and may raise -/
section
variable {X : Cx} {CX : CXT} {k : Nat} {f C : Addr} {fd : FuncData} {ps : List Str} {sp : Sp} {E : L2.St → XK} {m : Str} {pos apos : Pos} {o : Expr} {ta : TE}
theorem pe_methW0 {pl : Sem Bool} (he : PE X o ta) (c : Cls X.K C) (hm : Meth X.K C m f) (F : FnOk X.prog X.w X.K X.mg X.base CX k f fd ps sp) (hr : Room k X.A) (hb : Binds X.K fd ps []) (hx : ∀ σ, PassesAt CX X σ (E σ))
    (ht : eval (.Call (.Attribute o m apos) [] [] pos) X.env = (do
      let ov ← eval o X.env
      standAt apos.atName
      let (f, first) ← holding [ov] (getMethod ov m pl)
      callWith pos f first (backTo pos (starEach [] X.env)) (backToKw pos (keywordEach [] X.env))) := by rfl) :
    PE X (.Call (.Attribute o m apos) [] [] pos) (tMethW C m sp E ta tNil) := by
  refine ⟨fun pins s σ H Q I h => PySem.W.methodCall_KW (pl := pl) (thn (he.run pins s σ H _ I h) fun u s1 ⟨x, H1, I1, rx, a, dx, fs, ex, ea, l, q⟩ => ?_) ht⟩
  subst ex
  obtain rfl : u = Value.ref a := rx
  refine getmeth_ok I1 ea c hm l ?_
  exact PySem.W.callWith_K0 (first := [.ref a]) I1.kIn hm.kp (run_fnS (us := [.ref a]) (vs := [.ref a]) F hr hb (hx σ) I1 (.cons rfl .nil) q)
end
section
variable {G : Type} [Gh G] {W : Wd G} {g : G} {H0 : Hp} {ρ : Rho} {ta : TE} {tg : TA} {k : Rs → G → Prop} {Ca : Cf G} {Cc : Addr} {m : Str} {x : Value → G → Prop} {Wx : WX} {E : XK} {kn : List D → G → Prop}
theorem n_methF (h : wpE W H0 g ρ ta fun r g1 => ∃ fs, r = .v (.ins Cc fs) ∧ fs.lookup m = none ∧ wpA W H0 g1 ρ tg fun zs g2 => ∀ W', In W W' ρ → Ca W' g2 (r :: zs) kn noX) :
    wpN W H0 g ρ (tMeth Cc m (mkSpF Ca) [] E ta tg) kn := fun ps H σ S Q hq => h ps H σ S _ fun r v g1 H1 q e o => by
  obtain ⟨fs, rfl, l, q⟩ := q
  have o' := o
  cases o with
  | v o =>
    cases o with
    | ins n p t =>
      refine ⟨_, _, _, rfl, p, t.lookupN l, q ps H1 σ (S.to e) _ fun rs vs g2 H2 q2 e2 o2 => ?_⟩
      show mkSpF Ca (_ :: (vs ++ [])) H2 Q E
      rw [List.append_nil]
      exact ⟨_, g2, _, kn, _, .cons (o'.ext e2) o2, e2.j, q2 _ (S.to (e.trans e2)).in_, fun ds a xs g' H' kd hn e3 ha t => hq ds a xs g' H' kd ((e.trans e2).free hn) ((e.trans e2).trans e3) ha t, fun c g' H' z => z.elim⟩
theorem n_methWF (hx : ∀ ps g' H σ c, x c g' → Sta W H0 ps g' H σ ρ → Wx c none σ H) (h : wpE W H0 g ρ ta fun r g1 => ∃ fs, r = .v (.ins Cc fs) ∧ fs.lookup m = none ∧ wpA W H0 g1 ρ tg fun zs g2 => ∀ W', In W W' ρ → Ca W' g2 (r :: zs) kn x) :
    wpN W H0 g ρ (tMethW Cc m (mkSpF Ca) (WE Wx) ta tg) kn := fun ps H σ S Q hq => h ps H σ S _ fun r v g1 H1 q e o => by
  obtain ⟨fs, rfl, l, q⟩ := q
  have o' := o
  cases o with
  | v o =>
    cases o with
    | ins n p t =>
      exact ⟨_, _, _, rfl, p, t.lookupN l, q ps H1 σ (S.to e) _ fun rs vs g2 H2 q2 e2 o2 => ⟨_, g2, _, kn, _, .cons (o'.ext e2) o2, e2.j, q2 _ (S.to (e.trans e2)).in_, fun ds a xs g' H' kd hn e3 ha t => hq ds a xs g' H' kd ((e.trans e2).free hn) ((e.trans e2).trans e3) ha t, fun c g' H' z e3 => hx ps g' H' σ c z (S.to ((e.trans e2).trans e3))⟩⟩
end
theorem c_reprQb {n w : Nat} {ds : List D} {k : Rs → Prop} {K : PySem.W.Frag} (h : Rq n w (.lst ds)) (hn : n ≤ 60) (hw : w ≤ 63000) (q : k (.v (.str (D.shows (.lst ds))))) : wpC (rReprA K) [.b ds] k := fun _ W g0 H vs J oo Q hq => by
  obtain ⟨v, rfl, o⟩ := oo.one
  have len : (D.py (.lst ds)).shown.length ≤ sizeLine := by
    have := PyData.shown_le 260 (by decide) (D.py (.lst ds)) h.lea
    have e : sizeLine = 16777216 := sizeLine_eq
    have := h.wei
    omega
  have hp : ∃ m, n = m + 1 ∧ ∀ d ∈ ds, Pl m d := by
    cases h.pl with
    | lst z => exact ⟨_, rfl, z⟩
  obtain ⟨m, rfl, hp⟩ := hp
  obtain ⟨d1, d2, d3⟩ := (PlR.b hp).dp (K := K) J o
  exact ⟨v, D.py (.lst ds), rfl, .inl ⟨d1, h.dic⟩, h.sho, Nat.le_trans d3 hn, len, hq _ _ H q (Ext.refl J) (.v (.str _))⟩
theorem hu64s {k : Nat} {A : Around} {v : Option Value} (hr : Room k A) : (A.mark v).units + 64 < cLine := by have h := hu64 hr; exact h
theorem hu64h {k : Nat} {A : Around} (hr : L2H.RoomH k A) : A.units + 64 < cLine := by have := hr.un; omega
end TL
set_option Elab.async false
set_option linter.all false
set_option maxRecDepth 100000
set_option maxHeartbeats 1000000
namespace TL
open PySem PySem.Spec L2 PyProof.Rows
/-! ### what may stand at the right of & and | -/
theorem bty_tab : ∀ T ∈ ["NoneType", "bool", "int", "str", "list", "tuple", "dict"], ((PySem.W.findIn [] (.type T) (PySem.dunder "and")).isSome && (PySem.W.findIn [] (.type T) (PySem.dunder "or")).isSome && (PySem.W.findIn [] (.type T) (dunderR "and")).isSome && (PySem.W.findIn [] (.type T) (dunderR "or")).isSome) = true := by decide +kernel
theorem bty_builtin {K : PySem.W.Frag} {C : Addr} {op : Operator} {T : String} (hT : T ∈ ["NoneType", "bool", "int", "str", "list", "tuple", "dict"]) (h : op = .BitAnd ∨ op = .BitOr) : BinTy K C op (.type T) := by
  have t := bty_tab T hT
  rw [Bool.and_eq_true, Bool.and_eq_true, Bool.and_eq_true] at t
  obtain ⟨⟨⟨a, b⟩, c⟩, d⟩ := t
  rcases h with rfl | rfl
  · obtain ⟨fo, a⟩ := Option.isSome_iff_exists.mp a
    obtain ⟨ro, c⟩ := Option.isSome_iff_exists.mp c
    exact .inr (.inl ⟨T, fo, ro, rfl, a, c, sub_builtin K C T hT⟩)
  · obtain ⟨fo, b⟩ := Option.isSome_iff_exists.mp b
    obtain ⟨ro, d⟩ := Option.isSome_iff_exists.mp d
    exact .inr (.inl ⟨T, fo, ro, rfl, b, d, sub_builtin K C T hT⟩)
theorem noOp_mk {K : PySem.W.Frag} {D : Addr} {nm : String} {oc : Value} {od : Option Addr} {cd : ClassData} {sl : Array (Option Value)} (l : K.lookup D = some ⟨oc, od, .cls cd, sl⟩) (m : cd.mro = [.ref D, .type "object"]) (h1 : PySem.W.findIn K (.ref D) (PySem.dunder nm) = some none) (h2 : PySem.W.findIn K (.ref D) (dunderR nm) = some none)
    (h3 : PySem.W.findIn [] (.type "object") (PySem.dunder nm) = some none) (h4 : PySem.W.findIn [] (.type "object") (dunderR nm) = some none) : NoOp K D nm :=
  ⟨cd, by unfold PySem.W.clsIn; rw [l], m, h1, h2, h3, h4⟩
section
variable {X : Cx} {CX : CXT} {n : Nat} {C f : Addr} {fd : FuncData} {ps : List Str} {sp : Sp} {E : L2.St → XK} {op : Operator} {a b : Expr} {ta tb : TE} {pos : Pos} {K : PySem.W.Frag}
theorem pe_binSK (kk : X.K = K) (h : BinOf K C op f) (F : FnOk X.prog X.w K X.mg X.base CX n f fd ps sp) (hb : Binds K fd ps []) (hr : Room n X.A) (hx : ∀ σ, PassesAt CX X σ (E σ)) (ha : PE X a ta) (hb' : PE X b tb) : PE X (.BinOp a op b pos) (tBinS K C op sp E ta tb) := by
  subst kk; exact pe_binS h F hb hr hx ha hb'
end
section
variable {G : Type} [Gh G] {W : Wd G} {g : G} {H0 : Hp} {ρ : Rho} {ta tb tc : TE} {K : TK G} {i j l : Nat}
/-- a, b, c = [..], [..], [..] -/
theorem s_par3L (h : wpN W H0 g ρ ta fun ds1 g1 => wpN W H0 g1 ρ tb fun ds2 g2 => wpN W H0 g2 ρ tc fun ds3 g3 => K.nx (((ρ.set i (.ow ds1)).set j (.ow ds2)).set l (.ow ds3)) g3) : wpS W H0 g ρ (tPar3 i j l (tCons ta (tCons tb (tCons tc tNil)))) K := fun ps H σ De S k =>
  h ps H σ S _ fun ds1 a1 xs1 g1 H1 q1 hn1 e1 ha1 t1 => by
    obtain ⟨S1, n1⟩ := S.grow (o := some (.lst xs1)) e1 hn1 ha1 rfl
    refine q1 _ H1 σ S1 _ fun ds2 a2 xs2 g2 H2 q2 hn2 e2 ha2 t2 => ?_
    obtain ⟨S2, n2⟩ := S1.grow (o := some (.lst xs2)) e2 hn2 ha2 rfl
    refine q2 _ H2 σ S2 _ fun ds3 a3 xs3 g3 H3 q3 hn3 e3 ha3 t3 => ?_
    obtain ⟨T1, _⟩ := S.ownNew (i := i) e1 hn1 ha1 t1
    obtain ⟨T2, _⟩ := T1.ownNew (i := j) e2 hn2 ha2 t2
    obtain ⟨T3, n3⟩ := T2.ownNew (i := l) e3 hn3 ha3 t3
    exact ⟨_, _, _, rfl, k.nx _ _ _ _ _ q3 T3 ((n1.trans n2 S1.j).trans n3 S2.j)⟩
end
end TL
set_option Elab.async false
set_option linter.all false
set_option maxRecDepth 100000
set_option maxHeartbeats 1000000
/-! list comprehensions whose elements may raise -/
namespace TLH
open PySem PySem.Spec PyProof.Rows L2
/-- the end of a block, whose context is told -/
def endX (M : Model) (A : Around) (E : Value → Shared → Prop) (Q : Value → Shared → Prop) (acc : Value) (ce : Env) (r : Result) (s' : Shared) : Prop :=
  match r with
  | .ok _ => ∃ m, s'.heap.Ns ce.locals m ∧ ∀ h', Heap.SameBut ce.locals s'.heap h' → Q acc { s' with heap := h' }
  | .error x => ∃ m, s'.heap.Ns ce.locals m ∧ ∀ h', Heap.SameBut ce.locals s'.heap h' → wpAny M A (passOn "comprehension.variables-let-go" x ce : Sem Value) (fun _ _ => False) E { s' with heap := h' }
section
variable {M : Model} {A : Around} {E : Value → Shared → Prop} {env : Env} {s : Shared}
theorem comp_freeX {e : Expr} {scope : Scope} {pos : Pos} {newAcc first : Sem Value} {c0 : Comprehension} {cs : List Comprehension} {cl : List (Str × Addr)} {Q : Value → Shared → Prop}
    (split : clausesOf e = c0 :: cs) (plain : ∀ x, foldedSetIterable c0.iter env x = pure x) (clos : closureFor scope env = pure cl) (kind : scope.kind = .function) (names : ∀ x ∈ scope.names, x.2 = .local → scope.names.lookup x.1 = some .local)
    (h : wpAny M A first (fun x s₁ => wpAny M A (pyIter x) (fun it s₂ => wpAny M A newAcc (fun acc s₃ =>
      wpAny M A (newFunctionEnv scope env.globals cl [] env.qual none .none (some env)) (fun ce s₄ =>
        codeAny M A (.compStart e 0 it acc { ce with scope := relabel scope env }) (endX M A E Q acc { ce with scope := relabel scope env }) s₄) E s₃) E s₂) E s₁) E s) :
    wpAny M A (comprehension e scope env pos newAcc false first none) Q E s := by
  unfold comprehension
  rw [clos, split]
  refine wpAny_bind (wpAny_mono h (fun x s₁ h₁ => wpAny_bind (wpAny_standAt (wpAny_bind (wpAny_of_eq (plain x) (wpAny_bind (wpAny_holding (wpAny_mono h₁ (fun it s₂ h₂ =>
    wpAny_standIf (wpAny_bind (wpAny_mono h₂ (fun acc s₃ h₃ => wpAny_bind (wpAny_pure (wpAny_bind (wpAny_mono h₃ (fun ce s₄ h₄ => ?_) fun _ _ z => z)))) fun _ _ z => z)))
      fun _ _ z => z))))))) fun _ _ z => z)
  dsimp only
  have hv : ∀ x ∈ (scope.names.filter fun x => (x.2 == .local || x.2 == .cell) && x.1 != (".0" : Str)).reverse, x.2 = .local →
      Env.kindOf { ce with scope := relabel scope env } x.1 = some .local := fun x hx hl => lookup_relabel_local (names x (List.mem_filter.mp (List.mem_reverse.mp hx)).1 hl)
  refine wpAny_holding (wpAny_bind (wpAny_attempt (wpAny_holding (wpAny_run (codeAny_mono h₄ fun r s' hr => ?_)))))
  cases r with
  | ok f =>
    obtain ⟨m, hn, hr⟩ := hr
    exact wpAny_bind (wpAny_holding (wpAny_comp_letGo (cenv := { ce with scope := relabel scope env }) kind _ s' m hv hn fun h' m' _ sb => wpAny_pure (hr h' sb)))
  | error x =>
    obtain ⟨m, hn, hr⟩ := hr
    exact wpAny_bind (wpAny_holding (wpAny_comp_letGo (cenv := { ce with scope := relabel scope env }) kind _ s' m hv hn fun h' m' _ sb => wpAny_mono (hr h' sb) (fun _ _ f => f.elim) fun _ _ y => y))
end
/-! exceptions of a block: flying alone -/
def XEB (X : Cx) (W : WX) (u : Value) (s' : Shared) : Prop :=
  ∃ (a : Addr) (B : Heap) (sI : Shared) (pins : List (Addr × Obj)) (σ : L2.St) (H : Hp) (cls : Value) (d : Option Addr),
    u = .ref a ∧ Inv X pins σ H sI ∧ (∀ b o, sI.heap.get? b = some o → b ∉ frs X.stack → B.get? b = some o) ∧ sI.heap.UpToSlots s'.heap ∧
      HandSPX.FlyingZ B X.stack a (L2N.Zn cls d) s'.heap ∧ H a = none ∧ s'.os = sI.os ∧ AllBare s'.gens ∧ W cls d σ H
def TakesB (X : Cx) (W : WX) : Prop := ∀ u s', XEB X W u s' → X.xe u s'
section
variable {X : Cx} {pins : List (Addr × Obj)} {σ : L2.St} {H : Hp} {s s' : Shared} {W : WX} {E : XK}
theorem XEB.of_call (I : Inv X pins σ H s) (hW : ∀ cls d H', E cls d H' → W cls d σ H') {u : Value} (c : L2N.CX X.prog X.w X.stack H s E u s') : XEB X W u s' := by
  obtain ⟨a, B, H', cls, d, rfl, fl, hok, ub, na, os, ag, hE⟩ := c
  obtain ⟨G, g1, g2⟩ := restrict s'.heap fun b => (B.get? b).isSome || decide (b ∈ frs X.stack)
  have st : B.StaysIn s'.heap := fl.1
  have inB : ∀ b o, B.get? b = some o → G.get? b = some o := fun b o e => (g1 b (by simp [e])).trans (st b o e)
  have inF : ∀ b, b ∈ frs X.stack → G.get? b = s'.heap.get? b := fun b hb => g1 b (by simp [hb])
  have out : ∀ b o, G.get? b = some o → s'.heap.get? b = some o ∧ ((B.get? b).isSome = true ∨ b ∈ frs X.stack) := fun b o e => by
    cases q : ((B.get? b).isSome || decide (b ∈ frs X.stack)) with
    | false => rw [g2 b q] at e; cases e
    | true => exact ⟨(g1 b q).symm.trans e, by simpa [Bool.or_eq_true] using q⟩
  refine ⟨a, B, { s with heap := G, gens := s'.gens, drawn := s'.drawn, toks := s'.toks }, pins, σ, H', cls, d, rfl, ?_, fun b o e hb => ?_, Heap.UpToSlots.of_keeps fun b o e => (out b o e).1, fl, na, os, ag, hW _ _ _ hE⟩
  · refine I.call (ch := []) ⟨fun b o e n hb _ => inB b o (ub.keep b o e n hb), fun b o e n hb _ => ?_, fun b o e n _ => ub.free b o e n, fun b o e _ => ?_, ub.tups, ub.frzs, ub.tbls⟩ (hok.kept inB) ag (fun _ z => nomatch z)
    · obtain ⟨sl, q⟩ := ub.slot b o e hb
      exact ⟨sl, (inF b hb).trans q⟩
    · by_cases hb : b ∈ frs X.stack
      · obtain ⟨sl, q⟩ := ub.slot b o e hb
        exact ⟨_, (inF b hb).trans q⟩
      · obtain ⟨o', q⟩ := ub.there b o e hb
        exact ⟨o', inB b o' q⟩
  · obtain ⟨e', h⟩ := out b o e
    rcases h with h | h
    · obtain ⟨o', q⟩ := Option.isSome_iff_exists.mp h
      have z := st b o' q
      rw [e'] at z; cases z
      exact q
    · exact absurd h hb
theorem passAtB (tk : TakesB X W) (σ : L2.St) : PassesAt (L2N.CX X.prog X.w) X σ (WE W σ) := fun _ _ _ e s' I c => tk e s' (XEB.of_call I (fun _ _ _ h => h) c)
end
theorem frames_base {h h' B B' : Heap} (k : ∀ b o, h.get? b = some o → B.get? b = none → (∀ vs, o.data ≠ .fields vs) → h'.get? b = some o ∧ B'.get? b = none) : ∀ {l : List Env}, h.FunFrames B l → h'.FunFrames B' l
  | [], _ => trivial
  | _ :: _, ⟨h1, ⟨L, o, h2, h3, h4, h5⟩, h6⟩ => ⟨h1, ⟨L, o, h2, (k L o h4 h3 h5).2, (k L o h4 h3 h5).1, h5⟩, frames_base k h6⟩
theorem note_frame {a : Value} {e1 e2 : Env} (h : e1.frame = e2.frame) : noteFrame a e1 = noteFrame a e2 := by
  unfold noteFrame PySem.frameOf
  rw [h]
/-- an exception of a block goes on from the def -/
theorem blk_raise {X : Cx} {pins : List (Addr × Obj)} {σ : L2.St} {s3 : Shared} {H3 : Hp} {scope : Scope} {ce : Env} {fp : List Addr} {E : XK} {xe : Value → Shared → Prop} {acc : Value} {Qf : Value → Shared → Prop}
    (I3 : Inv X pins σ H3 s3) (hfp : ∀ b ∈ fp, FpOk X pins H3 b) (hs : X.stack = X.env :: X.outer) (hf : X.env.frame = some X.env.locals) (hcf : ce.frame = X.env.frame) (cL : ce.locals = s3.heap.objs.size) (tk : L2N.Takes X (fun cls d _ H => E cls d H))
    (u : Value) (s' : Shared) (x : XEB ((X.blk s3 H3 scope ce fp).wish xe) (fun cls d _ H => E cls d H) u s') : notedBy (model X.prog X.w) X.A ce (fun e s'' => endX (model X.prog X.w) X.A X.xe Qf acc ce (.error e) s'') u s' := by
  obtain ⟨a, B, sI, pinsb, σb, H, cls, d, rfl, J, nb, up, fl, na, os, ag, w⟩ := x
  have J : Inv (X.blk s3 H3 scope ce fp) pinsb σb H sI := J.unwish
  have nb : ∀ b o, sI.heap.get? b = some o → b ∉ frs X.stack → B.get? b = some o := nb
  show wpAny _ _ (noteFrame (.ref a) ce) _ _ s'
  rw [note_frame hcf]
  have hfr : X.A.frames = some (X.env :: X.outer) := by rw [I3.ok.frames, hs]
  have fl : HandSPX.FlyingZ B (X.env :: X.outer) a (L2N.Zn cls d) s'.heap := by rw [← hs]; exact fl
  refine PXN.looks_onZ L2N.Zn.steady hfr hf fl fun h3 held up3 => ?_
  have J3 : Inv (X.blk s3 H3 scope ce fp) pinsb σb H { s' with heap := h3 } := J.landed nb held.1 (up.trans up3) os ag
  have hHC : H ce.locals = none := J3.free
  obtain ⟨m, hn, _⟩ := J3.loc
  refine ⟨m, hn, fun h4 sb => ?_⟩
  obtain ⟨oC, _, _, hC, dC, _⟩ := id hn
  obtain ⟨k1, k2, k3, oe, vs, T, oT, ts, he, hz, hd, h1, hnT, hTe, hT, hdT, hfl⟩ := held
  have naC : a ≠ ce.locals := fun z => by
    rw [z] at he
    have he : h3.get? ce.locals = some oe := he
    have hC : h3.get? ce.locals = some oC := hC
    rw [hC] at he; cases he
    rw [dC] at hd; cases hd
  have nTC : T ≠ ce.locals := fun z => by
    rw [z] at hT
    have hC : h3.get? ce.locals = some oC := hC
    rw [hC] at hT; cases hT
    rw [dC] at hdT; cases hdT
  obtain ⟨B', b1, b2⟩ := restrict B fun b => decide (b ≠ ce.locals)
  have bB : ∀ b o, B'.get? b = some o → b ≠ ce.locals ∧ B.get? b = some o := fun b o e => by
    by_cases hb : b = ce.locals
    · rw [b2 b (decide_eq_false fun z => z hb)] at e; cases e
    · exact ⟨hb, (b1 b (decide_eq_true hb)).symm.trans e⟩
  have bN : ∀ b, B.get? b = none → B'.get? b = none := fun b e => by
    cases q : B'.get? b with
    | none => rfl
    | some o => rw [(bB b o q).2] at e; cases e
  have cfr : ∀ b ∈ frs X.stack, b ≠ ce.locals := fun b hb z => by
    obtain ⟨_, o, e, _⟩ := I3.stack.mem hb
    have := Heap.lt_size e
    rw [z, cL] at this
    exact Nat.lt_irrefl _ this
  have held4 : HandSPX.HeldZ B' (X.env :: X.outer) a (L2N.Zn cls d) X.env.locals h4 := by
    refine ⟨fun b o e => ?_, bN a k2, ?_, oe, vs, T, oT, ts, (sb.2 a naC).trans he, hz, hd, h1, bN T hnT, hTe, (sb.2 T nTC).trans hT, hdT, hfl⟩
    · obtain ⟨hb, e⟩ := bB b o e
      exact (sb.2 b hb).trans (k1 b o e)
    · obtain ⟨mI, hnI, _⟩ := J.loc
      obtain ⟨oI, _, _, hI, _⟩ := id hnI
      have hBC : B.get? ce.locals = some oI := nb _ _ hI fun z => cfr _ z rfl
      refine frames_base (fun b o e n _ => ?_) k3
      have hb : b ≠ ce.locals := fun z => by rw [z, hBC] at n; cases n
      exact ⟨(sb.2 b hb).trans e, bN b n⟩
  obtain ⟨q1, q2, q3, oe4, vs4, T4, oT4, ts4, he4, hz4, hd4, h14, hnT4, hTe4, hT4, hdT4, hfl4⟩ := id held4
  unfold PySem.passOn
  refine wpAny_bind (wpAny_field he4 hd4 h14 ?_)
  rw [if_neg (show ¬ ((Value.ref T4 == Value.none) = true) from by simp)]
  have fin : wpAny (model X.prog X.w) X.A (setFlight (.ref a) ce.frame) (fun _ s4 => wpAny (model X.prog X.w) X.A (throw (.ref a) : Sem Value) (fun _ _ => False) X.xe s4) X.xe { s' with heap := h4 } := by
    rw [hcf, hf]
    refine HandSPX.setFlight_onZ held4 fun h5 held5 up5 => wpAny_throw (tk _ _ ?_)
    obtain ⟨G, g1, g2⟩ := restrict h5 fun b => (B'.get? b).isSome || decide (b ∈ frs X.stack)
    have st : B'.StaysIn h5 := held5.1
    have inB : ∀ b o, B'.get? b = some o → G.get? b = some o := fun b o e => (g1 b (by simp [e])).trans (st b o e)
    have inF : ∀ b, b ∈ frs X.stack → G.get? b = h5.get? b := fun b hb => g1 b (by simp [hb])
    have out : ∀ b o, G.get? b = some o → h5.get? b = some o ∧ ((B'.get? b).isSome = true ∨ b ∈ frs X.stack) := fun b o e => by
      cases q : ((B'.get? b).isSome || decide (b ∈ frs X.stack)) with
      | false => rw [g2 b q] at e; cases e
      | true => exact ⟨(g1 b q).symm.trans e, by simpa [Bool.or_eq_true] using q⟩
    have low : ∀ b o, s3.heap.get? b = some o → b ≠ ce.locals := fun b o e z => by
      have := Heap.lt_size e
      rw [z, cL] at this
      exact Nat.lt_irrefl _ this
    have toG : ∀ b o, sI.heap.get? b = some o → b ∉ frs X.stack → b ≠ ce.locals → G.get? b = some o := fun b o e hb hc => inB b o ((b1 b (decide_eq_true hc)).trans (nb b o e hb))
    have slotG : ∀ b o, s3.heap.get? b = some o → H3 b = none → b ∈ frs X.stack → b ∉ fp → ∃ sl, G.get? b = some { o with slots := sl } := fun b o e n hb hx => by
      obtain ⟨_, o', e', hnf⟩ := I3.stack.mem hb
      rw [e] at e'; cases e'
      obtain ⟨s1, e1⟩ := J.base.slot b o e n hb hx
      obtain ⟨s2, e2⟩ := up b _ e1 hnf
      obtain ⟨s3', e3⟩ := up3 b _ e2 hnf
      have e4 := (sb.2 b (cfr b hb)).trans e3
      obtain ⟨s5, e5⟩ := up5 b _ e4 hnf
      exact ⟨s5, (inF b hb).trans e5⟩
    have held5' : HandSPX.HeldZ B' X.stack a (L2N.Zn cls d) X.env.locals h5 := by rw [hs]; exact held5
    refine ⟨a, B', { s3 with heap := G, gens := s'.gens, drawn := s'.drawn, toks := s'.toks }, pins, σ, H, cls, d, rfl, ?_, fun b o e hb => ?_, Heap.UpToSlots.of_keeps fun b o e => (out b o e).1, .inr (.inr held5'), na, os.trans J.os, ag, w⟩
    · refine I3.call' (ch := fp) rfl ⟨fun b o e n hb hx => toG b o (J.base.keep b o e n hb hx) hb (low b o e), slotG, J.base.free, fun b o e hx => ?_, J.base.tups, J.base.frzs, J.base.tbls⟩ (fun b o e => (J.hok b o e).stay (fun c v hc q => ?_) (fun _ q => q) fun _ _ q => q) ag fun b hb => ⟨(hfp b hb).2.2.2.1, (hfp b hb).2.1, (hfp b hb).2.2.2.2.1, (hfp b hb).2.2.2.2.2⟩
      · by_cases hb : b ∈ frs X.stack
        · obtain ⟨sl, q⟩ := slotG b o e (I3.stkFree b hb) hb hx
          exact ⟨_, q⟩
        · obtain ⟨o', q⟩ := J.base.there b o e hx
          exact ⟨o', toG b o' q hb (low b o e)⟩
      · have tr : ∃ z, H c = some z := by
          rcases hc with rfl | hc
          · exact ⟨_, e⟩
          · exact ⟨_, hc⟩
        obtain ⟨z, hz⟩ := tr
        refine toG c v q (fun m => ?_) (fun m => ?_)
        · have := J.stkFree c m
          rw [hz] at this; cases this
        · rw [m, hHC] at hz; cases hz
    · obtain ⟨e', h⟩ := out b o e
      rcases h with h | h
      · obtain ⟨o', q⟩ := Option.isSome_iff_exists.mp h
        have z := st b o' q
        rw [e'] at z; cases z
        exact q
      · exact absurd h hb
  first
    | exact wpAny_bind (wpAny_pure (wpAny_bind fin))
    | exact wpAny_bind fin
/-- a list comprehension whose element may raise -/
theorem pe_lcE {X : Cx} {elt tg iter : Expr} {ifs : List Expr} {scope : Scope} {own : List (Str × Nat)} {pos : Pos} {wi : TI} {g : TG} {tt : TT} {te : TE} {E : XK} (hc : X.calm = true) (hst : X.stack = X.env :: X.outer) (hfr : X.env.frame = some X.env.locals) (tk : L2N.Takes X (fun cls d _ H => E cls d H)) (hN : X.N.Nodup) (hi : PI X tg iter wi) (ok : BlkOk X.N X.env.scope scope own)
    (hg : ∀ (s : Shared) (H : Hp) (C : Addr) (cl : List (Str × Addr)) (fp : List Addr), PG (X.blk s H scope (compEnvC scope cl C X.env) fp) tg g) (ht : ∀ (s : Shared) (H : Hp) (C : Addr) (cl : List (Str × Addr)) (fp : List Addr), PTs (X.blk s H scope (compEnvC scope cl C X.env) fp) ifs tt)
    (he : ∀ (s : Shared) (H : Hp) (C : Addr) (cl : List (Str × Addr)) (fp : List Addr) (xe : Value → Shared → Prop), TakesB ((X.blk s H scope (compEnvC scope cl C X.env) fp).wish xe) (fun cls d _ H => E cls d H) → PE ((X.blk s H scope (compEnvC scope cl C X.env) fp).wish xe) elt te) (hs : ∀ x, foldedSetIterable iter X.env x = pure x := by intro _; rfl) :
    PE X (.ListComp elt [⟨tg, iter, ifs, 0⟩] scope pos) (tLc wi g tt te (own.map (·.2))) := by
  refine ⟨fun pins s σ H Q I h => ?_⟩
  rw [eval_ListComp]
  have hfree : ∀ y ∈ scope.names, y.2 = .free → ∃ c, X.env.cells.lookup y.1 = some c := fun y hy e => by
    rcases ok.free y hy e with k | k
    · exact I.ok.has _ (.inl k)
    · exact I.ok.has _ (.inr k)
  refine comp_freeX rfl hs (closure_ok hfree) ok.kind (fun y hy e => by rw [ok.uniq y hy, e])
    (thn (hi.run pins s σ H _ I h) fun xv s1 hx => thn hx fun itv s2 h2 => ?_)
  obtain ⟨it, fp, tn, J, H2, e, I2, T, st2, f2, q⟩ := h2
  subst e
  refine wpAny_newObj_type (newEnv_comp ?_) (by show 0 ≤ sizeLine; decide)
  generalize hD : s2.heap.objs.size = D
  have newD : H2 D = none := I2.hok.fresh (Nat.le_of_eq hD)
  obtain ⟨W, ⟨m0, w0⟩, turn⟩ := q D newD
  -- the new list
  generalize hs3 : ({ s2 with heap := s2.heap.push { cls := .type "list", data := .seq ([] : List Value).toArray } } : Shared) = s3
  have I3 : Inv X pins σ (upd H2 D (.lst [])) s3 := by
    rw [← hs3]
    refine I2.laid (t' := s2.toks) (fun b o e => Heap.get?_push_of_some _ e) (Nat.le_of_eq hD) ⟨Nat.zero_le _, [], 0, .nil, ?_⟩
    rw [← hD]
    exact Heap.get?_push_size _ rfl
  have h3 : s3.heap = s2.heap.push { cls := .type "list", data := .seq ([] : List Value).toArray } := by rw [← hs3]
  have sz : ∀ b ∈ fp, b < s2.heap.objs.size := fun b hb => by
    obtain ⟨o, e, _⟩ := T.obj _ _ st2 b hb
    exact Heap.lt_size e
  have f3 : ∀ b ∈ fp, FpOk X pins (upd H2 D (.lst [])) b ∧ b < s3.heap.objs.size := fun b hb => by
    have hlt := sz b hb
    refine ⟨⟨?_, (f2 b hb).2⟩, by rw [h3, Heap.size_push]; exact Nat.lt_succ_of_lt hlt⟩
    rw [upd_ne (by rw [← hD]; exact Nat.ne_of_lt hlt)]
    exact (f2 b hb).1
  have st3 : tn 0 s3.heap := T.keep _ _ _ st2 fun b _ o e => by rw [h3]; exact Heap.get?_push_of_some _ e
  have I4 := block_start I3 ok hN f3
  have pg := hg s3 (upd H2 D (.lst [])) s3.heap.objs.size (cellsFrom (s3.heap.objs.size + 1) scope.names (cloFrom X.env.cells scope.names [])) fp
  have pt := ht s3 (upd H2 D (.lst [])) s3.heap.objs.size (cellsFrom (s3.heap.objs.size + 1) scope.names (cloFrom X.env.cells scope.names [])) fp
  have pe := fun xe tkb => he s3 (upd H2 D (.lst [])) s3.heap.objs.size (cellsFrom (s3.heap.objs.size + 1) scope.names (cloFrom X.env.cells scope.names [])) fp xe tkb
  have hcf : (compEnvC scope (cellsFrom (s3.heap.objs.size + 1) scope.names (cloFrom X.env.cells scope.names [])) s3.heap.objs.size X.env).frame = X.env.frame := rfl
  show codeAny _ _ (.compStart (.ListComp elt [⟨tg, iter, ifs, 0⟩] scope pos) 0 (.ref it) (.ref D) (compEnvC scope (cellsFrom (s3.heap.objs.size + 1) scope.names (cloFrom X.env.cells scope.names [])) s3.heap.objs.size X.env)) (endX (model X.prog X.w) X.A X.xe (EP X pins σ Q) (.ref D) (compEnvC scope (cellsFrom (s3.heap.objs.size + 1) scope.names (cloFrom X.env.cells scope.names [])) s3.heap.objs.size X.env)) { s3 with heap := pushCells (s3.heap.push { cls := .type "dict", data := .dict #[] }) scope.names }
  have nfp : ∀ b ∈ fp, (upd H2 D (.lst [])) b = none := fun b hb => (f3 b hb).1.1
  generalize hce : compEnvC scope (cellsFrom (s3.heap.objs.size + 1) scope.names (cloFrom X.env.cells scope.names [])) s3.heap.objs.size X.env = ce at I4 pg pt pe hcf ⊢
  have cL : ce.locals = s3.heap.objs.size := by subst hce; rfl
  generalize hH3 : upd H2 D (.lst []) = H3 at I3 I4 pg pt pe w0 nfp f3
  generalize hs4 : ({ s3 with heap := pushCells (s3.heap.push { cls := .type "dict", data := .dict #[] }) scope.names } : Shared) = s4 at I4 ⊢
  have st4 : tn 0 s4.heap := T.keep _ _ _ st3 fun b _ o e => by rw [← hs4]; exact pushCells_keeps _ _ _ _ (Heap.get?_push_of_some _ e)
  have stat : ∀ {σ' : St} {H' : Hp} {s' : Shared}, Inv (X.blk s3 H3 scope ce fp) [] σ' H' s' → (∀ b ∈ fp, H' b = none) → ∀ b ∈ fp, FpOk (X.blk s3 H3 scope ce fp) [] H' b := fun {σ' H' s'} I' hn b hb =>
    ⟨hn b hb, (I'.ok.exf b hb).1, I'.ok.exfs b hb, .inl hb, fun x c e => (I'.ok.exf b hb).2 x c e, fun p hp => absurd (show p ∈ ([] : List (Addr × Obj)) ++ [] from hp) (by simp)⟩
  have loop : codeAny (model X.prog X.w) X.A (.compLoop (.ListComp elt [⟨tg, iter, ifs, 0⟩] scope pos) 0 (.ref it) (.ref D) ce) (endX (model X.prog X.w) X.A X.xe (EP X pins σ Q) (.ref D) ce) s4 := by
    refine compLoop_any (fun n s' => ∃ i H', Inv (X.blk s3 H3 scope ce fp) [] (wipe σ (own.map (·.2))) H' s' ∧ tn i s'.heap ∧ (∀ b ∈ fp, H' b = none) ∧ W i n H') ?_ m0 ⟨0, H3, I4, st4, nfp, w0⟩
    rintro n s5 ⟨i, H5, I5, st5, n5, w5⟩
    rcases turn i n H5 w5 with ⟨stop, qq⟩ | ⟨go, Nx, hNx, step⟩
    · have td := T.done (X.blk s3 H3 scope ce fp) rfl rfl rfl hc i [] s5 _ H5 (fun _ _ => False) I5 (stat I5 n5) st5 stop
      refine thnF td fun r s6 ⟨hr, I6⟩ => ?_
      subst hr
      -- back in the def's context
      have I7 : Inv X pins σ H5 s6 := I3.call' (ch := fp) I6.os I6.base I6.hok I6.bare fun b hb => ⟨(f3 b hb).1.2.2.2.1, (f3 b hb).1.2.1, (f3 b hb).1.2.2.2.2.1, (f3 b hb).1.2.2.2.2.2⟩
      have nC : H5 s3.heap.objs.size = none := by
        have z : H5 ce.locals = none := I6.free
        rw [cL] at z
        exact z
      obtain ⟨m, hn, _⟩ := I6.loc
      have hn : s6.heap.Ns ce.locals m := hn
      obtain ⟨f0, f1, f2', f3', f4, f5⟩ := I3.fpOk (Nat.le_refl _) nC
      refine ⟨m, hn, fun h'' sb => ?_⟩
      rw [cL] at sb
      exact ⟨.ref D, H5, I7.turned (t' := s6.toks) (fun b o hb e => (sb.2 b hb).trans e) f0 f1 f3' f4 f5, rfl, qq⟩
    · have ti := T.item (X.blk s3 H3 scope ce fp) rfl rfl rfl hc i [] s5 _ H5 (fun _ _ => False) I5 (stat I5 n5) st5 go
      refine thnF ti fun r s6 ⟨u, hr, h6⟩ => ?_
      subst hr
      refine thnF h6 fun _ s7 ⟨x, H7, I7, r7, y7, st7, n7⟩ => ?_
      have I7' := I7.pinned (stat I7 n7) (T.obj _ _ st7)
      refine thnF (pg.run _ s7 _ H7 x u _ I7' r7 (step x H7 y7)) fun _ s8 ⟨σ8, H8, I8, hw8, q8⟩ => ?_
      refine thnF (pt.run _ s8 σ8 H8 _ I8 q8) fun b s9 ⟨H9, I9, q9⟩ => ?_
      -- the turn's end
      have fin : ∀ {s' : Shared} {H' : Hp}, Inv (X.blk s3 H3 scope ce fp) ([] ++ pinsAt fp s7.heap) σ8 H' s' → Nx H' → ∃ m, m < n ∧ ∃ i H', Inv (X.blk s3 H3 scope ce fp) [] (wipe σ (own.map (·.2))) H' s' ∧ tn i s'.heap ∧ (∀ b ∈ fp, H' b = none) ∧ W i m H' := fun {s' H'} I' nx => by
        obtain ⟨m', hm, w'⟩ := hNx H' nx
        have pin' : ∀ b ∈ fp, ∀ o, s7.heap.get? b = some o → s'.heap.get? b = some o ∧ H' b = none := fun b hb o e =>
          let z := I'.pin (b, o) (List.mem_append_right _ (List.mem_append_right _ (mem_pinsAt hb e)))
          ⟨z.1, z.2.1⟩
        have hl : (wipe σ (own.map (·.2))).length = σ8.length := by rw [← hw8, wipe_length]
        refine ⟨m', hm, i + 1, H', (I'.unpinned (pins := [])).weak hl (fun j v e => ?_), T.keep _ _ _ st7 fun b hb o e => (pin' b hb o e).1, fun b hb => ?_, w'⟩
        · rw [← hw8] at e
          exact (wipe_some e).1
        · obtain ⟨o, e, _⟩ := T.obj _ _ st7 b hb
          exact (pin' b hb o e).2
      cases b with
      | false =>
        simp only [Bool.false_eq_true, if_false] at q9 ⊢
        exact fin I9 q9
      | true =>
        simp only [if_true] at q9 ⊢
        refine wpAny_mono ((pe _ (blk_raise I3 (fun b hb => (f3 b hb).1) hst hfr hcf cL tk)).run _ s9 σ8 H9 _ (I9.wish _) q9) (fun z s10 ⟨yv, H10, I10, r10, acc, hD10, hz10, nx⟩ => ?_) fun _ _ z => z
        exact app_ok (X := X.blk s3 H3 scope ce fp) I10.unwish hD10 hz10 r10 fun s11 I11 => fin I11 nx
  exact codeAny_compStart_list loop (T.self X.A 0 _ _ _ st4 loop)
end TLH
set_option Elab.async false
set_option linter.all false
set_option maxRecDepth 100000
set_option maxHeartbeats 1000000
/-! zip of three lists -/
namespace TLZ
open PySem PySem.F RZ
open PySem.Sem (wp)
structure Far3 (z TI TO i1 i2 i3 l1 l2 l3 : Addr) : Prop where
  TIz : TI ≠ z
  TOz : TO ≠ z
  i1z : i1 ≠ z
  i2z : i2 ≠ z
  i3z : i3 ≠ z
  TITO : TI ≠ TO
  TIi1 : TI ≠ i1
  TIi2 : TI ≠ i2
  TIi3 : TI ≠ i3
  TOi1 : TO ≠ i1
  TOi2 : TO ≠ i2
  TOi3 : TO ≠ i3
  i12 : i1 ≠ i2
  i13 : i1 ≠ i3
  i23 : i2 ≠ i3
  l1z : l1 ≠ z
  l2z : l2 ≠ z
  l3z : l3 ≠ z
  l2TO : l2 ≠ TO
  l3TO : l3 ≠ TO
  l2i1 : l2 ≠ i1
  l3i1 : l3 ≠ i1
  l3i2 : l3 ≠ i2
abbrev Tri (h : Heap) (T : Addr) (a b c : Value) : Prop := h.get? T = some { cls := .type "tuple", data := .seq #[a, b, c] }
section
variable {prog : Program} {w : World} {A : Around} {E : Value → Shared → Prop} {s : Shared}
theorem upd_tri {T : Addr} {a b c x : Value} {k : Nat} {Q : Unit → Shared → Prop} (hT : Tri s.heap T a b c)
    (h : ∀ h', h'.get? T = some { cls := .type "tuple", data := .seq ((#[a, b, c] : Array Value).setIfInBounds k x) } → Heap.SameBut T s.heap h' → Q () { s with heap := h' }) :
    wpAny (model prog w) A (updateSeq T (·.setIfInBounds k x)) Q E s := by
  refine wpAny_updateSeq hT rfl (h _ ?_ (Heap.SameBut.update ..))
  rw [Heap.get?_update_self _ hT rfl]
  simp [Obj.mapSeq]
theorem z3_item {z TI TO i1 i2 i3 l1 l2 l3 : Addr} {k1 k2 k3 : Nat} {xs ys zs : Array Value} {x y u a b c : Value} {Q : Value → Shared → Prop} (D : Far3 z TI TO i1 i2 i3 l1 l2 l3)
    (zz : IsZip s.heap z TI TO .none) (tI : Tri s.heap TI (.ref i1) (.ref i2) (.ref i3)) (tO : Tri s.heap TO a b c)
    (u1 : s.heap.IsListIter i1 l1 k1) (u2 : s.heap.IsListIter i2 l2 k2) (u3 : s.heap.IsListIter i3 l3 k3) (m1 : s.heap.IsList l1 xs) (m2 : s.heap.IsList l2 ys) (m3 : s.heap.IsList l3 zs) (hx : xs[k1]? = some x) (hy : ys[k2]? = some y) (hu : zs[k3]? = some u)
    (hQ : ∀ h', IsZip h' z TI TO (rawInt s.heap.objs.size) → Tri h' TO x y u → h'.IsListIter i1 l1 (k1 + 1) → h'.IsListIter i2 l2 (k2 + 1) → h'.IsListIter i3 l3 (k3 + 1) → Tri h' s.heap.objs.size x y u → h'.objs.size = s.heap.objs.size + 1 →
      (∀ c o, c ≠ z → c ≠ TO → c ≠ i1 → c ≠ i2 → c ≠ i3 → s.heap.get? c = some o → h'.get? c = some o) → Q (.ref s.heap.objs.size) { s with heap := h' }) :
    wpAny (model prog w) A (Builtin.«zip.__next__» ⟨[.ref z], []⟩) (fun fin s' => ∃ v, fin = .done (.ret v) ∧ Q v s') E s := by
  show wpAny _ _ (field (.ref z) 2 >>= _) _ _ _
  refine wpAny_bind (wpAny_field zz rfl (x := .bool false) rfl ?_)
  show wpAny _ _ (field (.ref z) 3 >>= _) _ _ _
  refine wpAny_bind (wpAny_field zz rfl (x := .ref TI) rfl ?_)
  refine wpAny_bind (wpAny_seqItems tI rfl ?_)
  show wpAny _ _ (Builtin.SmallTypes.ownedTupleIsFree (.ref z) >>= _) _ _ _
  refine wpAny_bind ?_
  unfold Builtin.SmallTypes.ownedTupleIsFree
  refine wpAny_bind (wpAny_field zz rfl (x := .none) rfl (wpAny_pure ?_))
  simp only [if_true]
  refine wpAny_bind (wpAny_rule ?_)
  refine wpAny_bind (wpAny_field zz rfl (x := .ref TO) rfl ?_)
  refine wpAny_bind (wpAny_setField_rec zz (by simp) fun j1 zz1 s1 => ?_)
  replace zz1 : IsZip j1 z TI TO .ellipsis := zz1
  refine wpAny_bind ?_
  simp only [List.zipIdx_cons, List.zipIdx_nil, List.forIn_cons, List.forIn_nil]

  refine wpAny_bind (wpAny_bind (wpAny_onRaise ?_))
  show wpAny _ _ (Builtin.SmallTypes.nextOf (.ref i1) >>= _) _ _ _
  refine wpAny_bind (wpAny_nextOf_list_item (u1.extBut s1.extBut D.i1z) (m1.extBut s1.extBut D.l1z) hx fun j2 v1 s2 => wpAny_pure ?_)
  have o2 : Tri j2 TO a b c := s2.extBut _ _ D.TOi1 (s1.extBut _ _ D.TOz tO)
  refine wpAny_bind (wpAny_seqItems o2 rfl ?_)
  refine wpAny_bind (upd_tri o2 fun j3 o3 s3 => ?_)
  replace o3 : Tri j3 TO x b c := o3
  refine wpAny_bind (wpAny_letGo (wpAny_pure ?_))

  refine wpAny_bind (wpAny_bind (wpAny_onRaise ?_))
  show wpAny _ _ (Builtin.SmallTypes.nextOf (.ref i2) >>= _) _ _ _
  refine wpAny_bind (wpAny_nextOf_list_item (((u2.extBut s1.extBut D.i2z).extBut s2.extBut D.i12.symm).extBut s3.extBut D.TOi2.symm)
    (((m2.extBut s1.extBut D.l2z).extBut s2.extBut D.l2i1).extBut s3.extBut D.l2TO) hy fun j4 v2 s4 => wpAny_pure ?_)
  have o4 : Tri j4 TO x b c := s4.extBut _ _ D.TOi2 o3
  refine wpAny_bind (wpAny_seqItems o4 rfl ?_)
  refine wpAny_bind (upd_tri o4 fun j5 o5 s5 => ?_)
  replace o5 : Tri j5 TO x y c := o5
  refine wpAny_bind (wpAny_letGo (wpAny_pure ?_))

  refine wpAny_bind (wpAny_bind (wpAny_onRaise ?_))
  show wpAny _ _ (Builtin.SmallTypes.nextOf (.ref i3) >>= _) _ _ _
  refine wpAny_bind (wpAny_nextOf_list_item (((((u3.extBut s1.extBut D.i3z).extBut s2.extBut D.i13.symm).extBut s3.extBut D.TOi3.symm).extBut s4.extBut D.i23.symm).extBut s5.extBut D.TOi3.symm)
    (((((m3.extBut s1.extBut D.l3z).extBut s2.extBut D.l3i1).extBut s3.extBut D.l3TO).extBut s4.extBut D.l3i2).extBut s5.extBut D.l3TO) hu fun j6 v3 s6 => wpAny_pure ?_)
  have o6 : Tri j6 TO x y c := s6.extBut _ _ D.TOi3 o5
  refine wpAny_bind (wpAny_seqItems o6 rfl ?_)
  refine wpAny_bind (upd_tri o6 fun j7 o7 s7 => ?_)
  replace o7 : Tri j7 TO x y u := o7
  refine wpAny_bind (wpAny_letGo (wpAny_pure (wpAny_pure ?_)))

  refine wpAny_bind (wpAny_seqItems o7 rfl ?_)
  refine wpAny_bind (wpAny_newTuple ?_)
  have sz : j7.objs.size = s.heap.objs.size := by rw [s7.1, s6.1, s5.1, s4.1, s3.1, s2.1, s1.1]
  have zz7 : IsZip j7 z TI TO .ellipsis := s7.extBut _ _ D.TOz.symm (s6.extBut _ _ D.i3z.symm (s5.extBut _ _ D.TOz.symm (s4.extBut _ _ D.i2z.symm (s3.extBut _ _ D.TOz.symm (s2.extBut _ _ D.i1z.symm zz1)))))
  have k7 : ∀ c o, c ≠ z → c ≠ TO → c ≠ i1 → c ≠ i2 → c ≠ i3 → s.heap.get? c = some o → j7.get? c = some o := fun c o c1 c2 c3 c4 c5 e =>
    s7.extBut _ _ c2 (s6.extBut _ _ c5 (s5.extBut _ _ c2 (s4.extBut _ _ c4 (s3.extBut _ _ c2 (s2.extBut _ _ c3 (s1.extBut _ _ c1 e))))))
  have w1 : j7.IsListIter i1 l1 (k1 + 1) := ((((v1.extBut s3.extBut D.TOi1.symm).extBut s4.extBut D.i12).extBut s5.extBut D.TOi1.symm).extBut s6.extBut D.i13).extBut s7.extBut D.TOi1.symm
  have w2 : j7.IsListIter i2 l2 (k2 + 1) := ((v2.extBut s5.extBut D.TOi2.symm).extBut s6.extBut D.i23).extBut s7.extBut D.TOi2.symm
  have w3 : j7.IsListIter i3 l3 (k3 + 1) := v3.extBut s7.extBut D.TOi3.symm
  have zlt : z < j7.objs.size := Heap.lt_size zz7
  show wpAny _ _ (Builtin.SmallTypes.ownedTupleHandOut (.ref z) (.ref j7.objs.size) >>= _) _ _ _
  refine wpAny_bind ?_
  unfold Builtin.SmallTypes.ownedTupleHandOut
  have zz8 : IsZip (j7.push { cls := .type "tuple", data := .seq #[x, y, u] }) z TI TO .ellipsis := Heap.get?_push_of_some _ zz7
  refine wpAny_bind (wpAny_setField_rec zz8 (by simp) fun j9 zz9 s9 => ?_)
  replace zz9 : IsZip j9 z TI TO (rawInt j7.objs.size) := zz9
  refine wpAny_setField_rec zz9 (by simp) fun ja zza sa => ?_
  replace zza : IsZip ja z TI TO (rawInt j7.objs.size) := zza
  have up : ∀ c o, c ≠ z → j7.get? c = some o → ja.get? c = some o := fun c o c1 e => sa.extBut _ _ c1 (s9.extBut _ _ c1 (Heap.get?_push_of_some _ e))
  have nt : Tri ja j7.objs.size x y u := sa.extBut _ _ (Nat.ne_of_gt zlt) (s9.extBut _ _ (Nat.ne_of_gt zlt) (Heap.get?_push_size _ rfl))
  have za : ja.objs.size = j7.objs.size + 1 := by rw [sa.1, s9.1, Heap.size_push]
  rw [sz] at zza nt za
  refine wpAny_pure ⟨_, rfl, ?_⟩
  show Q (.ref j7.objs.size) _
  rw [sz]
  exact hQ ja zza (up _ _ D.TOz o7) (w1.at fun o e => up _ o D.i1z e) (w2.at fun o e => up _ o D.i2z e) (w3.at fun o e => up _ o D.i3z e) nt za fun c o c1 c2 c3 c4 c5 e => up c o c1 (k7 c o c1 c2 c3 c4 c5 e)

theorem z3_end {z TI TO i1 i2 i3 l1 l2 l3 : Addr} {k1 k2 k3 : Nat} {xs ys zs : Array Value} {a b c : Value} {Q : Fin → Shared → Prop} (hh : A.handled = none) (D : Far3 z TI TO i1 i2 i3 l1 l2 l3)
    (zz : IsZip s.heap z TI TO .none) (tI : Tri s.heap TI (.ref i1) (.ref i2) (.ref i3)) (tO : Tri s.heap TO a b c)
    (u1 : s.heap.IsListIter i1 l1 k1) (m1 : s.heap.IsList l1 xs) (hend : xs[k1]? = none)
    (hE : ∀ h' e, (∀ c o, c ≠ z → c ≠ TO → c ≠ i1 → c ≠ i2 → c ≠ i3 → s.heap.get? c = some o → h'.get? c = some o) → (∃ o, h'.get? e = some o ∧ o.cls = .type "StopIteration") → E (.ref e) { s with heap := h' }) :
    wpAny (model prog w) A (Builtin.«zip.__next__» ⟨[.ref z], []⟩) Q E s := by
  show wpAny _ _ (field (.ref z) 2 >>= _) _ _ _
  refine wpAny_bind (wpAny_field zz rfl (x := .bool false) rfl ?_)
  show wpAny _ _ (field (.ref z) 3 >>= _) _ _ _
  refine wpAny_bind (wpAny_field zz rfl (x := .ref TI) rfl ?_)
  refine wpAny_bind (wpAny_seqItems tI rfl ?_)
  show wpAny _ _ (Builtin.SmallTypes.ownedTupleIsFree (.ref z) >>= _) _ _ _
  refine wpAny_bind ?_
  unfold Builtin.SmallTypes.ownedTupleIsFree
  refine wpAny_bind (wpAny_field zz rfl (x := .none) rfl (wpAny_pure ?_))
  simp only [if_true]
  refine wpAny_bind (wpAny_rule ?_)
  refine wpAny_bind (wpAny_field zz rfl (x := .ref TO) rfl ?_)
  refine wpAny_bind (wpAny_setField_rec zz (by simp) fun j1 zz1 s1 => ?_)
  replace zz1 : IsZip j1 z TI TO .ellipsis := zz1
  refine wpAny_bind ?_
  simp only [List.zipIdx_cons, List.zipIdx_nil, List.forIn_cons, List.forIn_nil]
  refine wpAny_bind (wpAny_bind (wpAny_onRaise ?_))
  show wpAny _ _ (Builtin.SmallTypes.nextOf (.ref i1) >>= _) _ _ _
  refine wpAny_bind (wpAny_nextOf_list_end hh (u1.extBut s1.extBut D.i1z) (m1.extBut s1.extBut D.l1z) hend fun j2 e s2 he => ?_)
  obtain ⟨oe, hoe, hce⟩ := he
  have zz2 : IsZip j2 z TI TO .ellipsis := s2 _ _ D.i1z.symm zz1
  have hez : e ≠ z := fun x => by subst x; rw [zz2] at hoe; cases hoe; simp at hce
  exact wpAny_setField_rec zz2 (by simp) fun j3 _ s3 => hE j3 e (fun c o c1 _ c3 _ _ x => s3.extBut _ _ c1 (s2 _ _ c3 (s1.extBut _ _ c1 x))) ⟨oe, s3.extBut _ _ hez hoe, hce⟩

theorem z3_nextItem {z TI TO i1 i2 i3 l1 l2 l3 : Addr} {k1 k2 k3 : Nat} {xs ys zs : Array Value} {x y u a b c : Value} {Q : Option Value → Shared → Prop} (D : Far3 z TI TO i1 i2 i3 l1 l2 l3)
    (zz : IsZip s.heap z TI TO .none) (tI : Tri s.heap TI (.ref i1) (.ref i2) (.ref i3)) (tO : Tri s.heap TO a b c)
    (u1 : s.heap.IsListIter i1 l1 k1) (u2 : s.heap.IsListIter i2 l2 k2) (u3 : s.heap.IsListIter i3 l3 k3) (m1 : s.heap.IsList l1 xs) (m2 : s.heap.IsList l2 ys) (m3 : s.heap.IsList l3 zs) (hx : xs[k1]? = some x) (hy : ys[k2]? = some y) (hu : zs[k3]? = some u)
    (hQ : ∀ h', IsZip h' z TI TO (rawInt s.heap.objs.size) → Tri h' TO x y u → h'.IsListIter i1 l1 (k1 + 1) → h'.IsListIter i2 l2 (k2 + 1) → h'.IsListIter i3 l3 (k3 + 1) → Tri h' s.heap.objs.size x y u → h'.objs.size = s.heap.objs.size + 1 →
      (∀ c o, c ≠ z → c ≠ TO → c ≠ i1 → c ≠ i2 → c ≠ i3 → s.heap.get? c = some o → h'.get? c = some o) → Q (some (.ref s.heap.objs.size)) { s with heap := h' }) :
    wpAny (model prog w) A (pyNext (.ref z)) Q E s := by
  have hT : s.TypeIs (.ref z) "zip" := ⟨_, zz, rfl⟩
  unfold pyNext
  exact wpAny_bind (wpAny_attempt (wpAny_callSpecial?_slot (name := Str.ofString "__next__") hT F.slot_zip_next
    (wpAny_call_entry F.slot_zip_next hT F.entry_zip_next
      (z3_item D zz tI tO u1 u2 u3 m1 m2 m3 hx hy hu fun h' a1 a2 a3 a4 a5 a6 a7 a8 => wpAny_pure (hQ h' a1 a2 a3 a4 a5 a6 a7 a8)) (F.args_zip_next_1 _))))

theorem z3_nextEnd {z TI TO i1 i2 i3 l1 l2 l3 : Addr} {k1 : Nat} {xs : Array Value} {a b c : Value} {Q : Option Value → Shared → Prop} (hh : A.handled = none) (D : Far3 z TI TO i1 i2 i3 l1 l2 l3)
    (zz : IsZip s.heap z TI TO .none) (tI : Tri s.heap TI (.ref i1) (.ref i2) (.ref i3)) (tO : Tri s.heap TO a b c)
    (u1 : s.heap.IsListIter i1 l1 k1) (m1 : s.heap.IsList l1 xs) (hend : xs[k1]? = none)
    (hQ : ∀ h', (∀ c o, c ≠ z → c ≠ TO → c ≠ i1 → c ≠ i2 → c ≠ i3 → s.heap.get? c = some o → h'.get? c = some o) → Q none { s with heap := h' }) : wpAny (model prog w) A (pyNext (.ref z)) Q E s := by
  have hT : s.TypeIs (.ref z) "zip" := ⟨_, zz, rfl⟩
  unfold pyNext
  refine wpAny_bind (wpAny_attempt (wpAny_callSpecial?_slot (name := Str.ofString "__next__") hT F.slot_zip_next
    (wpAny_call_entry F.slot_zip_next hT F.entry_zip_next (z3_end (k2 := 0) (k3 := 0) (ys := #[]) (zs := #[]) hh D zz tI tO u1 m1 hend fun h' e hk he => ?_) (F.args_zip_next_1 _))))
  obtain ⟨o, ho, hc⟩ := he
  refine wpAny_bind (wpAny_isInstance (T := "StopIteration") (b := true) ⟨o, ho, hc⟩ isSubtype_stop ?_)
  exact wpAny_pure (hQ _ hk)
end

theorem type_zip3 (a b c : Value) : checkTypeCall "zip" ⟨[a, b, c], []⟩ = pure () := by kernel_rfl
theorem new_zip3 (a b c : Value) : checkBuiltinCall "zip.__new__" ⟨[.type "zip", a, b, c], []⟩ = pure () := by kernel_rfl
theorem init4 (a b c d : Value) : argsOk "object.__init__" ⟨[a, b, c, d], []⟩ := by
  unfold argsOk; rw [signature?_of (id := "object.__init__") (n := ['_', '_', 't', 'i', 'n', 'i', '_', '_']) (o := ['t', 'c', 'e', 'j', 'b', 'o']) (by kernel_rfl) owner_object]; kernel_rfl
abbrev zh1 (h : Heap) (l1 : Addr) : Heap := h.push { cls := .type "list_iterator", data := .fields #[.ref l1, .int 0 0] }
abbrev zh2 (h : Heap) (l1 l2 : Addr) : Heap := (zh1 h l1).push { cls := .type "list_iterator", data := .fields #[.ref l2, .int 0 0] }
abbrev zh3 (h : Heap) (l1 l2 l3 : Addr) : Heap := (zh2 h l1 l2).push { cls := .type "list_iterator", data := .fields #[.ref l3, .int 0 0] }
abbrev zh4 (h : Heap) (l1 l2 l3 : Addr) : Heap := (zh3 h l1 l2 l3).push { cls := .type "tuple", data := .seq #[.ref h.objs.size, .ref (zh1 h l1).objs.size, .ref (zh2 h l1 l2).objs.size] }
abbrev zh5 (h : Heap) (l1 l2 l3 : Addr) : Heap := (zh4 h l1 l2 l3).push { cls := .type "tuple", data := .seq #[.none, .none, .none] }
abbrev zh6 (h : Heap) (l1 l2 l3 : Addr) : Heap := (zh5 h l1 l2 l3).push { cls := .type "zip", data := .fields #[.none, .bool false, .bool false, .ref (zh3 h l1 l2 l3).objs.size, .ref (zh4 h l1 l2 l3).objs.size] }

theorem z3_new (l1 l2 l3 : Addr) (xs ys zs : Array Value) :
    Meets (Builtin.«zip.__new__» ⟨[.type "zip", .ref l1, .ref l2, .ref l3], []⟩) (fun _ R s => s.heap.IsList l1 xs ∧ s.heap.IsList l2 ys ∧ s.heap.IsList l3 zs ∧
      R (.ok (.ret (.ref (zh5 s.heap l1 l2 l3).objs.size))) { s with heap := zh6 s.heap l1 l2 l3 }) :=
  .of_wp fun prog w A R s h => by
    obtain ⟨hp, g, d, tk, os⟩ := s; obtain ⟨hl1, hl2, hl3, h⟩ := h
    have hsub := sub_zip
    have hL1 : Heap.IsList (Shared.heap ⟨hp, g, d, tk, os⟩) l1 xs := hl1
    have hL2 : Heap.IsList (Shared.heap ⟨zh1 hp l1, g, d, tk, os⟩) l2 ys := Heap.IsList.push hl2 _
    have hL3 : Heap.IsList (Shared.heap ⟨zh2 hp l1 l2, g, d, tk, os⟩) l3 zs := Heap.IsList.push (Heap.IsList.push hl3 _) _
    wp_walk using wpAny_pyIter_list hL1, wpAny_pyIter_list hL2, wpAny_pyIter_list hL3
    exact ⟨_, rfl, h⟩

section
variable {prog : Program} {w : World} {A : Around} {E : Value → Shared → Prop} {s : Shared}
theorem call_z3 {l1 l2 l3 : Addr} {xs ys zs : Array Value} {Q : Value → Shared → Prop} (hl1 : s.heap.IsList l1 xs) (hl2 : s.heap.IsList l2 ys) (hl3 : s.heap.IsList l3 zs)
    (h : ∀ h', IsZip h' (s.heap.objs.size + 5) (s.heap.objs.size + 3) (s.heap.objs.size + 4) .none → Tri h' (s.heap.objs.size + 3) (.ref s.heap.objs.size) (.ref (s.heap.objs.size + 1)) (.ref (s.heap.objs.size + 2)) →
      Tri h' (s.heap.objs.size + 4) .none .none .none → h'.IsListIter s.heap.objs.size l1 0 → h'.IsListIter (s.heap.objs.size + 1) l2 0 → h'.IsListIter (s.heap.objs.size + 2) l3 0 → h'.objs.size = s.heap.objs.size + 6 →
      (∀ c o, s.heap.get? c = some o → h'.get? c = some o) → Q (.ref (s.heap.objs.size + 5)) { s with heap := h' }) :
    wpAny (model prog w) A (call (.type "zip") [.ref l1, .ref l2, .ref l3]) Q E s := by
  refine callType_new F.called_zip (by decide) (type_zip3 _ _ _) (new_zip3 _ _ _) (fun obj => init4 obj _ _ _) F.entry_zip_new
    (z3_new l1 l2 l3 xs ys zs) ⟨hl1, hl2, hl3, ?_⟩
  have z1 : (zh1 s.heap l1).objs.size = s.heap.objs.size + 1 := Heap.size_push ..
  have z2 : (zh2 s.heap l1 l2).objs.size = s.heap.objs.size + 2 := by rw [Heap.size_push, z1]
  have z3 : (zh3 s.heap l1 l2 l3).objs.size = s.heap.objs.size + 3 := by rw [Heap.size_push, z2]
  have z4 : (zh4 s.heap l1 l2 l3).objs.size = s.heap.objs.size + 4 := by rw [Heap.size_push, z3]
  have z5 : (zh5 s.heap l1 l2 l3).objs.size = s.heap.objs.size + 5 := by rw [Heap.size_push, z4]
  have z6 : (zh6 s.heap l1 l2 l3).objs.size = s.heap.objs.size + 6 := by rw [Heap.size_push, z5]
  have up : ∀ {h : Heap} {o o' : Obj} {c : Addr}, h.get? c = some o → (h.push o').get? c = some o := fun e => Heap.get?_push_of_some _ e
  have g6 : (zh6 s.heap l1 l2 l3).get? (zh5 s.heap l1 l2 l3).objs.size = some _ := Heap.get?_push_size _ rfl
  have g5 : (zh6 s.heap l1 l2 l3).get? (zh4 s.heap l1 l2 l3).objs.size = some _ := Heap.get?_push_of_some _ (Heap.get?_push_size _ rfl)
  have g4 : (zh6 s.heap l1 l2 l3).get? (zh3 s.heap l1 l2 l3).objs.size = some _ := Heap.get?_push_of_some _ (Heap.get?_push_of_some _ (Heap.get?_push_size _ rfl))
  have g3 : (zh6 s.heap l1 l2 l3).get? (zh2 s.heap l1 l2).objs.size = some _ := Heap.get?_push_of_some _ (Heap.get?_push_of_some _ (Heap.get?_push_of_some _ (Heap.get?_push_size _ rfl)))
  have g2 : (zh6 s.heap l1 l2 l3).get? (zh1 s.heap l1).objs.size = some _ := Heap.get?_push_of_some _ (Heap.get?_push_of_some _ (Heap.get?_push_of_some _ (Heap.get?_push_of_some _ (Heap.get?_push_size _ rfl))))
  have g1 : (zh6 s.heap l1 l2 l3).get? s.heap.objs.size = some _ := Heap.get?_push_of_some _ (Heap.get?_push_of_some _ (Heap.get?_push_of_some _ (Heap.get?_push_of_some _ (Heap.get?_push_of_some _ (Heap.get?_push_size _ rfl)))))
  show _ ∧ _
  rw [z3, z4, z5] at g6
  rw [z1, z2, z3] at g4
  rw [z4] at g5
  rw [z2] at g3
  rw [z1] at g2
  rw [z5]
  exact ⟨⟨_, g6, rfl⟩, h _ g6 g4 g5 ⟨_, g1, rfl, rfl⟩ ⟨_, g2, rfl, rfl⟩ ⟨_, g3, rfl, rfl⟩ z6 fun c o x => up (up (up (up (up (up x)))))⟩
end
theorem far3_new (I l1 l2 l3 : Nat) (h1 : l1 < I) (h2 : l2 < I) (h3 : l3 < I) : Far3 (I + 5) (I + 3) (I + 4) I (I + 1) (I + 2) l1 l2 l3 := by
  constructor <;> (intro z; have z : (_ : Nat) = _ := z; omega)
end TLZ
namespace TL
open PySem PySem.Spec L2 PyProof.Rows
section
/-- three lists, item by item; the first is no longer than the others -/
def Itz3 (K : PySem.W.Frag) (a b c : Addr) : It :=
  ⟨fun i H => ∃ (xs ys zs : List V) (x y z : V), SqL K H a xs ∧ SqL K H b ys ∧ SqL K H c zs ∧ xs[i]? = some x ∧ ys[i]? = some y ∧ zs[i]? = some z,
    fun i H v H' => ∃ T x y z, v = .ref T ∧ H T = none ∧ H' = upd H T (.tup [x, y, z]) ∧ (∀ xs, SqL K H a xs → xs[i]? = some x) ∧ (∀ ys, SqL K H b ys → ys[i]? = some y) ∧ ∀ zs, SqL K H c zs → zs[i]? = some z,
    fun i H => ∃ xs : List V, SqL K H a xs ∧ xs.length ≤ i⟩
theorem turn_zip3 {P : Program} {w : World} {K : PySem.W.Frag} {elts : List Expr} {kk : Nat} {tpos : Pos} {a b c z TI TO i1 i2 i3 : Addr} (D : TLZ.Far3 z TI TO i1 i2 i3 a b c) :
    Turn P w K (.Tuple elts kk tpos) (Itz3 K a b c) [z, TI, TO, i1, i2, i3] z (fun i h => IsZip h z TI TO .none ∧ TLZ.Tri h TI (.ref i1) (.ref i2) (.ref i3) ∧ (∃ x y u, TLZ.Tri h TO x y u) ∧ h.IsListIter i1 a i ∧ h.IsListIter i2 b i ∧ h.IsListIter i3 c i) where
  mem := by simp
  obj := fun i h st c hc => by
    obtain ⟨zz, tI, ⟨x, y, u, tO⟩, ⟨o1, e1, _, d1⟩, ⟨o2, e2, _, d2⟩, ⟨o3, e3, _, d3⟩⟩ := st
    have e' : c = z ∨ c = TI ∨ c = TO ∨ c = i1 ∨ c = i2 ∨ c = i3 := by simpa using hc
    rcases e' with q | q | q | q | q | q
    · rw [q]; exact ⟨_, zz, fun v q => nomatch q⟩
    · rw [q]; exact ⟨_, tI, fun v q => nomatch q⟩
    · rw [q]; exact ⟨_, tO, fun v q => nomatch q⟩
    · rw [q]; exact ⟨o1, e1, fun v q => by rw [d1] at q; cases q⟩
    · rw [q]; exact ⟨o2, e2, fun v q => by rw [d2] at q; cases q⟩
    · rw [q]; exact ⟨o3, e3, fun v q => by rw [d3] at q; cases q⟩
  keep := fun i h h' st k => by
    obtain ⟨zz, tI, ⟨x, y, u, tO⟩, h1, h2, h3⟩ := st
    exact ⟨k z (by simp) _ zz, k TI (by simp) _ tI, ⟨x, y, u, k TO (by simp) _ tO⟩, h1.at fun o q => k i1 (by simp) o q, h2.at fun o q => k i2 (by simp) o q, h3.at fun o q => k i3 (by simp) o q⟩
  item := by
    intro X hP hw hK hc i pins s σ H E I hf st hg
    subst hP hw hK
    obtain ⟨zz, tI, ⟨x0, y0, u0, tO⟩, h1, h2, h3⟩ := st
    obtain ⟨xs, ys, zs, x, y, z3, hqx, hqy, hqz, hx, hy, hz⟩ := hg
    obtain ⟨its, rv, p, _⟩ := I.list hqx
    obtain ⟨its2, rv2, p2, _⟩ := I.list hqy
    obtain ⟨its3, rv3, p3, _⟩ := I.list hqz
    obtain ⟨u, hu, ru⟩ := rv.get hx
    obtain ⟨u2, hu2, ru2⟩ := rv2.get hy
    obtain ⟨u3, hu3, ru3⟩ := rv3.get hz
    have hzl : z < s.heap.objs.size := Heap.lt_size zz
    refine TLZ.z3_nextItem D zz tI tO h1 h2 h3 p.isList p2.isList p3.isList (x := u) (y := u2) (u := u3) (by simpa using hu) (by simpa using hu2) (by simpa using hu3) fun h' z' TO' h1' h2' h3' hT hsz hk => ?_
    refine ⟨_, rfl, wpAny_letOwnedTupleGo_zip (s := { s with heap := h' }) z' fun h'' z'' sb => ?_⟩
    have hT2 : h''.get? s.heap.objs.size = some { cls := .type "tuple", data := .seq #[u, u2, u3] } := (sb.2 _ (Nat.ne_of_gt hzl)).trans hT
    have new : ObjOk X.prog X.w (upd H s.heap.objs.size (.tup [x, y, z3])) h'' s.heap.objs.size (.tup [x, y, z3]) :=
      ⟨by show 3 ≤ sizeLine; decide, [u, u2, u3], .cons ru (.cons ru2 (.cons ru3 .nil)), ⟨_, hT2, rfl, _, rfl⟩⟩
    have I1 : Inv X pins σ (upd H s.heap.objs.size (.tup [x, y, z3])) { s with heap := h'' } :=
      I.turnedNew (t' := s.toks) (ch := [z, TI, TO, i1, i2, i3]) (fun c o hb q => (sb.2 c (fun q' => hb (by simp [q']))).trans (hk c o (fun q' => hb (by simp [q'])) (fun q' => hb (by simp [q'])) (fun q' => hb (by simp [q'])) (fun q' => hb (by simp [q'])) (fun q' => hb (by simp [q'])) q)) hf (Nat.le_refl _) new
    refine ⟨.ref s.heap.objs.size, _, I1, rfl, ⟨_, x, y, z3, rfl, I.hok.fresh (Nat.le_refl _), rfl, fun l hl => by rw [I.list_inj hl hqx]; exact hx, fun l hl => by rw [I.list_inj hl hqy]; exact hy, fun l hl => by rw [I.list_inj hl hqz]; exact hz⟩, ⟨z'', ?_, ⟨u, u2, u3, ?_⟩, ?_, ?_, ?_⟩, fun c hcm => ?_⟩
    · exact (sb.2 _ D.TIz).trans (hk _ _ D.TIz D.TITO D.TIi1 D.TIi2 D.TIi3 tI)
    · exact (sb.2 _ D.TOz).trans TO'
    · exact h1'.at fun o q => (sb.2 _ D.i1z).trans q
    · exact h2'.at fun o q => (sb.2 _ D.i2z).trans q
    · exact h3'.at fun o q => (sb.2 _ D.i3z).trans q
    · have hlt : c < s.heap.objs.size := by
        have e' : c = z ∨ c = TI ∨ c = TO ∨ c = i1 ∨ c = i2 ∨ c = i3 := by simpa using hcm
        rcases e' with q | q | q | q | q | q
        · rw [q]; exact hzl
        · rw [q]; exact Heap.lt_size tI
        · rw [q]; exact Heap.lt_size tO
        · rw [q]; obtain ⟨_, e1, _⟩ := h1; exact Heap.lt_size e1
        · rw [q]; obtain ⟨_, e2, _⟩ := h2; exact Heap.lt_size e2
        · rw [q]; obtain ⟨_, e3, _⟩ := h3; exact Heap.lt_size e3
      rw [upd_ne (Nat.ne_of_lt hlt)]
      exact (hf c hcm).1
  done := by
    intro X hP hw hK hc i pins s σ H E I hf st hg
    subst hP hw hK
    obtain ⟨zz, tI, ⟨x0, y0, u0, tO⟩, h1, h2, h3⟩ := st
    obtain ⟨xs, hqx, hend⟩ := hg
    obtain ⟨its, rv, p, _⟩ := I.list hqx
    have l1 := rv.length
    have he : its.toArray[i]? = none := by simp; omega
    exact TLZ.z3_nextEnd (I.ok.hd hc) D zz tI tO h1 p.isList he fun h' hk => ⟨rfl, I.turnedL (t' := s.toks) (ch := [z, TI, TO, i1, i2, i3]) (fun c o hb q =>
      hk c o (fun q' => hb (by simp [q'])) (fun q' => hb (by simp [q'])) (fun q' => hb (by simp [q'])) (fun q' => hb (by simp [q'])) (fun q' => hb (by simp [q'])) q) hf⟩
  self := fun A i s Q E st h => wpAny_pyIter_zip st.1 h

/-- zip of three lists -/
def iZip3 (K : PySem.W.Frag) (ta : TA) : TI := fun σ H R => ta σ H fun vs H1 => ∃ a b c xs ys zs, vs = [.ref a, .ref b, .ref c] ∧ SqL K H1 a xs ∧ SqL K H1 b ys ∧ SqL K H1 c zs ∧ R (Itz3 K a b c) H1
theorem pi_zip3 {X : Cx} {K : PySem.W.Frag} {e e2 e3 : Expr} {ta : TA} {p pos tpos : Pos} {elts : List Expr} {kk : Nat} (hk : X.K = K) (hg : Gl X "zip") (hm : X.mg "zip" = none) (ha : PA X [e, e2, e3] ta)
    (hs : starEach [e, e2, e3] X.env = (false, eval e X.env) :: starEach [e2, e3] X.env := by rfl) (hpl : (backTo pos (starEach [e2, e3] X.env)).any (·.1) = false := by rfl) :
    PI X (.Tuple elts kk tpos) (.Call (.Name "zip" p) [e, e2, e3] [] pos) (iZip3 K ta) := by
  subst hk
  refine ⟨fun pins s σ H R I h => ?_⟩
  refine Call_ (ld_blt I hg hm PyProof.Rows.boot_zip (PyProof.Rows.callWith_type1 (thn (ha.run pos pins s σ H _ I h) fun us s1 ⟨vs, H1, I1, r1, q1⟩ => ?_) hs hpl))
  obtain ⟨a, b, c, xs, ys, zs, ex, hqx, hqy, hqz, q⟩ := q1
  subst ex
  cases r1 with
  | cons r rr =>
    cases rr with
    | cons r' rr =>
      cases rr with
      | cons r'' rr =>
        cases rr
        cases r
        cases r'
        cases r''
        have new6 : ∀ c, c ∈ [s1.heap.objs.size + 5, s1.heap.objs.size + 3, s1.heap.objs.size + 4, s1.heap.objs.size, s1.heap.objs.size + 1, s1.heap.objs.size + 2] → FpOk X pins H1 c := fun c hcm => by
          have hle : s1.heap.objs.size ≤ c := by
            have e' : c = s1.heap.objs.size + 5 ∨ c = s1.heap.objs.size + 3 ∨ c = s1.heap.objs.size + 4 ∨ c = s1.heap.objs.size ∨ c = s1.heap.objs.size + 1 ∨ c = s1.heap.objs.size + 2 := by simpa using hcm
            rcases e' with z | z | z | z | z | z <;> rw [z]
            · exact Nat.le_add_right _ _
            · exact Nat.le_add_right _ _
            · exact Nat.le_add_right _ _
            · exact Nat.le_refl _
            · exact Nat.le_add_right _ _
            · exact Nat.le_add_right _ _
          exact I1.fpOk hle (I1.hok.fresh hle)
        obtain ⟨its, rv, p1, _⟩ := I1.list hqx
        obtain ⟨its2, rv2, p2, _⟩ := I1.list hqy
        obtain ⟨its3, rv3, p3, _⟩ := I1.list hqz
        refine TLZ.call_z3 p1.isList p2.isList p3.isList fun h' zz tI tO h1 h2 h3 hsz hk => wpAny_pyIter_zip zz ?_
        have I2 : Inv X pins σ H1 { s1 with heap := h' } := I1.kept (t' := s1.toks) hk
        exact ⟨s1.heap.objs.size + 5, [s1.heap.objs.size + 5, s1.heap.objs.size + 3, s1.heap.objs.size + 4, s1.heap.objs.size, s1.heap.objs.size + 1, s1.heap.objs.size + 2], _, _, H1, rfl, I2, turn_zip3 (TLZ.far3_new s1.heap.objs.size a b c p1.lt p2.lt p3.lt), ⟨zz, tI, ⟨_, _, _, tO⟩, h1, h2, h3⟩, new6, q⟩
end
section
variable {G : Type} [Gh G] {W : Wd G} {g : G} {H0 : Hp} {ρ : Rho} {tg : TA} {F : PySem.W.Frag}
def trips : List D → List D → List D → List D
  | a :: as, b :: bs, c :: cs => .tup [a, b, c] :: trips as bs cs
  | _, _, _ => []
theorem trips_get : ∀ {as bs cs : List D} {i : Nat} {d : D}, (trips as bs cs)[i]? = some d → ∃ a b c, as[i]? = some a ∧ bs[i]? = some b ∧ cs[i]? = some c ∧ d = .tup [a, b, c]
  | [], _, _, i, d, h => by simp [trips] at h
  | _ :: _, [], _, i, d, h => by simp [trips] at h
  | _ :: _, _ :: _, [], i, d, h => by simp [trips] at h
  | a :: as, b :: bs, c :: cs, 0, d, h => by cases h; exact ⟨a, b, c, rfl, rfl, rfl, rfl⟩
  | a :: as, b :: bs, c :: cs, i + 1, d, h => by
    have h : (trips as bs cs)[i]? = some d := h
    obtain ⟨x, y, z, h1, h2, h3, e⟩ := trips_get h
    exact ⟨x, y, z, h1, h2, h3, e⟩
theorem trips_len : ∀ {as bs cs : List D}, as.length = bs.length → as.length = cs.length → (trips as bs cs).length = as.length
  | [], _, _, _, _ => rfl
  | _ :: _, [], _, h, _ => by cases h
  | _ :: _, _ :: _, [], _, h => by cases h
  | a :: as, b :: bs, c :: cs, h1, h2 => by
    show (trips as bs cs).length + 1 = as.length + 1
    rw [trips_len (Nat.succ.inj h1) (Nat.succ.inj h2)]
theorem trips_map {α : Type} (f h u : α → D) : ∀ l : List α, trips (l.map f) (l.map h) (l.map u) = l.map fun x => .tup [f x, h x, u x]
  | [] => rfl
  | x :: l => by
    show .tup [f x, h x, u x] :: trips (l.map f) (l.map h) (l.map u) = _
    rw [trips_map f h u l]; rfl
theorem i_zip3 {k : List D → G → Prop} (h : wpA W H0 g ρ tg fun rs g1 => ∃ ds es fs : List D, rs = [.v (.lst ds), .v (.lst es), .v (.lst fs)] ∧ ds.length = es.length ∧ ds.length = fs.length ∧ k (trips ds es fs) g1) : wpI W H0 g ρ (iZip3 F tg) k := fun ps H σ S R hR => h ps H σ S _ fun rs vs g1 H1 q e o => by
  obtain ⟨ds, es, fs, rfl, z1, z2, q⟩ := q
  obtain ⟨v, u, w, rfl, o1, o2, o3⟩ := o.three
  cases o1 with
  | v o1 =>
    cases o2 with
    | v o2 =>
      cases o3 with
      | v o3 =>
        cases o1 with
        | @lst a xs _ m p t =>
          cases o2 with
          | @lst b ys _ m' p' t' =>
            cases o3 with
            | @lst c zs _ m'' p'' t'' =>
              refine ⟨a, b, c, xs, ys, zs, rfl, .inl (.inl p), .inl (.inl p'), .inl (.inl p''), hR _ _ _ H1 q e ⟨fun ps' _ H' n j i d hd => ?_, fun ps' _ H' n j => ?_⟩⟩
              · obtain ⟨x, y, z, hx, hy, hz, rfl⟩ := trips_get hd
                have pa := n.keep a _ m p
                have pb := n.keep b _ m' p'
                have pc := n.keep c _ m'' p''
                obtain ⟨w, hw, r⟩ := (n.dtL t).get hx
                obtain ⟨w', hw', r'⟩ := (n.dtL t').get hy
                obtain ⟨w'', hw'', r''⟩ := (n.dtL t'').get hz
                refine ⟨⟨xs, ys, zs, w, w', w'', .inl (.inl pa), .inl (.inl pb), .inl (.inl pc), hw, hw', hw''⟩, fun z H2 yl => ?_⟩
                obtain ⟨T, x1, y1, y2, rfl, hT, rfl, q1, q2, q3⟩ := yl
                have e1 := q1 xs (.inl (.inl pa))
                have e2 := q2 ys (.inl (.inl pb))
                have e3 := q3 zs (.inl (.inl pc))
                rw [hw] at e1
                rw [hw'] at e2
                rw [hw''] at e3
                cases e1
                cases e2
                cases e3
                have ex := Ext.new (W := pinW W ps') (o := .tup [w, w', w'']) j hT
                exact ⟨ex, .tup (j.nn hT) upd_same (.cons (r.ext ex) (.cons (r'.ext ex) (.cons (r''.ext ex) .nil)))⟩
              · refine ⟨xs, .inl (.inl (n.keep a _ m p)), ?_⟩
                rw [t.length, trips_len z1 z2]
                exact Nat.le_refl _
/-- max of a list of whole numbers -/
theorem cr_maxK {X : Cx} {K : PySem.W.Frag} (h : X.K = K) (hc : X.calm = true) : CallR X (.builtin "max") (L2.rMax K) := by subst h; exact cr_max hc
theorem c_maxL {K : PySem.W.Frag} {r : Rs} {ns : List Int} {k : Rs → Prop} (l : LstOf r (ns.map D.int)) (h0 : 0 < ns.length) (q : ∀ m, m ∈ ns → (∀ y ∈ ns, y ≤ m) → k (.v (.int m))) : wpC (L2.rMax K) [r] k := fun _ W g0 H vs J oo Q hq => by
  obtain ⟨v, rfl, o⟩ := oo.one
  obtain ⟨a, xs, rfl, ha, t, _⟩ := l.at J o
  have e := t.ints
  subst e
  exact ⟨a, ns, rfl, .inl (.inl ha), h0, fun m hm hy => hq _ _ H (q m hm hy) (Ext.refl J) (.v (.int m))⟩
end
end TL
set_option Elab.async false
set_option linter.all false
set_option maxRecDepth 100000
namespace TL
open PySem PySem.Spec L2 PyProof.Rows
section
variable {G : Type} [Gh G] {W : Wd G} {g : G} {H0 : Hp} {ρ : Rho} {tg : TA} {K : PySem.W.Frag}
/-- the pair that stands at a place -/
def pairAt (H : Hp) (x : V) : Int × Int := match x with
  | .ref t => (match H t with
    | some (.tup [.int i, .int j]) => (i, j)
    | _ => (0, 0))
  | _ => (0, 0)
abbrev prD (p : Int × Int) : D := .tup [.int p.1, .int p.2]
theorem pairAt_dt {M : Addr → Prop} {H : Hp} {p : Int × Int} {v : V} (h : Dt M H (prD p) v) : pairAt H v = p ∧ ∃ t, v = .ref t ∧ ¬ M t ∧ H t = some (.tup [.int p.1, .int p.2]) := by
  cases h with
  | @tup a xs _ m e t =>
    cases t with
    | cons a1 t =>
      cases t with
      | cons a2 t =>
        cases t
        cases a1
        cases a2
        refine ⟨?_, a, rfl, m, e⟩
        unfold pairAt
        show (match H a with | some (.tup [.int i, .int j]) => (i, j) | _ => (0, 0)) = p
        rw [e]
theorem pairs_dt {M : Addr → Prop} {H : Hp} : ∀ {ps : List (Int × Int)} {xs : List V}, DtL M H (ps.map prD) xs → xs.map (pairAt H) = ps ∧ ∀ x ∈ xs, Dt M H (prD (pairAt H x)) x
  | [], _, h => by cases h; exact ⟨rfl, fun _ z => nomatch z⟩
  | p :: ps, _, h => by
    cases h with
    | @cons _ x _ xs a t =>
      obtain ⟨e, _⟩ := pairAt_dt a
      obtain ⟨e2, h2⟩ := pairs_dt t
      refine ⟨by rw [List.map_cons, e, e2], fun y hy => ?_⟩
      rcases List.mem_cons.mp hy with rfl | hy
      · rw [e]; exact a
      · exact h2 y hy
theorem pairs_of {M : Addr → Prop} {H : Hp} : ∀ {xs : List V}, (∀ x ∈ xs, Dt M H (prD (pairAt H x)) x) → DtL M H ((xs.map (pairAt H)).map prD) xs
  | [], _ => .nil
  | x :: xs, h => .cons (h x List.mem_cons_self) (pairs_of fun y hy => h y (List.mem_cons_of_mem _ hy))
/-- sorted of a list of pairs -/
theorem c_sortedP {r : Rs} {ps : List (Int × Int)} {k : Rs → Prop} (l : LstOf r (ps.map prD)) (q : ∀ qs : List (Int × Int), qs.Perm ps → qs.Pairwise (fun x y => SrtO.lexB y x = false) → k (.v (.lst (qs.map prD)))) : wpC (rSortedPO K) [r] k := fun _ W g0 H vs J oo Q hq => by
  obtain ⟨v, rfl, o⟩ := oo.one
  obtain ⟨a, xs, rfl, s, t, _⟩ := l.at J o
  obtain ⟨e, hx⟩ := pairs_dt t
  refine ⟨a, xs, pairAt H, rfl, .inl (.inl s), fun x hm => ?_, fun ys p h1 h2 hp => ?_⟩
  · obtain ⟨_, u, e1, _, e2⟩ := pairAt_dt (hx x hm)
    exact ⟨u, e1, e2⟩
  · refine hq _ _ _ (q (ys.map (pairAt H)) ?_ ?_) (Ext.new J hp) (new_lst J hp (pairs_of fun x hm => hx x (h2.perm.mem_iff.mp hm)))
    · rw [← e]; exact h2.perm.map _
    · exact List.pairwise_map.mpr h1
theorem cr_sortedPK {X : Cx} {K : PySem.W.Frag} (h : X.K = K) : CallR X (.builtin "sorted") (rSortedPO K) := by subst h; exact cr_sortedPO
/-- there is just one sorted list of the same pairs -/
theorem lex_uniq : ∀ {qs ps : List (Int × Int)}, qs.Perm ps → qs.Pairwise (fun x y => SrtO.lexB y x = false) → ps.Pairwise (fun x y => SrtO.lexB y x = false) → qs = ps := fun h1 h2 h3 =>
  h1.eq_of_pairwise (fun a b _ _ h h' => by
    unfold SrtO.lexB at h h'
    obtain ⟨a1, a2⟩ := a
    obtain ⟨b1, b2⟩ := b
    by_cases e : a1 = b1
    · subst e
      rw [if_pos rfl] at h h'
      have h := of_decide_eq_false h
      have h' := of_decide_eq_false h'
      have h : ¬ b2 < a2 := h
      have h' : ¬ a2 < b2 := h'
      have : a2 = b2 := by omega
      rw [this]
    · have z : ¬ b1 = a1 := fun q => e q.symm
      rw [if_neg z] at h
      rw [if_neg e] at h'
      have h : ¬ b1 < a1 := of_decide_eq_false h
      have h' : ¬ a1 < b1 := of_decide_eq_false h'
      omega) h2 h3
end
end TL
set_option Elab.async false
set_option linter.all false
set_option maxRecDepth 100000
namespace TL
open PySem PySem.Spec L2
def top (i : Nat) : Stmt := PySem.Challenge.pw_scanranges_k06_boxes_put_together.main.body.getD i (.Pass ⟨0, 0, 0, 0⟩)
abbrev s_is_integer : Stmt := top 5
theorem sc_is_integer : FnScope ["thing"] ["thing"] (defScope s_is_integer) := ⟨rfl, rfl, rfl, by decide +kernel, rfl, by decide +kernel, by decide +kernel⟩
abbrev s_is_size : Stmt := top 6
theorem sc_is_size : FnScope ["thing"] ["thing"] (defScope s_is_size) := ⟨rfl, rfl, rfl, by decide +kernel, rfl, by decide +kernel, by decide +kernel⟩
abbrev s_are_stretches : Stmt := top 7
theorem sc_are_stretches : FnScope ["size", "thing", "least", "stretch"] ["size", "thing"] (defScope s_are_stretches) := ⟨rfl, rfl, rfl, by decide +kernel, rfl, by decide +kernel, by decide +kernel⟩
abbrev s__is_stretch : Stmt := top 8
theorem sc__is_stretch : FnScope ["least", "size", "thing", "first", "last"] ["least", "size", "thing"] (defScope s__is_stretch) := ⟨rfl, rfl, rfl, by decide +kernel, rfl, by decide +kernel, by decide +kernel⟩
abbrev s_ValueSetU_initU : Stmt := inClass (top 29) 0
theorem sc_ValueSetU_initU : FnScope ["self", "size", "stretches"] ["self", "size", "stretches"] (defScope s_ValueSetU_initU) := ⟨rfl, rfl, rfl, by decide +kernel, rfl, by decide +kernel, by decide +kernel⟩
abbrev s_ValueSet_size : Stmt := inClass (top 29) 1
theorem sc_ValueSet_size : FnScope ["self"] ["self"] (defScope s_ValueSet_size) := ⟨rfl, rfl, rfl, by decide +kernel, rfl, by decide +kernel, by decide +kernel⟩
abbrev s_ValueSet_stretches : Stmt := inClass (top 29) 2
theorem sc_ValueSet_stretches : FnScope ["self"] ["self"] (defScope s_ValueSet_stretches) := ⟨rfl, rfl, rfl, by decide +kernel, rfl, by decide +kernel, by decide +kernel⟩
abbrev s_ValueSetU_eqU : Stmt := inClass (top 29) 5
theorem sc_ValueSetU_eqU : FnScope ["self", "other"] ["self", "other"] (defScope s_ValueSetU_eqU) := ⟨rfl, rfl, rfl, by decide +kernel, rfl, by decide +kernel, by decide +kernel⟩
abbrev s_ValueSetU_containsU : Stmt := inClass (top 29) 6
theorem sc_ValueSetU_containsU : FnScope ["self", "value", "first", "last"] ["self", "value"] (defScope s_ValueSetU_containsU) := ⟨rfl, rfl, rfl, by decide +kernel, rfl, by decide +kernel, by decide +kernel⟩
abbrev s_ValueSetU_andU : Stmt := inClass (top 29) 7
theorem sc_ValueSetU_andU : FnScope ["self", "other"] ["self", "other"] (defScope s_ValueSetU_andU) := ⟨rfl, rfl, rfl, by decide +kernel, rfl, by decide +kernel, by decide +kernel⟩
abbrev s_ValueSetUcheck : Stmt := inClass (top 29) 12
theorem sc_ValueSetUcheck : FnScope ["self", "other"] ["self", "other"] (defScope s_ValueSetUcheck) := ⟨rfl, rfl, rfl, by decide +kernel, rfl, by decide +kernel, by decide +kernel⟩
abbrev s__limited : Stmt := top 30
theorem sc__limited : FnScope ["size", "stretches"] ["size", "stretches"] (defScope s__limited) := ⟨rfl, rfl, rfl, by decide +kernel, rfl, by decide +kernel, by decide +kernel⟩
abbrev s__common : Stmt := top 31
theorem sc__common : FnScope ["mine", "theirs", "found", "low", "high", "first", "last"] ["mine", "theirs"] (defScope s__common) := ⟨rfl, rfl, rfl, by decide +kernel, rfl, by decide +kernel, by decide +kernel⟩
abbrev s_BoxU_initU : Stmt := inClass (top 34) 0
theorem sc_BoxU_initU : FnScope ["self", "sets"] ["self", "sets"] (defScope s_BoxU_initU) := ⟨rfl, rfl, rfl, by decide +kernel, rfl, by decide +kernel, by decide +kernel⟩
abbrev s_Box_sets : Stmt := inClass (top 34) 1
theorem sc_Box_sets : FnScope ["self"] ["self"] (defScope s_Box_sets) := ⟨rfl, rfl, rfl, by decide +kernel, rfl, by decide +kernel, by decide +kernel⟩
abbrev s_Box_sizes : Stmt := inClass (top 34) 2
theorem sc_Box_sizes : FnScope ["self", "valueset"] ["self"] (defScope s_Box_sizes) := ⟨rfl, rfl, rfl, by decide +kernel, rfl, by decide +kernel, by decide +kernel⟩
abbrev s_BoxU_eqU : Stmt := inClass (top 34) 4
theorem sc_BoxU_eqU : FnScope ["self", "other"] ["self", "other"] (defScope s_BoxU_eqU) := ⟨rfl, rfl, rfl, by decide +kernel, rfl, by decide +kernel, by decide +kernel⟩
abbrev s_BoxU_containsU : Stmt := inClass (top 34) 5
theorem sc_BoxU_containsU : FnScope ["self", "key", "value", "valueset"] ["self", "key"] (defScope s_BoxU_containsU) := ⟨rfl, rfl, rfl, by decide +kernel, rfl, by decide +kernel, by decide +kernel⟩
abbrev s_BoxU_andU : Stmt := inClass (top 34) 6
theorem sc_BoxU_andU : FnScope ["self", "other", "mine", "theirs"] ["self", "other"] (defScope s_BoxU_andU) := ⟨rfl, rfl, rfl, by decide +kernel, rfl, by decide +kernel, by decide +kernel⟩
abbrev s__are_sets : Stmt := top 35
theorem sc__are_sets : FnScope ["thing", "one"] ["thing"] (defScope s__are_sets) := ⟨rfl, rfl, rfl, by decide +kernel, rfl, by decide +kernel, by decide +kernel⟩
abbrev s__law_tape : Stmt := top 37
theorem sc__law_tape : FnScope ["script", "k", "cell_here"] ["script", "k"] (defScope s__law_tape) := ⟨rfl, rfl, rfl, by decide +kernel, rfl, by decide +kernel, by decide +kernel⟩
abbrev s__law_next : Stmt := top 38
theorem sc__law_next : FnScope ["tape", "many", "digit", "mixed"] ["tape", "many"] (defScope s__law_next) := ⟨rfl, rfl, rfl, by decide +kernel, rfl, by decide +kernel, by decide +kernel⟩
abbrev s__law_great : Stmt := top 41
theorem sc__law_great : FnScope ["tape", "size", "spots", "found", "at", "first", "last", "turn"] ["tape", "size"] (defScope s__law_great) := ⟨rfl, rfl, rfl, by decide +kernel, rfl, by decide +kernel, by decide +kernel⟩
abbrev s__law_kind : Stmt := top 42
theorem sc__law_kind : FnScope ["e", "found", "odd", "word", "flag"] ["e"] (defScope s__law_kind) := ⟨rfl, rfl, rfl, by decide +kernel, rfl, by decide +kernel, by decide +kernel⟩
abbrev s__law_size : Stmt := top 43
theorem sc__law_size : FnScope ["tape"] ["tape"] (defScope s__law_size) := ⟨rfl, rfl, rfl, by decide +kernel, rfl, by decide +kernel, by decide +kernel⟩
abbrev s__law_filled : Stmt := top 44
theorem sc__law_filled : FnScope ["tape", "size", "found", "spot"] ["tape", "size"] (defScope s__law_filled) := ⟨rfl, rfl, rfl, by decide +kernel, rfl, by decide +kernel, by decide +kernel⟩
abbrev s__law_told : Stmt := top 47
theorem sc__law_told : FnScope ["one", "thing", "e", "two"] ["one", "thing"] (defScope s__law_told) := ⟨rfl, rfl, rfl, by decide +kernel, rfl, by decide +kernel, by decide +kernel⟩
abbrev s__law_common : Stmt := top 48
theorem sc__law_common : FnScope ["ones", "others", "found", "left", "right", "begin", "end"] ["ones", "others"] (defScope s__law_common) := ⟨rfl, rfl, rfl, by decide +kernel, rfl, by decide +kernel, by decide +kernel⟩
abbrev s__law_right : Stmt := top 49
theorem sc__law_right : FnScope ["tape", "many", "turn", "sizes_here", "size", "ones", "rows", "others", "one", "two", "more", "due", "both", "picked", "first", "last", "thing", "at", "wide", "told", "stay", "row"] ["tape", "many"] (defScope s__law_right) := ⟨rfl, rfl, rfl, by decide +kernel, rfl, by decide +kernel, by decide +kernel⟩
abbrev s_law : Stmt := top 50
theorem sc_law : FnScope ["script", "k", "tape", "many", "rows", "more", "one", "two", "told", "due", "few", "wide", "at", "last"] ["script"] (defScope s_law) := ⟨rfl, rfl, rfl, by decide +kernel, rfl, by decide +kernel, by decide +kernel⟩
structure Ad where
  f_is_integer : Addr
  d_is_integer : FuncData
  f_is_size : Addr
  d_is_size : FuncData
  f_are_stretches : Addr
  d_are_stretches : FuncData
  f__is_stretch : Addr
  d__is_stretch : FuncData
  f_ValueSetU_initU : Addr
  d_ValueSetU_initU : FuncData
  f_ValueSet_size : Addr
  d_ValueSet_size : FuncData
  f_ValueSet_stretches : Addr
  d_ValueSet_stretches : FuncData
  f_ValueSetU_eqU : Addr
  d_ValueSetU_eqU : FuncData
  f_ValueSetU_containsU : Addr
  d_ValueSetU_containsU : FuncData
  f_ValueSetU_andU : Addr
  d_ValueSetU_andU : FuncData
  f_ValueSetUcheck : Addr
  d_ValueSetUcheck : FuncData
  f__limited : Addr
  d__limited : FuncData
  f__common : Addr
  d__common : FuncData
  f_BoxU_initU : Addr
  d_BoxU_initU : FuncData
  f_Box_sets : Addr
  d_Box_sets : FuncData
  f_Box_sizes : Addr
  d_Box_sizes : FuncData
  f_BoxU_eqU : Addr
  d_BoxU_eqU : FuncData
  f_BoxU_containsU : Addr
  d_BoxU_containsU : FuncData
  f_BoxU_andU : Addr
  d_BoxU_andU : FuncData
  f__are_sets : Addr
  d__are_sets : FuncData
  f__law_tape : Addr
  d__law_tape : FuncData
  f__law_next : Addr
  d__law_next : FuncData
  f__law_great : Addr
  d__law_great : FuncData
  f__law_kind : Addr
  d__law_kind : FuncData
  f__law_size : Addr
  d__law_size : FuncData
  f__law_filled : Addr
  d__law_filled : FuncData
  f__law_told : Addr
  d__law_told : FuncData
  f__law_common : Addr
  d__law_common : FuncData
  f__law_right : Addr
  d__law_right : FuncData
  f_law : Addr
  d_law : FuncData
  C_ValueSet : Addr
  C_Box : Addr
  C_InvalidSet : Addr
  C_OtherSizes : Addr
  C_TooMany : Addr
  C_InvalidBox : Addr
  C_ScanError : Addr
  C_InvalidCondition : Addr
  C_InvalidTable : Addr
  C_InvalidWish : Addr
  C_InvalidBoxes : Addr
  C_InvalidText : Addr
  C_AlreadyThere : Addr
  C_InvalidSizes : Addr
  C_NotThere : Addr
  C_NothingToUndo : Addr
  C_InvalidOrder : Addr
  C_InvalidKey : Addr
  C_InvalidNumber : Addr
  C_EmptyBox : Addr
  p_ValueSet_size : Addr
  p_ValueSet_stretches : Addr
  p_Box_sets : Addr
  p_Box_sizes : Addr
structure Tx (K : PySem.W.Frag) (mg : Str → Option Value) (a : Ad) : Prop where
  n_ValueError : mg "ValueError" = none
  n_abs : mg "abs" = none
  n_all : mg "all" = none
  n_any : mg "any" = none
  n_bool : mg "bool" = none
  n_int : mg "int" = none
  n_isinstance : mg "isinstance" = none
  n_len : mg "len" = none
  n_list : mg "list" = none
  n_max : mg "max" = none
  n_min : mg "min" = none
  n_range : mg "range" = none
  n_set : mg "set" = none
  n_sorted : mg "sorted" = none
  n_tuple : mg "tuple" = none
  n_zip : mg "zip" = none
  c_GREATEST_SIZE : ∃ t, mg "GREATEST_SIZE" = some (.int (1000000000000000000000000000000) t)
  c_MOST_COLUMNS : ∃ t, mg "MOST_COLUMNS" = some (.int (8) t)
  c_MOST_STRETCHES : ∃ t, mg "MOST_STRETCHES" = some (.int (12) t)
  F_is_integer : Fun K "is_integer" "is_integer" s_is_integer a.f_is_integer a.d_is_integer
  b_is_integer : Binds K a.d_is_integer ["thing"] []
  g_is_integer : mg "is_integer" = some (.ref a.f_is_integer)
  F_is_size : Fun K "is_size" "is_size" s_is_size a.f_is_size a.d_is_size
  b_is_size : Binds K a.d_is_size ["thing"] []
  g_is_size : mg "is_size" = some (.ref a.f_is_size)
  F_are_stretches : Fun K "are_stretches" "are_stretches" s_are_stretches a.f_are_stretches a.d_are_stretches
  b_are_stretches : Binds K a.d_are_stretches ["size", "thing"] []
  g_are_stretches : mg "are_stretches" = some (.ref a.f_are_stretches)
  F__is_stretch : Fun K "_is_stretch" "_is_stretch" s__is_stretch a.f__is_stretch a.d__is_stretch
  b__is_stretch : Binds K a.d__is_stretch ["least", "size", "thing"] []
  g__is_stretch : mg "_is_stretch" = some (.ref a.f__is_stretch)
  F_ValueSetU_initU : Fun K "__init__" "ValueSet.__init__" s_ValueSetU_initU a.f_ValueSetU_initU a.d_ValueSetU_initU
  b_ValueSetU_initU : Binds K a.d_ValueSetU_initU ["self", "size", "stretches"] []
  m_ValueSet : Mk K a.C_ValueSet a.f_ValueSetU_initU
  F_ValueSet_size : Fun K "size" "ValueSet.size" s_ValueSet_size a.f_ValueSet_size a.d_ValueSet_size
  b_ValueSet_size : Binds K a.d_ValueSet_size ["self"] []
  p_ValueSet_size : PropOf K a.C_ValueSet "size" a.p_ValueSet_size a.f_ValueSet_size
  F_ValueSet_stretches : Fun K "stretches" "ValueSet.stretches" s_ValueSet_stretches a.f_ValueSet_stretches a.d_ValueSet_stretches
  b_ValueSet_stretches : Binds K a.d_ValueSet_stretches ["self"] []
  p_ValueSet_stretches : PropOf K a.C_ValueSet "stretches" a.p_ValueSet_stretches a.f_ValueSet_stretches
  F_ValueSetU_eqU : Fun K "__eq__" "ValueSet.__eq__" s_ValueSetU_eqU a.f_ValueSetU_eqU a.d_ValueSetU_eqU
  b_ValueSetU_eqU : Binds K a.d_ValueSetU_eqU ["self", "other"] []
  o_ValueSetU_eqU : OpOf K a.C_ValueSet "__eq__" a.f_ValueSetU_eqU
  z_ValueSet : NeOf K a.C_ValueSet
  F_ValueSetU_containsU : Fun K "__contains__" "ValueSet.__contains__" s_ValueSetU_containsU a.f_ValueSetU_containsU a.d_ValueSetU_containsU
  b_ValueSetU_containsU : Binds K a.d_ValueSetU_containsU ["self", "value"] []
  o_ValueSetU_containsU : OpOf K a.C_ValueSet "__contains__" a.f_ValueSetU_containsU
  F_ValueSetU_andU : Fun K "__and__" "ValueSet.__and__" s_ValueSetU_andU a.f_ValueSetU_andU a.d_ValueSetU_andU
  b_ValueSetU_andU : Binds K a.d_ValueSetU_andU ["self", "other"] []
  u_ValueSetU_andU : BinOf K a.C_ValueSet .BitAnd a.f_ValueSetU_andU
  F_ValueSetUcheck : Fun K "_check" "ValueSet._check" s_ValueSetUcheck a.f_ValueSetUcheck a.d_ValueSetUcheck
  b_ValueSetUcheck : Binds K a.d_ValueSetUcheck ["self", "other"] []
  e_ValueSetUcheck : Meth K a.C_ValueSet "_check" a.f_ValueSetUcheck
  F__limited : Fun K "_limited" "_limited" s__limited a.f__limited a.d__limited
  b__limited : Binds K a.d__limited ["size", "stretches"] []
  g__limited : mg "_limited" = some (.ref a.f__limited)
  F__common : Fun K "_common" "_common" s__common a.f__common a.d__common
  b__common : Binds K a.d__common ["mine", "theirs"] []
  g__common : mg "_common" = some (.ref a.f__common)
  F_BoxU_initU : Fun K "__init__" "Box.__init__" s_BoxU_initU a.f_BoxU_initU a.d_BoxU_initU
  b_BoxU_initU : Binds K a.d_BoxU_initU ["self", "sets"] []
  m_Box : Mk K a.C_Box a.f_BoxU_initU
  F_Box_sets : Fun K "sets" "Box.sets" s_Box_sets a.f_Box_sets a.d_Box_sets
  b_Box_sets : Binds K a.d_Box_sets ["self"] []
  p_Box_sets : PropOf K a.C_Box "sets" a.p_Box_sets a.f_Box_sets
  F_Box_sizes : Fun K "sizes" "Box.sizes" s_Box_sizes a.f_Box_sizes a.d_Box_sizes
  b_Box_sizes : Binds K a.d_Box_sizes ["self"] []
  p_Box_sizes : PropOf K a.C_Box "sizes" a.p_Box_sizes a.f_Box_sizes
  F_BoxU_eqU : Fun K "__eq__" "Box.__eq__" s_BoxU_eqU a.f_BoxU_eqU a.d_BoxU_eqU
  b_BoxU_eqU : Binds K a.d_BoxU_eqU ["self", "other"] []
  o_BoxU_eqU : OpOf K a.C_Box "__eq__" a.f_BoxU_eqU
  z_Box : NeOf K a.C_Box
  F_BoxU_containsU : Fun K "__contains__" "Box.__contains__" s_BoxU_containsU a.f_BoxU_containsU a.d_BoxU_containsU
  b_BoxU_containsU : Binds K a.d_BoxU_containsU ["self", "key"] []
  o_BoxU_containsU : OpOf K a.C_Box "__contains__" a.f_BoxU_containsU
  F_BoxU_andU : Fun K "__and__" "Box.__and__" s_BoxU_andU a.f_BoxU_andU a.d_BoxU_andU
  b_BoxU_andU : Binds K a.d_BoxU_andU ["self", "other"] []
  u_BoxU_andU : BinOf K a.C_Box .BitAnd a.f_BoxU_andU
  F__are_sets : Fun K "_are_sets" "_are_sets" s__are_sets a.f__are_sets a.d__are_sets
  b__are_sets : Binds K a.d__are_sets ["thing"] []
  g__are_sets : mg "_are_sets" = some (.ref a.f__are_sets)
  F__law_tape : Fun K "_law_tape" "_law_tape" s__law_tape a.f__law_tape a.d__law_tape
  b__law_tape : Binds K a.d__law_tape ["script", "k"] []
  g__law_tape : mg "_law_tape" = some (.ref a.f__law_tape)
  F__law_next : Fun K "_law_next" "_law_next" s__law_next a.f__law_next a.d__law_next
  b__law_next : Binds K a.d__law_next ["tape", "many"] []
  g__law_next : mg "_law_next" = some (.ref a.f__law_next)
  F__law_great : Fun K "_law_great" "_law_great" s__law_great a.f__law_great a.d__law_great
  b__law_great : Binds K a.d__law_great ["tape", "size"] []
  g__law_great : mg "_law_great" = some (.ref a.f__law_great)
  F__law_kind : Fun K "_law_kind" "_law_kind" s__law_kind a.f__law_kind a.d__law_kind
  b__law_kind : Binds K a.d__law_kind ["e"] []
  g__law_kind : mg "_law_kind" = some (.ref a.f__law_kind)
  F__law_size : Fun K "_law_size" "_law_size" s__law_size a.f__law_size a.d__law_size
  b__law_size : Binds K a.d__law_size ["tape"] []
  g__law_size : mg "_law_size" = some (.ref a.f__law_size)
  F__law_filled : Fun K "_law_filled" "_law_filled" s__law_filled a.f__law_filled a.d__law_filled
  b__law_filled : Binds K a.d__law_filled ["tape", "size"] []
  g__law_filled : mg "_law_filled" = some (.ref a.f__law_filled)
  F__law_told : Fun K "_law_told" "_law_told" s__law_told a.f__law_told a.d__law_told
  b__law_told : Binds K a.d__law_told ["one", "thing"] []
  g__law_told : mg "_law_told" = some (.ref a.f__law_told)
  F__law_common : Fun K "_law_common" "_law_common" s__law_common a.f__law_common a.d__law_common
  b__law_common : Binds K a.d__law_common ["ones", "others"] []
  g__law_common : mg "_law_common" = some (.ref a.f__law_common)
  F__law_right : Fun K "_law_right" "_law_right" s__law_right a.f__law_right a.d__law_right
  b__law_right : Binds K a.d__law_right ["tape", "many"] []
  g__law_right : mg "_law_right" = some (.ref a.f__law_right)
  F_law : Fun K "law" "law" s_law a.f_law a.d_law
  b_law : Binds K a.d_law ["script"] []
  g_law : mg "law" = some (.ref a.f_law)
  cl_ValueSet : Cls K a.C_ValueSet
  g_ValueSet : mg "ValueSet" = some (.ref a.C_ValueSet)
  it_ValueSet : InsTy K a.C_ValueSet
  na_ValueSet__size : NoAttr K a.C_ValueSet "_size"
  na_ValueSet__stretches : NoAttr K a.C_ValueSet "_stretches"
  ki_ValueSet_int : PySem.W.kitOne K (.ref a.C_ValueSet) (.type "int") = some false
  ki_ValueSet_bool : PySem.W.kitOne K (.ref a.C_ValueSet) (.type "bool") = some false
  ki_ValueSet_list : PySem.W.kitOne K (.ref a.C_ValueSet) (.type "list") = some false
  ki_ValueSet_tuple : PySem.W.kitOne K (.ref a.C_ValueSet) (.type "tuple") = some false
  ty_ValueSet : PySem.W.typeIn K (.ref a.C_ValueSet) = some (.type "type")
  ks_ValueSet : PySem.W.kitOne K (.ref a.C_ValueSet) (.ref a.C_ValueSet) = some true
  cl_Box : Cls K a.C_Box
  g_Box : mg "Box" = some (.ref a.C_Box)
  it_Box : InsTy K a.C_Box
  na_Box__sets : NoAttr K a.C_Box "_sets"
  ki_Box_int : PySem.W.kitOne K (.ref a.C_Box) (.type "int") = some false
  ki_Box_bool : PySem.W.kitOne K (.ref a.C_Box) (.type "bool") = some false
  ki_Box_list : PySem.W.kitOne K (.ref a.C_Box) (.type "list") = some false
  ki_Box_tuple : PySem.W.kitOne K (.ref a.C_Box) (.type "tuple") = some false
  ty_Box : PySem.W.typeIn K (.ref a.C_Box) = some (.type "type")
  ks_Box : PySem.W.kitOne K (.ref a.C_Box) (.ref a.C_Box) = some true
  g_InvalidSet : mg "InvalidSet" = some (.ref a.C_InvalidSet)
  k_InvalidSet : PySem.W.keepIn K (.ref a.C_InvalidSet) = true
  x_InvalidSet : PySem.W.excIn K a.C_InvalidSet [.type "ValueError", .type "Exception", .type "BaseException", .type "object"] "ValueError.__new__" = true
  xb_InvalidSet : PySem.W.subIn K (.ref a.C_InvalidSet) (.type "BaseException") = some true
  xt_InvalidSet : PySem.W.typeIn K (.ref a.C_InvalidSet) = some (.type "type")
  g_OtherSizes : mg "OtherSizes" = some (.ref a.C_OtherSizes)
  k_OtherSizes : PySem.W.keepIn K (.ref a.C_OtherSizes) = true
  x_OtherSizes : PySem.W.excIn K a.C_OtherSizes [.type "ValueError", .type "Exception", .type "BaseException", .type "object"] "ValueError.__new__" = true
  xb_OtherSizes : PySem.W.subIn K (.ref a.C_OtherSizes) (.type "BaseException") = some true
  xt_OtherSizes : PySem.W.typeIn K (.ref a.C_OtherSizes) = some (.type "type")
  g_TooMany : mg "TooMany" = some (.ref a.C_TooMany)
  k_TooMany : PySem.W.keepIn K (.ref a.C_TooMany) = true
  x_TooMany : PySem.W.excIn K a.C_TooMany [.type "ValueError", .type "Exception", .type "BaseException", .type "object"] "ValueError.__new__" = true
  xb_TooMany : PySem.W.subIn K (.ref a.C_TooMany) (.type "BaseException") = some true
  xt_TooMany : PySem.W.typeIn K (.ref a.C_TooMany) = some (.type "type")
  g_InvalidBox : mg "InvalidBox" = some (.ref a.C_InvalidBox)
  k_InvalidBox : PySem.W.keepIn K (.ref a.C_InvalidBox) = true
  x_InvalidBox : PySem.W.excIn K a.C_InvalidBox [.type "ValueError", .type "Exception", .type "BaseException", .type "object"] "ValueError.__new__" = true
  xb_InvalidBox : PySem.W.subIn K (.ref a.C_InvalidBox) (.type "BaseException") = some true
  xt_InvalidBox : PySem.W.typeIn K (.ref a.C_InvalidBox) = some (.type "type")
  g_ScanError : mg "ScanError" = some (.ref a.C_ScanError)
  k_ScanError : PySem.W.keepIn K (.ref a.C_ScanError) = true
  x_ScanError : PySem.W.excIn K a.C_ScanError [.type "ValueError", .type "Exception", .type "BaseException", .type "object"] "ValueError.__new__" = true
  xb_ScanError : PySem.W.subIn K (.ref a.C_ScanError) (.type "BaseException") = some true
  xt_ScanError : PySem.W.typeIn K (.ref a.C_ScanError) = some (.type "type")
  kp_ValueSet_Box : PySem.W.kitOne K (.ref a.C_ValueSet) (.ref a.C_Box) = some false
  nq_ValueSet_Box : a.C_ValueSet ≠ a.C_Box
  kp_Box_ValueSet : PySem.W.kitOne K (.ref a.C_Box) (.ref a.C_ValueSet) = some false
  nq_Box_ValueSet : a.C_Box ≠ a.C_ValueSet
  bt_ValueSet_and_Box : BinTy K a.C_ValueSet .BitAnd (.ref a.C_Box)
  bt_Box_and_ValueSet : BinTy K a.C_Box .BitAnd (.ref a.C_ValueSet)
  g_InvalidCondition : mg "InvalidCondition" = some (.ref a.C_InvalidCondition)
  g_InvalidTable : mg "InvalidTable" = some (.ref a.C_InvalidTable)
  g_InvalidWish : mg "InvalidWish" = some (.ref a.C_InvalidWish)
  g_InvalidBoxes : mg "InvalidBoxes" = some (.ref a.C_InvalidBoxes)
  g_InvalidText : mg "InvalidText" = some (.ref a.C_InvalidText)
  g_AlreadyThere : mg "AlreadyThere" = some (.ref a.C_AlreadyThere)
  g_InvalidSizes : mg "InvalidSizes" = some (.ref a.C_InvalidSizes)
  g_NotThere : mg "NotThere" = some (.ref a.C_NotThere)
  g_NothingToUndo : mg "NothingToUndo" = some (.ref a.C_NothingToUndo)
  g_InvalidOrder : mg "InvalidOrder" = some (.ref a.C_InvalidOrder)
  g_InvalidKey : mg "InvalidKey" = some (.ref a.C_InvalidKey)
  g_InvalidNumber : mg "InvalidNumber" = some (.ref a.C_InvalidNumber)
  g_EmptyBox : mg "EmptyBox" = some (.ref a.C_EmptyBox)
  ec_InvalidBox : ExcC K a.C_InvalidBox
  kv_InvalidBox : PySem.W.kitOne K (.ref a.C_InvalidBox) (.type "ValueError") = some true
  es_InvalidBox : PySem.W.exmOne K (.ref a.C_InvalidBox) (.ref a.C_ScanError) = some true
  ec_OtherSizes : ExcC K a.C_OtherSizes
  kv_OtherSizes : PySem.W.kitOne K (.ref a.C_OtherSizes) (.type "ValueError") = some true
  es_OtherSizes : PySem.W.exmOne K (.ref a.C_OtherSizes) (.ref a.C_ScanError) = some true
  ec_TooMany : ExcC K a.C_TooMany
  kv_TooMany : PySem.W.kitOne K (.ref a.C_TooMany) (.type "ValueError") = some true
  es_TooMany : PySem.W.exmOne K (.ref a.C_TooMany) (.ref a.C_ScanError) = some true
  kx_InvalidBox_InvalidCondition : PySem.W.kitOne K (.ref a.C_InvalidBox) (.ref a.C_InvalidCondition) = some false
  kx_InvalidBox_InvalidTable : PySem.W.kitOne K (.ref a.C_InvalidBox) (.ref a.C_InvalidTable) = some false
  kx_InvalidBox_InvalidWish : PySem.W.kitOne K (.ref a.C_InvalidBox) (.ref a.C_InvalidWish) = some false
  kx_InvalidBox_InvalidBoxes : PySem.W.kitOne K (.ref a.C_InvalidBox) (.ref a.C_InvalidBoxes) = some false
  kx_InvalidBox_InvalidText : PySem.W.kitOne K (.ref a.C_InvalidBox) (.ref a.C_InvalidText) = some false
  kx_InvalidBox_AlreadyThere : PySem.W.kitOne K (.ref a.C_InvalidBox) (.ref a.C_AlreadyThere) = some false
  kx_InvalidBox_InvalidSizes : PySem.W.kitOne K (.ref a.C_InvalidBox) (.ref a.C_InvalidSizes) = some false
  kx_InvalidBox_InvalidSet : PySem.W.kitOne K (.ref a.C_InvalidBox) (.ref a.C_InvalidSet) = some false
  kx_InvalidBox_InvalidBox : PySem.W.kitOne K (.ref a.C_InvalidBox) (.ref a.C_InvalidBox) = some true
  kx_InvalidBox_NotThere : PySem.W.kitOne K (.ref a.C_InvalidBox) (.ref a.C_NotThere) = some false
  kx_InvalidBox_NothingToUndo : PySem.W.kitOne K (.ref a.C_InvalidBox) (.ref a.C_NothingToUndo) = some false
  kx_InvalidBox_InvalidOrder : PySem.W.kitOne K (.ref a.C_InvalidBox) (.ref a.C_InvalidOrder) = some false
  kx_InvalidBox_InvalidKey : PySem.W.kitOne K (.ref a.C_InvalidBox) (.ref a.C_InvalidKey) = some false
  kx_InvalidBox_InvalidNumber : PySem.W.kitOne K (.ref a.C_InvalidBox) (.ref a.C_InvalidNumber) = some false
  kx_InvalidBox_OtherSizes : PySem.W.kitOne K (.ref a.C_InvalidBox) (.ref a.C_OtherSizes) = some false
  kx_InvalidBox_EmptyBox : PySem.W.kitOne K (.ref a.C_InvalidBox) (.ref a.C_EmptyBox) = some false
  kx_InvalidBox_TooMany : PySem.W.kitOne K (.ref a.C_InvalidBox) (.ref a.C_TooMany) = some false
  kx_OtherSizes_InvalidCondition : PySem.W.kitOne K (.ref a.C_OtherSizes) (.ref a.C_InvalidCondition) = some false
  kx_OtherSizes_InvalidTable : PySem.W.kitOne K (.ref a.C_OtherSizes) (.ref a.C_InvalidTable) = some false
  kx_OtherSizes_InvalidWish : PySem.W.kitOne K (.ref a.C_OtherSizes) (.ref a.C_InvalidWish) = some false
  kx_OtherSizes_InvalidBoxes : PySem.W.kitOne K (.ref a.C_OtherSizes) (.ref a.C_InvalidBoxes) = some false
  kx_OtherSizes_InvalidText : PySem.W.kitOne K (.ref a.C_OtherSizes) (.ref a.C_InvalidText) = some false
  kx_OtherSizes_AlreadyThere : PySem.W.kitOne K (.ref a.C_OtherSizes) (.ref a.C_AlreadyThere) = some false
  kx_OtherSizes_InvalidSizes : PySem.W.kitOne K (.ref a.C_OtherSizes) (.ref a.C_InvalidSizes) = some false
  kx_OtherSizes_InvalidSet : PySem.W.kitOne K (.ref a.C_OtherSizes) (.ref a.C_InvalidSet) = some false
  kx_OtherSizes_InvalidBox : PySem.W.kitOne K (.ref a.C_OtherSizes) (.ref a.C_InvalidBox) = some false
  kx_OtherSizes_NotThere : PySem.W.kitOne K (.ref a.C_OtherSizes) (.ref a.C_NotThere) = some false
  kx_OtherSizes_NothingToUndo : PySem.W.kitOne K (.ref a.C_OtherSizes) (.ref a.C_NothingToUndo) = some false
  kx_OtherSizes_InvalidOrder : PySem.W.kitOne K (.ref a.C_OtherSizes) (.ref a.C_InvalidOrder) = some false
  kx_OtherSizes_InvalidKey : PySem.W.kitOne K (.ref a.C_OtherSizes) (.ref a.C_InvalidKey) = some false
  kx_OtherSizes_InvalidNumber : PySem.W.kitOne K (.ref a.C_OtherSizes) (.ref a.C_InvalidNumber) = some false
  kx_OtherSizes_OtherSizes : PySem.W.kitOne K (.ref a.C_OtherSizes) (.ref a.C_OtherSizes) = some true
  kx_OtherSizes_EmptyBox : PySem.W.kitOne K (.ref a.C_OtherSizes) (.ref a.C_EmptyBox) = some false
  kx_OtherSizes_TooMany : PySem.W.kitOne K (.ref a.C_OtherSizes) (.ref a.C_TooMany) = some false
  kx_TooMany_InvalidCondition : PySem.W.kitOne K (.ref a.C_TooMany) (.ref a.C_InvalidCondition) = some false
  kx_TooMany_InvalidTable : PySem.W.kitOne K (.ref a.C_TooMany) (.ref a.C_InvalidTable) = some false
  kx_TooMany_InvalidWish : PySem.W.kitOne K (.ref a.C_TooMany) (.ref a.C_InvalidWish) = some false
  kx_TooMany_InvalidBoxes : PySem.W.kitOne K (.ref a.C_TooMany) (.ref a.C_InvalidBoxes) = some false
  kx_TooMany_InvalidText : PySem.W.kitOne K (.ref a.C_TooMany) (.ref a.C_InvalidText) = some false
  kx_TooMany_AlreadyThere : PySem.W.kitOne K (.ref a.C_TooMany) (.ref a.C_AlreadyThere) = some false
  kx_TooMany_InvalidSizes : PySem.W.kitOne K (.ref a.C_TooMany) (.ref a.C_InvalidSizes) = some false
  kx_TooMany_InvalidSet : PySem.W.kitOne K (.ref a.C_TooMany) (.ref a.C_InvalidSet) = some false
  kx_TooMany_InvalidBox : PySem.W.kitOne K (.ref a.C_TooMany) (.ref a.C_InvalidBox) = some false
  kx_TooMany_NotThere : PySem.W.kitOne K (.ref a.C_TooMany) (.ref a.C_NotThere) = some false
  kx_TooMany_NothingToUndo : PySem.W.kitOne K (.ref a.C_TooMany) (.ref a.C_NothingToUndo) = some false
  kx_TooMany_InvalidOrder : PySem.W.kitOne K (.ref a.C_TooMany) (.ref a.C_InvalidOrder) = some false
  kx_TooMany_InvalidKey : PySem.W.kitOne K (.ref a.C_TooMany) (.ref a.C_InvalidKey) = some false
  kx_TooMany_InvalidNumber : PySem.W.kitOne K (.ref a.C_TooMany) (.ref a.C_InvalidNumber) = some false
  kx_TooMany_OtherSizes : PySem.W.kitOne K (.ref a.C_TooMany) (.ref a.C_OtherSizes) = some false
  kx_TooMany_EmptyBox : PySem.W.kitOne K (.ref a.C_TooMany) (.ref a.C_EmptyBox) = some false
  kx_TooMany_TooMany : PySem.W.kitOne K (.ref a.C_TooMany) (.ref a.C_TooMany) = some true
  ex_InvalidSet : PySem.W.exmOne K (.ref a.C_InvalidSet) (.ref a.C_InvalidSet) = some true
  ex_OtherSizes : PySem.W.exmOne K (.ref a.C_OtherSizes) (.ref a.C_OtherSizes) = some true
  ex_TooMany : PySem.W.exmOne K (.ref a.C_TooMany) (.ref a.C_TooMany) = some true
  ex_InvalidBox : PySem.W.exmOne K (.ref a.C_InvalidBox) (.ref a.C_InvalidBox) = some true
  ex_ScanError : PySem.W.exmOne K (.ref a.C_ScanError) (.ref a.C_ScanError) = some true
end TL
set_option Elab.async false
set_option linter.all false
set_option maxRecDepth 100000
namespace TL
open PySem PySem.Spec L2
theorem all_tx {K : PySem.W.Frag} {h : Heap} {mg : Str → Option Value} (X : K.In h) (G : h.Ns mainGlobals mg) {fa : Addr} (hfa : mg "law" = some (.ref fa))
  {t_GREATEST_SIZE : Tok}
  {t_MOST_COLUMNS : Tok}
  {t_MOST_STRETCHES : Tok}
  {C_ValueSet : Addr}
  {C_Box : Addr}
  {C_InvalidSet : Addr}
  {C_OtherSizes : Addr}
  {C_TooMany : Addr}
  {C_InvalidBox : Addr}
  {C_ScanError : Addr}
  {C_InvalidCondition : Addr}
  {C_InvalidTable : Addr}
  {C_InvalidWish : Addr}
  {C_InvalidBoxes : Addr}
  {C_InvalidText : Addr}
  {C_AlreadyThere : Addr}
  {C_InvalidSizes : Addr}
  {C_NotThere : Addr}
  {C_NothingToUndo : Addr}
  {C_InvalidOrder : Addr}
  {C_InvalidKey : Addr}
  {C_InvalidNumber : Addr}
  {C_EmptyBox : Addr}
  {f_is_integer : Addr} {od_is_integer an_is_integer : Option Addr} {sl_is_integer : Array (Option Value)} {oc_is_integer kV_is_integer dc_is_integer pm_is_integer cd_is_integer ct_is_integer : Value}
  {f_is_size : Addr} {od_is_size an_is_size : Option Addr} {sl_is_size : Array (Option Value)} {oc_is_size kV_is_size dc_is_size pm_is_size cd_is_size ct_is_size : Value}
  {f_are_stretches : Addr} {od_are_stretches an_are_stretches : Option Addr} {sl_are_stretches : Array (Option Value)} {oc_are_stretches kV_are_stretches dc_are_stretches pm_are_stretches cd_are_stretches ct_are_stretches : Value}
  {f__is_stretch : Addr} {od__is_stretch an__is_stretch : Option Addr} {sl__is_stretch : Array (Option Value)} {oc__is_stretch kV__is_stretch dc__is_stretch pm__is_stretch cd__is_stretch ct__is_stretch : Value}
  {f_ValueSetU_initU : Addr} {od_ValueSetU_initU an_ValueSetU_initU : Option Addr} {sl_ValueSetU_initU : Array (Option Value)} {oc_ValueSetU_initU kV_ValueSetU_initU dc_ValueSetU_initU pm_ValueSetU_initU cd_ValueSetU_initU ct_ValueSetU_initU : Value}
  {f_ValueSet_size : Addr} {od_ValueSet_size an_ValueSet_size : Option Addr} {sl_ValueSet_size : Array (Option Value)} {oc_ValueSet_size kV_ValueSet_size dc_ValueSet_size pm_ValueSet_size cd_ValueSet_size ct_ValueSet_size : Value}
  {p_ValueSet_size : Addr} {rs_ValueSet_size : List Value}
  {f_ValueSet_stretches : Addr} {od_ValueSet_stretches an_ValueSet_stretches : Option Addr} {sl_ValueSet_stretches : Array (Option Value)} {oc_ValueSet_stretches kV_ValueSet_stretches dc_ValueSet_stretches pm_ValueSet_stretches cd_ValueSet_stretches ct_ValueSet_stretches : Value}
  {p_ValueSet_stretches : Addr} {rs_ValueSet_stretches : List Value}
  {f_ValueSetU_eqU : Addr} {od_ValueSetU_eqU an_ValueSetU_eqU : Option Addr} {sl_ValueSetU_eqU : Array (Option Value)} {oc_ValueSetU_eqU kV_ValueSetU_eqU dc_ValueSetU_eqU pm_ValueSetU_eqU cd_ValueSetU_eqU ct_ValueSetU_eqU : Value}
  {f_ValueSetU_containsU : Addr} {od_ValueSetU_containsU an_ValueSetU_containsU : Option Addr} {sl_ValueSetU_containsU : Array (Option Value)} {oc_ValueSetU_containsU kV_ValueSetU_containsU dc_ValueSetU_containsU pm_ValueSetU_containsU cd_ValueSetU_containsU ct_ValueSetU_containsU : Value}
  {f_ValueSetU_andU : Addr} {od_ValueSetU_andU an_ValueSetU_andU : Option Addr} {sl_ValueSetU_andU : Array (Option Value)} {oc_ValueSetU_andU kV_ValueSetU_andU dc_ValueSetU_andU pm_ValueSetU_andU cd_ValueSetU_andU ct_ValueSetU_andU : Value}
  {f_ValueSetUcheck : Addr} {od_ValueSetUcheck an_ValueSetUcheck : Option Addr} {sl_ValueSetUcheck : Array (Option Value)} {oc_ValueSetUcheck kV_ValueSetUcheck dc_ValueSetUcheck pm_ValueSetUcheck cd_ValueSetUcheck ct_ValueSetUcheck : Value}
  {f__limited : Addr} {od__limited an__limited : Option Addr} {sl__limited : Array (Option Value)} {oc__limited kV__limited dc__limited pm__limited cd__limited ct__limited : Value}
  {f__common : Addr} {od__common an__common : Option Addr} {sl__common : Array (Option Value)} {oc__common kV__common dc__common pm__common cd__common ct__common : Value}
  {f_BoxU_initU : Addr} {od_BoxU_initU an_BoxU_initU : Option Addr} {sl_BoxU_initU : Array (Option Value)} {oc_BoxU_initU kV_BoxU_initU dc_BoxU_initU pm_BoxU_initU cd_BoxU_initU ct_BoxU_initU : Value}
  {f_Box_sets : Addr} {od_Box_sets an_Box_sets : Option Addr} {sl_Box_sets : Array (Option Value)} {oc_Box_sets kV_Box_sets dc_Box_sets pm_Box_sets cd_Box_sets ct_Box_sets : Value}
  {p_Box_sets : Addr} {rs_Box_sets : List Value}
  {f_Box_sizes : Addr} {od_Box_sizes an_Box_sizes : Option Addr} {sl_Box_sizes : Array (Option Value)} {oc_Box_sizes kV_Box_sizes dc_Box_sizes pm_Box_sizes cd_Box_sizes ct_Box_sizes : Value}
  {p_Box_sizes : Addr} {rs_Box_sizes : List Value}
  {f_BoxU_eqU : Addr} {od_BoxU_eqU an_BoxU_eqU : Option Addr} {sl_BoxU_eqU : Array (Option Value)} {oc_BoxU_eqU kV_BoxU_eqU dc_BoxU_eqU pm_BoxU_eqU cd_BoxU_eqU ct_BoxU_eqU : Value}
  {f_BoxU_containsU : Addr} {od_BoxU_containsU an_BoxU_containsU : Option Addr} {sl_BoxU_containsU : Array (Option Value)} {oc_BoxU_containsU kV_BoxU_containsU dc_BoxU_containsU pm_BoxU_containsU cd_BoxU_containsU ct_BoxU_containsU : Value}
  {f_BoxU_andU : Addr} {od_BoxU_andU an_BoxU_andU : Option Addr} {sl_BoxU_andU : Array (Option Value)} {oc_BoxU_andU kV_BoxU_andU dc_BoxU_andU pm_BoxU_andU cd_BoxU_andU ct_BoxU_andU : Value}
  {f__are_sets : Addr} {od__are_sets an__are_sets : Option Addr} {sl__are_sets : Array (Option Value)} {oc__are_sets kV__are_sets dc__are_sets pm__are_sets cd__are_sets ct__are_sets : Value}
  {f__law_tape : Addr} {od__law_tape an__law_tape : Option Addr} {sl__law_tape : Array (Option Value)} {oc__law_tape kV__law_tape dc__law_tape pm__law_tape cd__law_tape ct__law_tape : Value}
  {f__law_next : Addr} {od__law_next an__law_next : Option Addr} {sl__law_next : Array (Option Value)} {oc__law_next kV__law_next dc__law_next pm__law_next cd__law_next ct__law_next : Value}
  {f__law_great : Addr} {od__law_great an__law_great : Option Addr} {sl__law_great : Array (Option Value)} {oc__law_great kV__law_great dc__law_great pm__law_great cd__law_great ct__law_great : Value}
  {f__law_kind : Addr} {od__law_kind an__law_kind : Option Addr} {sl__law_kind : Array (Option Value)} {oc__law_kind kV__law_kind dc__law_kind pm__law_kind cd__law_kind ct__law_kind : Value}
  {f__law_size : Addr} {od__law_size an__law_size : Option Addr} {sl__law_size : Array (Option Value)} {oc__law_size kV__law_size dc__law_size pm__law_size cd__law_size ct__law_size : Value}
  {f__law_filled : Addr} {od__law_filled an__law_filled : Option Addr} {sl__law_filled : Array (Option Value)} {oc__law_filled kV__law_filled dc__law_filled pm__law_filled cd__law_filled ct__law_filled : Value}
  {f__law_told : Addr} {od__law_told an__law_told : Option Addr} {sl__law_told : Array (Option Value)} {oc__law_told kV__law_told dc__law_told pm__law_told cd__law_told ct__law_told : Value}
  {f__law_common : Addr} {od__law_common an__law_common : Option Addr} {sl__law_common : Array (Option Value)} {oc__law_common kV__law_common dc__law_common pm__law_common cd__law_common ct__law_common : Value}
  {f__law_right : Addr} {od__law_right an__law_right : Option Addr} {sl__law_right : Array (Option Value)} {oc__law_right kV__law_right dc__law_right pm__law_right cd__law_right ct__law_right : Value}
  {f_law : Addr} {od_law an_law : Option Addr} {sl_law : Array (Option Value)} {oc_law kV_law dc_law pm_law cd_law ct_law : Value}
  {ga_ValueSet_and_Box : Addr}
  {ga_Box_and_ValueSet : Addr}
  (n_ValueError : PySem.W.nsIn K mainGlobals "ValueError" = some none)
  (n_abs : PySem.W.nsIn K mainGlobals "abs" = some none)
  (n_all : PySem.W.nsIn K mainGlobals "all" = some none)
  (n_any : PySem.W.nsIn K mainGlobals "any" = some none)
  (n_bool : PySem.W.nsIn K mainGlobals "bool" = some none)
  (n_int : PySem.W.nsIn K mainGlobals "int" = some none)
  (n_isinstance : PySem.W.nsIn K mainGlobals "isinstance" = some none)
  (n_len : PySem.W.nsIn K mainGlobals "len" = some none)
  (n_list : PySem.W.nsIn K mainGlobals "list" = some none)
  (n_max : PySem.W.nsIn K mainGlobals "max" = some none)
  (n_min : PySem.W.nsIn K mainGlobals "min" = some none)
  (n_range : PySem.W.nsIn K mainGlobals "range" = some none)
  (n_set : PySem.W.nsIn K mainGlobals "set" = some none)
  (n_sorted : PySem.W.nsIn K mainGlobals "sorted" = some none)
  (n_tuple : PySem.W.nsIn K mainGlobals "tuple" = some none)
  (n_zip : PySem.W.nsIn K mainGlobals "zip" = some none)
  (c_GREATEST_SIZE : PySem.W.nsIn K mainGlobals "GREATEST_SIZE" = some (some (.int (1000000000000000000000000000000) t_GREATEST_SIZE)))
  (c_MOST_COLUMNS : PySem.W.nsIn K mainGlobals "MOST_COLUMNS" = some (some (.int (8) t_MOST_COLUMNS)))
  (c_MOST_STRETCHES : PySem.W.nsIn K mainGlobals "MOST_STRETCHES" = some (some (.int (12) t_MOST_STRETCHES)))
  (aC_ValueSet : PySem.W.nsIn K mainGlobals "ValueSet" = some (some (.ref C_ValueSet)))
  (aC_Box : PySem.W.nsIn K mainGlobals "Box" = some (some (.ref C_Box)))
  (aC_InvalidSet : PySem.W.nsIn K mainGlobals "InvalidSet" = some (some (.ref C_InvalidSet)))
  (aC_OtherSizes : PySem.W.nsIn K mainGlobals "OtherSizes" = some (some (.ref C_OtherSizes)))
  (aC_TooMany : PySem.W.nsIn K mainGlobals "TooMany" = some (some (.ref C_TooMany)))
  (aC_InvalidBox : PySem.W.nsIn K mainGlobals "InvalidBox" = some (some (.ref C_InvalidBox)))
  (aC_ScanError : PySem.W.nsIn K mainGlobals "ScanError" = some (some (.ref C_ScanError)))
  (aC_InvalidCondition : PySem.W.nsIn K mainGlobals "InvalidCondition" = some (some (.ref C_InvalidCondition)))
  (aC_InvalidTable : PySem.W.nsIn K mainGlobals "InvalidTable" = some (some (.ref C_InvalidTable)))
  (aC_InvalidWish : PySem.W.nsIn K mainGlobals "InvalidWish" = some (some (.ref C_InvalidWish)))
  (aC_InvalidBoxes : PySem.W.nsIn K mainGlobals "InvalidBoxes" = some (some (.ref C_InvalidBoxes)))
  (aC_InvalidText : PySem.W.nsIn K mainGlobals "InvalidText" = some (some (.ref C_InvalidText)))
  (aC_AlreadyThere : PySem.W.nsIn K mainGlobals "AlreadyThere" = some (some (.ref C_AlreadyThere)))
  (aC_InvalidSizes : PySem.W.nsIn K mainGlobals "InvalidSizes" = some (some (.ref C_InvalidSizes)))
  (aC_NotThere : PySem.W.nsIn K mainGlobals "NotThere" = some (some (.ref C_NotThere)))
  (aC_NothingToUndo : PySem.W.nsIn K mainGlobals "NothingToUndo" = some (some (.ref C_NothingToUndo)))
  (aC_InvalidOrder : PySem.W.nsIn K mainGlobals "InvalidOrder" = some (some (.ref C_InvalidOrder)))
  (aC_InvalidKey : PySem.W.nsIn K mainGlobals "InvalidKey" = some (some (.ref C_InvalidKey)))
  (aC_InvalidNumber : PySem.W.nsIn K mainGlobals "InvalidNumber" = some (some (.ref C_InvalidNumber)))
  (aC_EmptyBox : PySem.W.nsIn K mainGlobals "EmptyBox" = some (some (.ref C_EmptyBox)))
  (a_is_integer : PySem.W.nsIn K mainGlobals "is_integer" = some (some (.ref f_is_integer)))
  (l_is_integer : K.lookup f_is_integer = some ⟨oc_is_integer, od_is_integer, .func (PySem.W.fnOf "is_integer" "is_integer" (defArgs s_is_integer) (defBody s_is_integer) (defScope s_is_integer) .none kV_is_integer dc_is_integer pm_is_integer an_is_integer cd_is_integer ct_is_integer), sl_is_integer⟩)
  (c_is_integer : PySem.W.codeIn K cd_is_integer "is_integer" = true)
  (k_is_integer : PySem.W.keepIn K (.ref f_is_integer) = true)
  (a_is_size : PySem.W.nsIn K mainGlobals "is_size" = some (some (.ref f_is_size)))
  (l_is_size : K.lookup f_is_size = some ⟨oc_is_size, od_is_size, .func (PySem.W.fnOf "is_size" "is_size" (defArgs s_is_size) (defBody s_is_size) (defScope s_is_size) .none kV_is_size dc_is_size pm_is_size an_is_size cd_is_size ct_is_size), sl_is_size⟩)
  (c_is_size : PySem.W.codeIn K cd_is_size "is_size" = true)
  (k_is_size : PySem.W.keepIn K (.ref f_is_size) = true)
  (a_are_stretches : PySem.W.nsIn K mainGlobals "are_stretches" = some (some (.ref f_are_stretches)))
  (l_are_stretches : K.lookup f_are_stretches = some ⟨oc_are_stretches, od_are_stretches, .func (PySem.W.fnOf "are_stretches" "are_stretches" (defArgs s_are_stretches) (defBody s_are_stretches) (defScope s_are_stretches) .none kV_are_stretches dc_are_stretches pm_are_stretches an_are_stretches cd_are_stretches ct_are_stretches), sl_are_stretches⟩)
  (c_are_stretches : PySem.W.codeIn K cd_are_stretches "are_stretches" = true)
  (k_are_stretches : PySem.W.keepIn K (.ref f_are_stretches) = true)
  (a__is_stretch : PySem.W.nsIn K mainGlobals "_is_stretch" = some (some (.ref f__is_stretch)))
  (l__is_stretch : K.lookup f__is_stretch = some ⟨oc__is_stretch, od__is_stretch, .func (PySem.W.fnOf "_is_stretch" "_is_stretch" (defArgs s__is_stretch) (defBody s__is_stretch) (defScope s__is_stretch) .none kV__is_stretch dc__is_stretch pm__is_stretch an__is_stretch cd__is_stretch ct__is_stretch), sl__is_stretch⟩)
  (c__is_stretch : PySem.W.codeIn K cd__is_stretch "_is_stretch" = true)
  (k__is_stretch : PySem.W.keepIn K (.ref f__is_stretch) = true)
  (a_ValueSetU_initU : PySem.W.findIn K (.ref C_ValueSet) "__init__" = some (some (.ref f_ValueSetU_initU)))
  (i_ValueSetU_initU : PySem.W.isFn K (.ref f_ValueSetU_initU) = true)
  (mk_ValueSet : PySem.W.makesIn K C_ValueSet = true)
  (kc_ValueSet : PySem.W.keepIn K (.ref C_ValueSet) = true)
  (l_ValueSetU_initU : K.lookup f_ValueSetU_initU = some ⟨oc_ValueSetU_initU, od_ValueSetU_initU, .func (PySem.W.fnOf "__init__" "ValueSet.__init__" (defArgs s_ValueSetU_initU) (defBody s_ValueSetU_initU) (defScope s_ValueSetU_initU) .none kV_ValueSetU_initU dc_ValueSetU_initU pm_ValueSetU_initU an_ValueSetU_initU cd_ValueSetU_initU ct_ValueSetU_initU), sl_ValueSetU_initU⟩)
  (c_ValueSetU_initU : PySem.W.codeIn K cd_ValueSetU_initU "ValueSet.__init__" = true)
  (k_ValueSetU_initU : PySem.W.keepIn K (.ref f_ValueSetU_initU) = true)
  (a_ValueSet_size : PySem.W.findIn K (.ref C_ValueSet) "size" = some (some (.ref p_ValueSet_size)))
  (pg_ValueSet_size : PySem.W.specialIn K (.ref p_ValueSet_size) "__get__" = some (some (.builtin "property.__get__")))
  (pt_ValueSet_size : PySem.W.takesIn K (.ref p_ValueSet_size) = some true)
  (pr_ValueSet_size : PySem.W.recIn K p_ValueSet_size "property" = some (.ref f_ValueSet_size :: rs_ValueSet_size))
  (l_ValueSet_size : K.lookup f_ValueSet_size = some ⟨oc_ValueSet_size, od_ValueSet_size, .func (PySem.W.fnOf "size" "ValueSet.size" (defArgs s_ValueSet_size) (defBody s_ValueSet_size) (defScope s_ValueSet_size) .none kV_ValueSet_size dc_ValueSet_size pm_ValueSet_size an_ValueSet_size cd_ValueSet_size ct_ValueSet_size), sl_ValueSet_size⟩)
  (c_ValueSet_size : PySem.W.codeIn K cd_ValueSet_size "ValueSet.size" = true)
  (k_ValueSet_size : PySem.W.keepIn K (.ref f_ValueSet_size) = true)
  (a_ValueSet_stretches : PySem.W.findIn K (.ref C_ValueSet) "stretches" = some (some (.ref p_ValueSet_stretches)))
  (pg_ValueSet_stretches : PySem.W.specialIn K (.ref p_ValueSet_stretches) "__get__" = some (some (.builtin "property.__get__")))
  (pt_ValueSet_stretches : PySem.W.takesIn K (.ref p_ValueSet_stretches) = some true)
  (pr_ValueSet_stretches : PySem.W.recIn K p_ValueSet_stretches "property" = some (.ref f_ValueSet_stretches :: rs_ValueSet_stretches))
  (l_ValueSet_stretches : K.lookup f_ValueSet_stretches = some ⟨oc_ValueSet_stretches, od_ValueSet_stretches, .func (PySem.W.fnOf "stretches" "ValueSet.stretches" (defArgs s_ValueSet_stretches) (defBody s_ValueSet_stretches) (defScope s_ValueSet_stretches) .none kV_ValueSet_stretches dc_ValueSet_stretches pm_ValueSet_stretches an_ValueSet_stretches cd_ValueSet_stretches ct_ValueSet_stretches), sl_ValueSet_stretches⟩)
  (c_ValueSet_stretches : PySem.W.codeIn K cd_ValueSet_stretches "ValueSet.stretches" = true)
  (k_ValueSet_stretches : PySem.W.keepIn K (.ref f_ValueSet_stretches) = true)
  (a_ValueSetU_eqU : PySem.W.findIn K (.ref C_ValueSet) "__eq__" = some (some (.ref f_ValueSetU_eqU)))
  (i_ValueSetU_eqU : PySem.W.typeIn K (.ref f_ValueSetU_eqU) = some (.type "function"))
  (ne_ValueSet : PySem.W.findIn K (.ref C_ValueSet) "__ne__" = some (some (.builtin "object.__ne__")))
  (l_ValueSetU_eqU : K.lookup f_ValueSetU_eqU = some ⟨oc_ValueSetU_eqU, od_ValueSetU_eqU, .func (PySem.W.fnOf "__eq__" "ValueSet.__eq__" (defArgs s_ValueSetU_eqU) (defBody s_ValueSetU_eqU) (defScope s_ValueSetU_eqU) .none kV_ValueSetU_eqU dc_ValueSetU_eqU pm_ValueSetU_eqU an_ValueSetU_eqU cd_ValueSetU_eqU ct_ValueSetU_eqU), sl_ValueSetU_eqU⟩)
  (c_ValueSetU_eqU : PySem.W.codeIn K cd_ValueSetU_eqU "ValueSet.__eq__" = true)
  (k_ValueSetU_eqU : PySem.W.keepIn K (.ref f_ValueSetU_eqU) = true)
  (a_ValueSetU_containsU : PySem.W.findIn K (.ref C_ValueSet) "__contains__" = some (some (.ref f_ValueSetU_containsU)))
  (i_ValueSetU_containsU : PySem.W.typeIn K (.ref f_ValueSetU_containsU) = some (.type "function"))
  (l_ValueSetU_containsU : K.lookup f_ValueSetU_containsU = some ⟨oc_ValueSetU_containsU, od_ValueSetU_containsU, .func (PySem.W.fnOf "__contains__" "ValueSet.__contains__" (defArgs s_ValueSetU_containsU) (defBody s_ValueSetU_containsU) (defScope s_ValueSetU_containsU) .none kV_ValueSetU_containsU dc_ValueSetU_containsU pm_ValueSetU_containsU an_ValueSetU_containsU cd_ValueSetU_containsU ct_ValueSetU_containsU), sl_ValueSetU_containsU⟩)
  (c_ValueSetU_containsU : PySem.W.codeIn K cd_ValueSetU_containsU "ValueSet.__contains__" = true)
  (k_ValueSetU_containsU : PySem.W.keepIn K (.ref f_ValueSetU_containsU) = true)
  (a_ValueSetU_andU : PySem.W.findIn K (.ref C_ValueSet) (PySem.dunder "and") = some (some (.ref f_ValueSetU_andU)))
  (i_ValueSetU_andU : PySem.W.typeIn K (.ref f_ValueSetU_andU) = some (.type "function"))
  (sf_ValueSetU_andU : PySem.W.selfFirst K C_ValueSet = true)
  (rr_ValueSetU_andU : PySem.W.findIn K (.ref C_ValueSet) (dunderR "and") = some none)
  (l_ValueSetU_andU : K.lookup f_ValueSetU_andU = some ⟨oc_ValueSetU_andU, od_ValueSetU_andU, .func (PySem.W.fnOf "__and__" "ValueSet.__and__" (defArgs s_ValueSetU_andU) (defBody s_ValueSetU_andU) (defScope s_ValueSetU_andU) .none kV_ValueSetU_andU dc_ValueSetU_andU pm_ValueSetU_andU an_ValueSetU_andU cd_ValueSetU_andU ct_ValueSetU_andU), sl_ValueSetU_andU⟩)
  (c_ValueSetU_andU : PySem.W.codeIn K cd_ValueSetU_andU "ValueSet.__and__" = true)
  (k_ValueSetU_andU : PySem.W.keepIn K (.ref f_ValueSetU_andU) = true)
  (a_ValueSetUcheck : PySem.W.findIn K (.ref C_ValueSet) "_check" = some (some (.ref f_ValueSetUcheck)))
  (i_ValueSetUcheck : PySem.W.isFn K (.ref f_ValueSetUcheck) = true)
  (l_ValueSetUcheck : K.lookup f_ValueSetUcheck = some ⟨oc_ValueSetUcheck, od_ValueSetUcheck, .func (PySem.W.fnOf "_check" "ValueSet._check" (defArgs s_ValueSetUcheck) (defBody s_ValueSetUcheck) (defScope s_ValueSetUcheck) .none kV_ValueSetUcheck dc_ValueSetUcheck pm_ValueSetUcheck an_ValueSetUcheck cd_ValueSetUcheck ct_ValueSetUcheck), sl_ValueSetUcheck⟩)
  (c_ValueSetUcheck : PySem.W.codeIn K cd_ValueSetUcheck "ValueSet._check" = true)
  (k_ValueSetUcheck : PySem.W.keepIn K (.ref f_ValueSetUcheck) = true)
  (a__limited : PySem.W.nsIn K mainGlobals "_limited" = some (some (.ref f__limited)))
  (l__limited : K.lookup f__limited = some ⟨oc__limited, od__limited, .func (PySem.W.fnOf "_limited" "_limited" (defArgs s__limited) (defBody s__limited) (defScope s__limited) .none kV__limited dc__limited pm__limited an__limited cd__limited ct__limited), sl__limited⟩)
  (c__limited : PySem.W.codeIn K cd__limited "_limited" = true)
  (k__limited : PySem.W.keepIn K (.ref f__limited) = true)
  (a__common : PySem.W.nsIn K mainGlobals "_common" = some (some (.ref f__common)))
  (l__common : K.lookup f__common = some ⟨oc__common, od__common, .func (PySem.W.fnOf "_common" "_common" (defArgs s__common) (defBody s__common) (defScope s__common) .none kV__common dc__common pm__common an__common cd__common ct__common), sl__common⟩)
  (c__common : PySem.W.codeIn K cd__common "_common" = true)
  (k__common : PySem.W.keepIn K (.ref f__common) = true)
  (a_BoxU_initU : PySem.W.findIn K (.ref C_Box) "__init__" = some (some (.ref f_BoxU_initU)))
  (i_BoxU_initU : PySem.W.isFn K (.ref f_BoxU_initU) = true)
  (mk_Box : PySem.W.makesIn K C_Box = true)
  (kc_Box : PySem.W.keepIn K (.ref C_Box) = true)
  (l_BoxU_initU : K.lookup f_BoxU_initU = some ⟨oc_BoxU_initU, od_BoxU_initU, .func (PySem.W.fnOf "__init__" "Box.__init__" (defArgs s_BoxU_initU) (defBody s_BoxU_initU) (defScope s_BoxU_initU) .none kV_BoxU_initU dc_BoxU_initU pm_BoxU_initU an_BoxU_initU cd_BoxU_initU ct_BoxU_initU), sl_BoxU_initU⟩)
  (c_BoxU_initU : PySem.W.codeIn K cd_BoxU_initU "Box.__init__" = true)
  (k_BoxU_initU : PySem.W.keepIn K (.ref f_BoxU_initU) = true)
  (a_Box_sets : PySem.W.findIn K (.ref C_Box) "sets" = some (some (.ref p_Box_sets)))
  (pg_Box_sets : PySem.W.specialIn K (.ref p_Box_sets) "__get__" = some (some (.builtin "property.__get__")))
  (pt_Box_sets : PySem.W.takesIn K (.ref p_Box_sets) = some true)
  (pr_Box_sets : PySem.W.recIn K p_Box_sets "property" = some (.ref f_Box_sets :: rs_Box_sets))
  (l_Box_sets : K.lookup f_Box_sets = some ⟨oc_Box_sets, od_Box_sets, .func (PySem.W.fnOf "sets" "Box.sets" (defArgs s_Box_sets) (defBody s_Box_sets) (defScope s_Box_sets) .none kV_Box_sets dc_Box_sets pm_Box_sets an_Box_sets cd_Box_sets ct_Box_sets), sl_Box_sets⟩)
  (c_Box_sets : PySem.W.codeIn K cd_Box_sets "Box.sets" = true)
  (k_Box_sets : PySem.W.keepIn K (.ref f_Box_sets) = true)
  (a_Box_sizes : PySem.W.findIn K (.ref C_Box) "sizes" = some (some (.ref p_Box_sizes)))
  (pg_Box_sizes : PySem.W.specialIn K (.ref p_Box_sizes) "__get__" = some (some (.builtin "property.__get__")))
  (pt_Box_sizes : PySem.W.takesIn K (.ref p_Box_sizes) = some true)
  (pr_Box_sizes : PySem.W.recIn K p_Box_sizes "property" = some (.ref f_Box_sizes :: rs_Box_sizes))
  (l_Box_sizes : K.lookup f_Box_sizes = some ⟨oc_Box_sizes, od_Box_sizes, .func (PySem.W.fnOf "sizes" "Box.sizes" (defArgs s_Box_sizes) (defBody s_Box_sizes) (defScope s_Box_sizes) .none kV_Box_sizes dc_Box_sizes pm_Box_sizes an_Box_sizes cd_Box_sizes ct_Box_sizes), sl_Box_sizes⟩)
  (c_Box_sizes : PySem.W.codeIn K cd_Box_sizes "Box.sizes" = true)
  (k_Box_sizes : PySem.W.keepIn K (.ref f_Box_sizes) = true)
  (a_BoxU_eqU : PySem.W.findIn K (.ref C_Box) "__eq__" = some (some (.ref f_BoxU_eqU)))
  (i_BoxU_eqU : PySem.W.typeIn K (.ref f_BoxU_eqU) = some (.type "function"))
  (ne_Box : PySem.W.findIn K (.ref C_Box) "__ne__" = some (some (.builtin "object.__ne__")))
  (l_BoxU_eqU : K.lookup f_BoxU_eqU = some ⟨oc_BoxU_eqU, od_BoxU_eqU, .func (PySem.W.fnOf "__eq__" "Box.__eq__" (defArgs s_BoxU_eqU) (defBody s_BoxU_eqU) (defScope s_BoxU_eqU) .none kV_BoxU_eqU dc_BoxU_eqU pm_BoxU_eqU an_BoxU_eqU cd_BoxU_eqU ct_BoxU_eqU), sl_BoxU_eqU⟩)
  (c_BoxU_eqU : PySem.W.codeIn K cd_BoxU_eqU "Box.__eq__" = true)
  (k_BoxU_eqU : PySem.W.keepIn K (.ref f_BoxU_eqU) = true)
  (a_BoxU_containsU : PySem.W.findIn K (.ref C_Box) "__contains__" = some (some (.ref f_BoxU_containsU)))
  (i_BoxU_containsU : PySem.W.typeIn K (.ref f_BoxU_containsU) = some (.type "function"))
  (l_BoxU_containsU : K.lookup f_BoxU_containsU = some ⟨oc_BoxU_containsU, od_BoxU_containsU, .func (PySem.W.fnOf "__contains__" "Box.__contains__" (defArgs s_BoxU_containsU) (defBody s_BoxU_containsU) (defScope s_BoxU_containsU) .none kV_BoxU_containsU dc_BoxU_containsU pm_BoxU_containsU an_BoxU_containsU cd_BoxU_containsU ct_BoxU_containsU), sl_BoxU_containsU⟩)
  (c_BoxU_containsU : PySem.W.codeIn K cd_BoxU_containsU "Box.__contains__" = true)
  (k_BoxU_containsU : PySem.W.keepIn K (.ref f_BoxU_containsU) = true)
  (a_BoxU_andU : PySem.W.findIn K (.ref C_Box) (PySem.dunder "and") = some (some (.ref f_BoxU_andU)))
  (i_BoxU_andU : PySem.W.typeIn K (.ref f_BoxU_andU) = some (.type "function"))
  (sf_BoxU_andU : PySem.W.selfFirst K C_Box = true)
  (rr_BoxU_andU : PySem.W.findIn K (.ref C_Box) (dunderR "and") = some none)
  (l_BoxU_andU : K.lookup f_BoxU_andU = some ⟨oc_BoxU_andU, od_BoxU_andU, .func (PySem.W.fnOf "__and__" "Box.__and__" (defArgs s_BoxU_andU) (defBody s_BoxU_andU) (defScope s_BoxU_andU) .none kV_BoxU_andU dc_BoxU_andU pm_BoxU_andU an_BoxU_andU cd_BoxU_andU ct_BoxU_andU), sl_BoxU_andU⟩)
  (c_BoxU_andU : PySem.W.codeIn K cd_BoxU_andU "Box.__and__" = true)
  (k_BoxU_andU : PySem.W.keepIn K (.ref f_BoxU_andU) = true)
  (a__are_sets : PySem.W.nsIn K mainGlobals "_are_sets" = some (some (.ref f__are_sets)))
  (l__are_sets : K.lookup f__are_sets = some ⟨oc__are_sets, od__are_sets, .func (PySem.W.fnOf "_are_sets" "_are_sets" (defArgs s__are_sets) (defBody s__are_sets) (defScope s__are_sets) .none kV__are_sets dc__are_sets pm__are_sets an__are_sets cd__are_sets ct__are_sets), sl__are_sets⟩)
  (c__are_sets : PySem.W.codeIn K cd__are_sets "_are_sets" = true)
  (k__are_sets : PySem.W.keepIn K (.ref f__are_sets) = true)
  (a__law_tape : PySem.W.nsIn K mainGlobals "_law_tape" = some (some (.ref f__law_tape)))
  (l__law_tape : K.lookup f__law_tape = some ⟨oc__law_tape, od__law_tape, .func (PySem.W.fnOf "_law_tape" "_law_tape" (defArgs s__law_tape) (defBody s__law_tape) (defScope s__law_tape) .none kV__law_tape dc__law_tape pm__law_tape an__law_tape cd__law_tape ct__law_tape), sl__law_tape⟩)
  (c__law_tape : PySem.W.codeIn K cd__law_tape "_law_tape" = true)
  (k__law_tape : PySem.W.keepIn K (.ref f__law_tape) = true)
  (a__law_next : PySem.W.nsIn K mainGlobals "_law_next" = some (some (.ref f__law_next)))
  (l__law_next : K.lookup f__law_next = some ⟨oc__law_next, od__law_next, .func (PySem.W.fnOf "_law_next" "_law_next" (defArgs s__law_next) (defBody s__law_next) (defScope s__law_next) .none kV__law_next dc__law_next pm__law_next an__law_next cd__law_next ct__law_next), sl__law_next⟩)
  (c__law_next : PySem.W.codeIn K cd__law_next "_law_next" = true)
  (k__law_next : PySem.W.keepIn K (.ref f__law_next) = true)
  (a__law_great : PySem.W.nsIn K mainGlobals "_law_great" = some (some (.ref f__law_great)))
  (l__law_great : K.lookup f__law_great = some ⟨oc__law_great, od__law_great, .func (PySem.W.fnOf "_law_great" "_law_great" (defArgs s__law_great) (defBody s__law_great) (defScope s__law_great) .none kV__law_great dc__law_great pm__law_great an__law_great cd__law_great ct__law_great), sl__law_great⟩)
  (c__law_great : PySem.W.codeIn K cd__law_great "_law_great" = true)
  (k__law_great : PySem.W.keepIn K (.ref f__law_great) = true)
  (a__law_kind : PySem.W.nsIn K mainGlobals "_law_kind" = some (some (.ref f__law_kind)))
  (l__law_kind : K.lookup f__law_kind = some ⟨oc__law_kind, od__law_kind, .func (PySem.W.fnOf "_law_kind" "_law_kind" (defArgs s__law_kind) (defBody s__law_kind) (defScope s__law_kind) .none kV__law_kind dc__law_kind pm__law_kind an__law_kind cd__law_kind ct__law_kind), sl__law_kind⟩)
  (c__law_kind : PySem.W.codeIn K cd__law_kind "_law_kind" = true)
  (k__law_kind : PySem.W.keepIn K (.ref f__law_kind) = true)
  (a__law_size : PySem.W.nsIn K mainGlobals "_law_size" = some (some (.ref f__law_size)))
  (l__law_size : K.lookup f__law_size = some ⟨oc__law_size, od__law_size, .func (PySem.W.fnOf "_law_size" "_law_size" (defArgs s__law_size) (defBody s__law_size) (defScope s__law_size) .none kV__law_size dc__law_size pm__law_size an__law_size cd__law_size ct__law_size), sl__law_size⟩)
  (c__law_size : PySem.W.codeIn K cd__law_size "_law_size" = true)
  (k__law_size : PySem.W.keepIn K (.ref f__law_size) = true)
  (a__law_filled : PySem.W.nsIn K mainGlobals "_law_filled" = some (some (.ref f__law_filled)))
  (l__law_filled : K.lookup f__law_filled = some ⟨oc__law_filled, od__law_filled, .func (PySem.W.fnOf "_law_filled" "_law_filled" (defArgs s__law_filled) (defBody s__law_filled) (defScope s__law_filled) .none kV__law_filled dc__law_filled pm__law_filled an__law_filled cd__law_filled ct__law_filled), sl__law_filled⟩)
  (c__law_filled : PySem.W.codeIn K cd__law_filled "_law_filled" = true)
  (k__law_filled : PySem.W.keepIn K (.ref f__law_filled) = true)
  (a__law_told : PySem.W.nsIn K mainGlobals "_law_told" = some (some (.ref f__law_told)))
  (l__law_told : K.lookup f__law_told = some ⟨oc__law_told, od__law_told, .func (PySem.W.fnOf "_law_told" "_law_told" (defArgs s__law_told) (defBody s__law_told) (defScope s__law_told) .none kV__law_told dc__law_told pm__law_told an__law_told cd__law_told ct__law_told), sl__law_told⟩)
  (c__law_told : PySem.W.codeIn K cd__law_told "_law_told" = true)
  (k__law_told : PySem.W.keepIn K (.ref f__law_told) = true)
  (a__law_common : PySem.W.nsIn K mainGlobals "_law_common" = some (some (.ref f__law_common)))
  (l__law_common : K.lookup f__law_common = some ⟨oc__law_common, od__law_common, .func (PySem.W.fnOf "_law_common" "_law_common" (defArgs s__law_common) (defBody s__law_common) (defScope s__law_common) .none kV__law_common dc__law_common pm__law_common an__law_common cd__law_common ct__law_common), sl__law_common⟩)
  (c__law_common : PySem.W.codeIn K cd__law_common "_law_common" = true)
  (k__law_common : PySem.W.keepIn K (.ref f__law_common) = true)
  (a__law_right : PySem.W.nsIn K mainGlobals "_law_right" = some (some (.ref f__law_right)))
  (l__law_right : K.lookup f__law_right = some ⟨oc__law_right, od__law_right, .func (PySem.W.fnOf "_law_right" "_law_right" (defArgs s__law_right) (defBody s__law_right) (defScope s__law_right) .none kV__law_right dc__law_right pm__law_right an__law_right cd__law_right ct__law_right), sl__law_right⟩)
  (c__law_right : PySem.W.codeIn K cd__law_right "_law_right" = true)
  (k__law_right : PySem.W.keepIn K (.ref f__law_right) = true)
  (a_law : PySem.W.nsIn K mainGlobals "law" = some (some (.ref f_law)))
  (l_law : K.lookup f_law = some ⟨oc_law, od_law, .func (PySem.W.fnOf "law" "law" (defArgs s_law) (defBody s_law) (defScope s_law) .none kV_law dc_law pm_law an_law cd_law ct_law), sl_law⟩)
  (c_law : PySem.W.codeIn K cd_law "law" = true)
  (k_law : PySem.W.keepIn K (.ref f_law) = true)
  (pg_ValueSet : PySem.W.plainGet K C_ValueSet Str.empty = true)
  (hd_ValueSet : PySem.W.hasDictIn K C_ValueSet = true)
  (po_ValueSet : PySem.W.plainOver K C_ValueSet = true)
  (sa_ValueSet : PySem.W.findIn K (.ref C_ValueSet) "__setattr__" = some (some (.builtin "object.__setattr__")))
  (ha_ValueSet : PySem.W.findIn K (.ref C_ValueSet) "__class__" = some (some (.builtin "object.__class__")))
  (hn_ValueSet : PySem.W.specialIn K (.builtin "object.__class__") "__get__" = some (some (.builtin "getset_descriptor.__get__")))
  (ht_ValueSet : PySem.W.takesIn K (.builtin "object.__class__") = some true)
  (hm_ValueSet : PySem.W.mroIn K C_ValueSet (.type "object") = some true)
  (na_ValueSet__size : PySem.W.findIn K (.ref C_ValueSet) "_size" = some none)
  (na_ValueSet__stretches : PySem.W.findIn K (.ref C_ValueSet) "_stretches" = some none)
  (ki_ValueSet_int : PySem.W.subIn K (.ref C_ValueSet) (.type "int") = some false)
  (ki_ValueSet_bool : PySem.W.subIn K (.ref C_ValueSet) (.type "bool") = some false)
  (ki_ValueSet_list : PySem.W.subIn K (.ref C_ValueSet) (.type "list") = some false)
  (ki_ValueSet_tuple : PySem.W.subIn K (.ref C_ValueSet) (.type "tuple") = some false)
  (ty_ValueSet : PySem.W.typeIn K (.ref C_ValueSet) = some (.type "type"))
  (sf_ValueSet : PySem.W.subIn K (.ref C_ValueSet) (.ref C_ValueSet) = some true)
  (sp_ValueSet_Box : PySem.W.subIn K (.ref C_ValueSet) (.ref C_Box) = some false)
  (pg_Box : PySem.W.plainGet K C_Box Str.empty = true)
  (hd_Box : PySem.W.hasDictIn K C_Box = true)
  (po_Box : PySem.W.plainOver K C_Box = true)
  (sa_Box : PySem.W.findIn K (.ref C_Box) "__setattr__" = some (some (.builtin "object.__setattr__")))
  (ha_Box : PySem.W.findIn K (.ref C_Box) "__class__" = some (some (.builtin "object.__class__")))
  (hn_Box : PySem.W.specialIn K (.builtin "object.__class__") "__get__" = some (some (.builtin "getset_descriptor.__get__")))
  (ht_Box : PySem.W.takesIn K (.builtin "object.__class__") = some true)
  (hm_Box : PySem.W.mroIn K C_Box (.type "object") = some true)
  (na_Box__sets : PySem.W.findIn K (.ref C_Box) "_sets" = some none)
  (ki_Box_int : PySem.W.subIn K (.ref C_Box) (.type "int") = some false)
  (ki_Box_bool : PySem.W.subIn K (.ref C_Box) (.type "bool") = some false)
  (ki_Box_list : PySem.W.subIn K (.ref C_Box) (.type "list") = some false)
  (ki_Box_tuple : PySem.W.subIn K (.ref C_Box) (.type "tuple") = some false)
  (ty_Box : PySem.W.typeIn K (.ref C_Box) = some (.type "type"))
  (sf_Box : PySem.W.subIn K (.ref C_Box) (.ref C_Box) = some true)
  (sp_Box_ValueSet : PySem.W.subIn K (.ref C_Box) (.ref C_ValueSet) = some false)
  (k_InvalidSet : PySem.W.keepIn K (.ref C_InvalidSet) = true)
  (x_InvalidSet : PySem.W.excIn K C_InvalidSet [.type "ValueError", .type "Exception", .type "BaseException", .type "object"] "ValueError.__new__" = true)
  (xb_InvalidSet : PySem.W.subIn K (.ref C_InvalidSet) (.type "BaseException") = some true)
  (xt_InvalidSet : PySem.W.typeIn K (.ref C_InvalidSet) = some (.type "type"))
  (xs_InvalidSet : PySem.W.subIn K (.ref C_InvalidSet) (.ref C_InvalidSet) = some true)
  (xd_InvalidSet : PySem.W.hasDictIn K C_InvalidSet = true)
  (k_OtherSizes : PySem.W.keepIn K (.ref C_OtherSizes) = true)
  (x_OtherSizes : PySem.W.excIn K C_OtherSizes [.type "ValueError", .type "Exception", .type "BaseException", .type "object"] "ValueError.__new__" = true)
  (xb_OtherSizes : PySem.W.subIn K (.ref C_OtherSizes) (.type "BaseException") = some true)
  (xt_OtherSizes : PySem.W.typeIn K (.ref C_OtherSizes) = some (.type "type"))
  (xs_OtherSizes : PySem.W.subIn K (.ref C_OtherSizes) (.ref C_OtherSizes) = some true)
  (xd_OtherSizes : PySem.W.hasDictIn K C_OtherSizes = true)
  (k_TooMany : PySem.W.keepIn K (.ref C_TooMany) = true)
  (x_TooMany : PySem.W.excIn K C_TooMany [.type "ValueError", .type "Exception", .type "BaseException", .type "object"] "ValueError.__new__" = true)
  (xb_TooMany : PySem.W.subIn K (.ref C_TooMany) (.type "BaseException") = some true)
  (xt_TooMany : PySem.W.typeIn K (.ref C_TooMany) = some (.type "type"))
  (xs_TooMany : PySem.W.subIn K (.ref C_TooMany) (.ref C_TooMany) = some true)
  (xd_TooMany : PySem.W.hasDictIn K C_TooMany = true)
  (k_InvalidBox : PySem.W.keepIn K (.ref C_InvalidBox) = true)
  (x_InvalidBox : PySem.W.excIn K C_InvalidBox [.type "ValueError", .type "Exception", .type "BaseException", .type "object"] "ValueError.__new__" = true)
  (xb_InvalidBox : PySem.W.subIn K (.ref C_InvalidBox) (.type "BaseException") = some true)
  (xt_InvalidBox : PySem.W.typeIn K (.ref C_InvalidBox) = some (.type "type"))
  (xs_InvalidBox : PySem.W.subIn K (.ref C_InvalidBox) (.ref C_InvalidBox) = some true)
  (xd_InvalidBox : PySem.W.hasDictIn K C_InvalidBox = true)
  (k_ScanError : PySem.W.keepIn K (.ref C_ScanError) = true)
  (x_ScanError : PySem.W.excIn K C_ScanError [.type "ValueError", .type "Exception", .type "BaseException", .type "object"] "ValueError.__new__" = true)
  (xb_ScanError : PySem.W.subIn K (.ref C_ScanError) (.type "BaseException") = some true)
  (xt_ScanError : PySem.W.typeIn K (.ref C_ScanError) = some (.type "type"))
  (xs_ScanError : PySem.W.subIn K (.ref C_ScanError) (.ref C_ScanError) = some true)
  (xd_ScanError : PySem.W.hasDictIn K C_ScanError = true)
  (ba_ValueSet_and_Box : PySem.W.findIn K (.ref C_Box) (PySem.dunder "and") = some (some (.ref ga_ValueSet_and_Box)))
  (br_ValueSet_and_Box : PySem.W.findIn K (.ref C_Box) (dunderR "and") = some none)
  (bf_ValueSet_and_Box : PySem.W.selfFirst K C_Box = true)
  (ba_Box_and_ValueSet : PySem.W.findIn K (.ref C_ValueSet) (PySem.dunder "and") = some (some (.ref ga_Box_and_ValueSet)))
  (br_Box_and_ValueSet : PySem.W.findIn K (.ref C_ValueSet) (dunderR "and") = some none)
  (bf_Box_and_ValueSet : PySem.W.selfFirst K C_ValueSet = true)
  (hn_exc : PySem.W.specialIn K (.builtin "object.__class__") "__get__" = some (some (.builtin "getset_descriptor.__get__")))
  (ht_exc : PySem.W.takesIn K (.builtin "object.__class__") = some true)
  (xd_InvalidCondition : PySem.W.hasDictIn K C_InvalidCondition = true)
  (xt_InvalidCondition : PySem.W.typeIn K (.ref C_InvalidCondition) = some (.type "type"))
  (xd_InvalidTable : PySem.W.hasDictIn K C_InvalidTable = true)
  (xt_InvalidTable : PySem.W.typeIn K (.ref C_InvalidTable) = some (.type "type"))
  (xd_InvalidWish : PySem.W.hasDictIn K C_InvalidWish = true)
  (xt_InvalidWish : PySem.W.typeIn K (.ref C_InvalidWish) = some (.type "type"))
  (xd_InvalidBoxes : PySem.W.hasDictIn K C_InvalidBoxes = true)
  (xt_InvalidBoxes : PySem.W.typeIn K (.ref C_InvalidBoxes) = some (.type "type"))
  (xd_InvalidText : PySem.W.hasDictIn K C_InvalidText = true)
  (xt_InvalidText : PySem.W.typeIn K (.ref C_InvalidText) = some (.type "type"))
  (xd_AlreadyThere : PySem.W.hasDictIn K C_AlreadyThere = true)
  (xt_AlreadyThere : PySem.W.typeIn K (.ref C_AlreadyThere) = some (.type "type"))
  (xd_InvalidSizes : PySem.W.hasDictIn K C_InvalidSizes = true)
  (xt_InvalidSizes : PySem.W.typeIn K (.ref C_InvalidSizes) = some (.type "type"))
  (xd_NotThere : PySem.W.hasDictIn K C_NotThere = true)
  (xt_NotThere : PySem.W.typeIn K (.ref C_NotThere) = some (.type "type"))
  (xd_NothingToUndo : PySem.W.hasDictIn K C_NothingToUndo = true)
  (xt_NothingToUndo : PySem.W.typeIn K (.ref C_NothingToUndo) = some (.type "type"))
  (xd_InvalidOrder : PySem.W.hasDictIn K C_InvalidOrder = true)
  (xt_InvalidOrder : PySem.W.typeIn K (.ref C_InvalidOrder) = some (.type "type"))
  (xd_InvalidKey : PySem.W.hasDictIn K C_InvalidKey = true)
  (xt_InvalidKey : PySem.W.typeIn K (.ref C_InvalidKey) = some (.type "type"))
  (xd_InvalidNumber : PySem.W.hasDictIn K C_InvalidNumber = true)
  (xt_InvalidNumber : PySem.W.typeIn K (.ref C_InvalidNumber) = some (.type "type"))
  (xd_EmptyBox : PySem.W.hasDictIn K C_EmptyBox = true)
  (xt_EmptyBox : PySem.W.typeIn K (.ref C_EmptyBox) = some (.type "type"))
  (eg_InvalidBox : PySem.W.findIn K (.ref C_InvalidBox) "__getattribute__" = some (some (.builtin "BaseException.__getattribute__")))
  (ek_InvalidBox : PySem.W.findIn K (.ref C_InvalidBox) "__getattr__" = some none)
  (ea_InvalidBox : PySem.W.findIn K (.ref C_InvalidBox) "__class__" = some (some (.builtin "object.__class__")))
  (em_InvalidBox : PySem.W.mroIn K C_InvalidBox (.type "object") = some true)
  (ev_InvalidBox : PySem.W.subIn K (.ref C_InvalidBox) (.type "ValueError") = some true)
  (ess_InvalidBox : PySem.W.subIn K (.ref C_InvalidBox) (.ref C_ScanError) = some true)
  (eg_OtherSizes : PySem.W.findIn K (.ref C_OtherSizes) "__getattribute__" = some (some (.builtin "BaseException.__getattribute__")))
  (ek_OtherSizes : PySem.W.findIn K (.ref C_OtherSizes) "__getattr__" = some none)
  (ea_OtherSizes : PySem.W.findIn K (.ref C_OtherSizes) "__class__" = some (some (.builtin "object.__class__")))
  (em_OtherSizes : PySem.W.mroIn K C_OtherSizes (.type "object") = some true)
  (ev_OtherSizes : PySem.W.subIn K (.ref C_OtherSizes) (.type "ValueError") = some true)
  (ess_OtherSizes : PySem.W.subIn K (.ref C_OtherSizes) (.ref C_ScanError) = some true)
  (eg_TooMany : PySem.W.findIn K (.ref C_TooMany) "__getattribute__" = some (some (.builtin "BaseException.__getattribute__")))
  (ek_TooMany : PySem.W.findIn K (.ref C_TooMany) "__getattr__" = some none)
  (ea_TooMany : PySem.W.findIn K (.ref C_TooMany) "__class__" = some (some (.builtin "object.__class__")))
  (em_TooMany : PySem.W.mroIn K C_TooMany (.type "object") = some true)
  (ev_TooMany : PySem.W.subIn K (.ref C_TooMany) (.type "ValueError") = some true)
  (ess_TooMany : PySem.W.subIn K (.ref C_TooMany) (.ref C_ScanError) = some true)
  (sx_InvalidBox_InvalidCondition : PySem.W.subIn K (.ref C_InvalidBox) (.ref C_InvalidCondition) = some false)
  (sx_InvalidBox_InvalidTable : PySem.W.subIn K (.ref C_InvalidBox) (.ref C_InvalidTable) = some false)
  (sx_InvalidBox_InvalidWish : PySem.W.subIn K (.ref C_InvalidBox) (.ref C_InvalidWish) = some false)
  (sx_InvalidBox_InvalidBoxes : PySem.W.subIn K (.ref C_InvalidBox) (.ref C_InvalidBoxes) = some false)
  (sx_InvalidBox_InvalidText : PySem.W.subIn K (.ref C_InvalidBox) (.ref C_InvalidText) = some false)
  (sx_InvalidBox_AlreadyThere : PySem.W.subIn K (.ref C_InvalidBox) (.ref C_AlreadyThere) = some false)
  (sx_InvalidBox_InvalidSizes : PySem.W.subIn K (.ref C_InvalidBox) (.ref C_InvalidSizes) = some false)
  (sx_InvalidBox_InvalidSet : PySem.W.subIn K (.ref C_InvalidBox) (.ref C_InvalidSet) = some false)
  (sx_InvalidBox_NotThere : PySem.W.subIn K (.ref C_InvalidBox) (.ref C_NotThere) = some false)
  (sx_InvalidBox_NothingToUndo : PySem.W.subIn K (.ref C_InvalidBox) (.ref C_NothingToUndo) = some false)
  (sx_InvalidBox_InvalidOrder : PySem.W.subIn K (.ref C_InvalidBox) (.ref C_InvalidOrder) = some false)
  (sx_InvalidBox_InvalidKey : PySem.W.subIn K (.ref C_InvalidBox) (.ref C_InvalidKey) = some false)
  (sx_InvalidBox_InvalidNumber : PySem.W.subIn K (.ref C_InvalidBox) (.ref C_InvalidNumber) = some false)
  (sx_InvalidBox_OtherSizes : PySem.W.subIn K (.ref C_InvalidBox) (.ref C_OtherSizes) = some false)
  (sx_InvalidBox_EmptyBox : PySem.W.subIn K (.ref C_InvalidBox) (.ref C_EmptyBox) = some false)
  (sx_InvalidBox_TooMany : PySem.W.subIn K (.ref C_InvalidBox) (.ref C_TooMany) = some false)
  (sx_OtherSizes_InvalidCondition : PySem.W.subIn K (.ref C_OtherSizes) (.ref C_InvalidCondition) = some false)
  (sx_OtherSizes_InvalidTable : PySem.W.subIn K (.ref C_OtherSizes) (.ref C_InvalidTable) = some false)
  (sx_OtherSizes_InvalidWish : PySem.W.subIn K (.ref C_OtherSizes) (.ref C_InvalidWish) = some false)
  (sx_OtherSizes_InvalidBoxes : PySem.W.subIn K (.ref C_OtherSizes) (.ref C_InvalidBoxes) = some false)
  (sx_OtherSizes_InvalidText : PySem.W.subIn K (.ref C_OtherSizes) (.ref C_InvalidText) = some false)
  (sx_OtherSizes_AlreadyThere : PySem.W.subIn K (.ref C_OtherSizes) (.ref C_AlreadyThere) = some false)
  (sx_OtherSizes_InvalidSizes : PySem.W.subIn K (.ref C_OtherSizes) (.ref C_InvalidSizes) = some false)
  (sx_OtherSizes_InvalidSet : PySem.W.subIn K (.ref C_OtherSizes) (.ref C_InvalidSet) = some false)
  (sx_OtherSizes_InvalidBox : PySem.W.subIn K (.ref C_OtherSizes) (.ref C_InvalidBox) = some false)
  (sx_OtherSizes_NotThere : PySem.W.subIn K (.ref C_OtherSizes) (.ref C_NotThere) = some false)
  (sx_OtherSizes_NothingToUndo : PySem.W.subIn K (.ref C_OtherSizes) (.ref C_NothingToUndo) = some false)
  (sx_OtherSizes_InvalidOrder : PySem.W.subIn K (.ref C_OtherSizes) (.ref C_InvalidOrder) = some false)
  (sx_OtherSizes_InvalidKey : PySem.W.subIn K (.ref C_OtherSizes) (.ref C_InvalidKey) = some false)
  (sx_OtherSizes_InvalidNumber : PySem.W.subIn K (.ref C_OtherSizes) (.ref C_InvalidNumber) = some false)
  (sx_OtherSizes_EmptyBox : PySem.W.subIn K (.ref C_OtherSizes) (.ref C_EmptyBox) = some false)
  (sx_OtherSizes_TooMany : PySem.W.subIn K (.ref C_OtherSizes) (.ref C_TooMany) = some false)
  (sx_TooMany_InvalidCondition : PySem.W.subIn K (.ref C_TooMany) (.ref C_InvalidCondition) = some false)
  (sx_TooMany_InvalidTable : PySem.W.subIn K (.ref C_TooMany) (.ref C_InvalidTable) = some false)
  (sx_TooMany_InvalidWish : PySem.W.subIn K (.ref C_TooMany) (.ref C_InvalidWish) = some false)
  (sx_TooMany_InvalidBoxes : PySem.W.subIn K (.ref C_TooMany) (.ref C_InvalidBoxes) = some false)
  (sx_TooMany_InvalidText : PySem.W.subIn K (.ref C_TooMany) (.ref C_InvalidText) = some false)
  (sx_TooMany_AlreadyThere : PySem.W.subIn K (.ref C_TooMany) (.ref C_AlreadyThere) = some false)
  (sx_TooMany_InvalidSizes : PySem.W.subIn K (.ref C_TooMany) (.ref C_InvalidSizes) = some false)
  (sx_TooMany_InvalidSet : PySem.W.subIn K (.ref C_TooMany) (.ref C_InvalidSet) = some false)
  (sx_TooMany_InvalidBox : PySem.W.subIn K (.ref C_TooMany) (.ref C_InvalidBox) = some false)
  (sx_TooMany_NotThere : PySem.W.subIn K (.ref C_TooMany) (.ref C_NotThere) = some false)
  (sx_TooMany_NothingToUndo : PySem.W.subIn K (.ref C_TooMany) (.ref C_NothingToUndo) = some false)
  (sx_TooMany_InvalidOrder : PySem.W.subIn K (.ref C_TooMany) (.ref C_InvalidOrder) = some false)
  (sx_TooMany_InvalidKey : PySem.W.subIn K (.ref C_TooMany) (.ref C_InvalidKey) = some false)
  (sx_TooMany_InvalidNumber : PySem.W.subIn K (.ref C_TooMany) (.ref C_InvalidNumber) = some false)
  (sx_TooMany_OtherSizes : PySem.W.subIn K (.ref C_TooMany) (.ref C_OtherSizes) = some false)
  (sx_TooMany_EmptyBox : PySem.W.subIn K (.ref C_TooMany) (.ref C_EmptyBox) = some false) :
  ∃ a : Ad, Tx K mg a ∧ a.f_law = fa ∧ ∀ (s : Shared) (v : Value), BindsTo s a.d_law ⟨[v], []⟩ [("script", v)] := by
  have e : fa = f_law := by have q := hfa.symm.trans (PySem.W.mg_of X G a_law); cases q; rfl
  exact ⟨{ C_ValueSet := C_ValueSet, C_Box := C_Box, C_InvalidSet := C_InvalidSet, C_OtherSizes := C_OtherSizes, C_TooMany := C_TooMany, C_InvalidBox := C_InvalidBox, C_ScanError := C_ScanError, C_InvalidCondition := C_InvalidCondition, C_InvalidTable := C_InvalidTable, C_InvalidWish := C_InvalidWish, C_InvalidBoxes := C_InvalidBoxes, C_InvalidText := C_InvalidText, C_AlreadyThere := C_AlreadyThere, C_InvalidSizes := C_InvalidSizes, C_NotThere := C_NotThere, C_NothingToUndo := C_NothingToUndo, C_InvalidOrder := C_InvalidOrder, C_InvalidKey := C_InvalidKey, C_InvalidNumber := C_InvalidNumber, C_EmptyBox := C_EmptyBox, f_is_integer := f_is_integer, d_is_integer := PySem.W.fnOf "is_integer" "is_integer" (defArgs s_is_integer) (defBody s_is_integer) (defScope s_is_integer) .none kV_is_integer dc_is_integer pm_is_integer an_is_integer cd_is_integer ct_is_integer, f_is_size := f_is_size, d_is_size := PySem.W.fnOf "is_size" "is_size" (defArgs s_is_size) (defBody s_is_size) (defScope s_is_size) .none kV_is_size dc_is_size pm_is_size an_is_size cd_is_size ct_is_size, f_are_stretches := f_are_stretches, d_are_stretches := PySem.W.fnOf "are_stretches" "are_stretches" (defArgs s_are_stretches) (defBody s_are_stretches) (defScope s_are_stretches) .none kV_are_stretches dc_are_stretches pm_are_stretches an_are_stretches cd_are_stretches ct_are_stretches, f__is_stretch := f__is_stretch, d__is_stretch := PySem.W.fnOf "_is_stretch" "_is_stretch" (defArgs s__is_stretch) (defBody s__is_stretch) (defScope s__is_stretch) .none kV__is_stretch dc__is_stretch pm__is_stretch an__is_stretch cd__is_stretch ct__is_stretch, f_ValueSetU_initU := f_ValueSetU_initU, d_ValueSetU_initU := PySem.W.fnOf "__init__" "ValueSet.__init__" (defArgs s_ValueSetU_initU) (defBody s_ValueSetU_initU) (defScope s_ValueSetU_initU) .none kV_ValueSetU_initU dc_ValueSetU_initU pm_ValueSetU_initU an_ValueSetU_initU cd_ValueSetU_initU ct_ValueSetU_initU, p_ValueSet_size := p_ValueSet_size, f_ValueSet_size := f_ValueSet_size, d_ValueSet_size := PySem.W.fnOf "size" "ValueSet.size" (defArgs s_ValueSet_size) (defBody s_ValueSet_size) (defScope s_ValueSet_size) .none kV_ValueSet_size dc_ValueSet_size pm_ValueSet_size an_ValueSet_size cd_ValueSet_size ct_ValueSet_size, p_ValueSet_stretches := p_ValueSet_stretches, f_ValueSet_stretches := f_ValueSet_stretches, d_ValueSet_stretches := PySem.W.fnOf "stretches" "ValueSet.stretches" (defArgs s_ValueSet_stretches) (defBody s_ValueSet_stretches) (defScope s_ValueSet_stretches) .none kV_ValueSet_stretches dc_ValueSet_stretches pm_ValueSet_stretches an_ValueSet_stretches cd_ValueSet_stretches ct_ValueSet_stretches, f_ValueSetU_eqU := f_ValueSetU_eqU, d_ValueSetU_eqU := PySem.W.fnOf "__eq__" "ValueSet.__eq__" (defArgs s_ValueSetU_eqU) (defBody s_ValueSetU_eqU) (defScope s_ValueSetU_eqU) .none kV_ValueSetU_eqU dc_ValueSetU_eqU pm_ValueSetU_eqU an_ValueSetU_eqU cd_ValueSetU_eqU ct_ValueSetU_eqU, f_ValueSetU_containsU := f_ValueSetU_containsU, d_ValueSetU_containsU := PySem.W.fnOf "__contains__" "ValueSet.__contains__" (defArgs s_ValueSetU_containsU) (defBody s_ValueSetU_containsU) (defScope s_ValueSetU_containsU) .none kV_ValueSetU_containsU dc_ValueSetU_containsU pm_ValueSetU_containsU an_ValueSetU_containsU cd_ValueSetU_containsU ct_ValueSetU_containsU, f_ValueSetU_andU := f_ValueSetU_andU, d_ValueSetU_andU := PySem.W.fnOf "__and__" "ValueSet.__and__" (defArgs s_ValueSetU_andU) (defBody s_ValueSetU_andU) (defScope s_ValueSetU_andU) .none kV_ValueSetU_andU dc_ValueSetU_andU pm_ValueSetU_andU an_ValueSetU_andU cd_ValueSetU_andU ct_ValueSetU_andU, f_ValueSetUcheck := f_ValueSetUcheck, d_ValueSetUcheck := PySem.W.fnOf "_check" "ValueSet._check" (defArgs s_ValueSetUcheck) (defBody s_ValueSetUcheck) (defScope s_ValueSetUcheck) .none kV_ValueSetUcheck dc_ValueSetUcheck pm_ValueSetUcheck an_ValueSetUcheck cd_ValueSetUcheck ct_ValueSetUcheck, f__limited := f__limited, d__limited := PySem.W.fnOf "_limited" "_limited" (defArgs s__limited) (defBody s__limited) (defScope s__limited) .none kV__limited dc__limited pm__limited an__limited cd__limited ct__limited, f__common := f__common, d__common := PySem.W.fnOf "_common" "_common" (defArgs s__common) (defBody s__common) (defScope s__common) .none kV__common dc__common pm__common an__common cd__common ct__common, f_BoxU_initU := f_BoxU_initU, d_BoxU_initU := PySem.W.fnOf "__init__" "Box.__init__" (defArgs s_BoxU_initU) (defBody s_BoxU_initU) (defScope s_BoxU_initU) .none kV_BoxU_initU dc_BoxU_initU pm_BoxU_initU an_BoxU_initU cd_BoxU_initU ct_BoxU_initU, p_Box_sets := p_Box_sets, f_Box_sets := f_Box_sets, d_Box_sets := PySem.W.fnOf "sets" "Box.sets" (defArgs s_Box_sets) (defBody s_Box_sets) (defScope s_Box_sets) .none kV_Box_sets dc_Box_sets pm_Box_sets an_Box_sets cd_Box_sets ct_Box_sets, p_Box_sizes := p_Box_sizes, f_Box_sizes := f_Box_sizes, d_Box_sizes := PySem.W.fnOf "sizes" "Box.sizes" (defArgs s_Box_sizes) (defBody s_Box_sizes) (defScope s_Box_sizes) .none kV_Box_sizes dc_Box_sizes pm_Box_sizes an_Box_sizes cd_Box_sizes ct_Box_sizes, f_BoxU_eqU := f_BoxU_eqU, d_BoxU_eqU := PySem.W.fnOf "__eq__" "Box.__eq__" (defArgs s_BoxU_eqU) (defBody s_BoxU_eqU) (defScope s_BoxU_eqU) .none kV_BoxU_eqU dc_BoxU_eqU pm_BoxU_eqU an_BoxU_eqU cd_BoxU_eqU ct_BoxU_eqU, f_BoxU_containsU := f_BoxU_containsU, d_BoxU_containsU := PySem.W.fnOf "__contains__" "Box.__contains__" (defArgs s_BoxU_containsU) (defBody s_BoxU_containsU) (defScope s_BoxU_containsU) .none kV_BoxU_containsU dc_BoxU_containsU pm_BoxU_containsU an_BoxU_containsU cd_BoxU_containsU ct_BoxU_containsU, f_BoxU_andU := f_BoxU_andU, d_BoxU_andU := PySem.W.fnOf "__and__" "Box.__and__" (defArgs s_BoxU_andU) (defBody s_BoxU_andU) (defScope s_BoxU_andU) .none kV_BoxU_andU dc_BoxU_andU pm_BoxU_andU an_BoxU_andU cd_BoxU_andU ct_BoxU_andU, f__are_sets := f__are_sets, d__are_sets := PySem.W.fnOf "_are_sets" "_are_sets" (defArgs s__are_sets) (defBody s__are_sets) (defScope s__are_sets) .none kV__are_sets dc__are_sets pm__are_sets an__are_sets cd__are_sets ct__are_sets, f__law_tape := f__law_tape, d__law_tape := PySem.W.fnOf "_law_tape" "_law_tape" (defArgs s__law_tape) (defBody s__law_tape) (defScope s__law_tape) .none kV__law_tape dc__law_tape pm__law_tape an__law_tape cd__law_tape ct__law_tape, f__law_next := f__law_next, d__law_next := PySem.W.fnOf "_law_next" "_law_next" (defArgs s__law_next) (defBody s__law_next) (defScope s__law_next) .none kV__law_next dc__law_next pm__law_next an__law_next cd__law_next ct__law_next, f__law_great := f__law_great, d__law_great := PySem.W.fnOf "_law_great" "_law_great" (defArgs s__law_great) (defBody s__law_great) (defScope s__law_great) .none kV__law_great dc__law_great pm__law_great an__law_great cd__law_great ct__law_great, f__law_kind := f__law_kind, d__law_kind := PySem.W.fnOf "_law_kind" "_law_kind" (defArgs s__law_kind) (defBody s__law_kind) (defScope s__law_kind) .none kV__law_kind dc__law_kind pm__law_kind an__law_kind cd__law_kind ct__law_kind, f__law_size := f__law_size, d__law_size := PySem.W.fnOf "_law_size" "_law_size" (defArgs s__law_size) (defBody s__law_size) (defScope s__law_size) .none kV__law_size dc__law_size pm__law_size an__law_size cd__law_size ct__law_size, f__law_filled := f__law_filled, d__law_filled := PySem.W.fnOf "_law_filled" "_law_filled" (defArgs s__law_filled) (defBody s__law_filled) (defScope s__law_filled) .none kV__law_filled dc__law_filled pm__law_filled an__law_filled cd__law_filled ct__law_filled, f__law_told := f__law_told, d__law_told := PySem.W.fnOf "_law_told" "_law_told" (defArgs s__law_told) (defBody s__law_told) (defScope s__law_told) .none kV__law_told dc__law_told pm__law_told an__law_told cd__law_told ct__law_told, f__law_common := f__law_common, d__law_common := PySem.W.fnOf "_law_common" "_law_common" (defArgs s__law_common) (defBody s__law_common) (defScope s__law_common) .none kV__law_common dc__law_common pm__law_common an__law_common cd__law_common ct__law_common, f__law_right := f__law_right, d__law_right := PySem.W.fnOf "_law_right" "_law_right" (defArgs s__law_right) (defBody s__law_right) (defScope s__law_right) .none kV__law_right dc__law_right pm__law_right an__law_right cd__law_right ct__law_right, f_law := f_law, d_law := PySem.W.fnOf "law" "law" (defArgs s_law) (defBody s_law) (defScope s_law) .none kV_law dc_law pm_law an_law cd_law ct_law }, { n_ValueError := PySem.W.mg_none_of X G n_ValueError, n_abs := PySem.W.mg_none_of X G n_abs, n_all := PySem.W.mg_none_of X G n_all, n_any := PySem.W.mg_none_of X G n_any, n_bool := PySem.W.mg_none_of X G n_bool, n_int := PySem.W.mg_none_of X G n_int, n_isinstance := PySem.W.mg_none_of X G n_isinstance, n_len := PySem.W.mg_none_of X G n_len, n_list := PySem.W.mg_none_of X G n_list, n_max := PySem.W.mg_none_of X G n_max, n_min := PySem.W.mg_none_of X G n_min, n_range := PySem.W.mg_none_of X G n_range, n_set := PySem.W.mg_none_of X G n_set, n_sorted := PySem.W.mg_none_of X G n_sorted, n_tuple := PySem.W.mg_none_of X G n_tuple, n_zip := PySem.W.mg_none_of X G n_zip, c_GREATEST_SIZE := ⟨t_GREATEST_SIZE, PySem.W.mg_of X G c_GREATEST_SIZE⟩, c_MOST_COLUMNS := ⟨t_MOST_COLUMNS, PySem.W.mg_of X G c_MOST_COLUMNS⟩, c_MOST_STRETCHES := ⟨t_MOST_STRETCHES, PySem.W.mg_of X G c_MOST_STRETCHES⟩, g_ValueSet := PySem.W.mg_of X G aC_ValueSet, g_Box := PySem.W.mg_of X G aC_Box, g_InvalidSet := PySem.W.mg_of X G aC_InvalidSet, g_OtherSizes := PySem.W.mg_of X G aC_OtherSizes, g_TooMany := PySem.W.mg_of X G aC_TooMany, g_InvalidBox := PySem.W.mg_of X G aC_InvalidBox, g_ScanError := PySem.W.mg_of X G aC_ScanError, g_InvalidCondition := PySem.W.mg_of X G aC_InvalidCondition, g_InvalidTable := PySem.W.mg_of X G aC_InvalidTable, g_InvalidWish := PySem.W.mg_of X G aC_InvalidWish, g_InvalidBoxes := PySem.W.mg_of X G aC_InvalidBoxes, g_InvalidText := PySem.W.mg_of X G aC_InvalidText, g_AlreadyThere := PySem.W.mg_of X G aC_AlreadyThere, g_InvalidSizes := PySem.W.mg_of X G aC_InvalidSizes, g_NotThere := PySem.W.mg_of X G aC_NotThere, g_NothingToUndo := PySem.W.mg_of X G aC_NothingToUndo, g_InvalidOrder := PySem.W.mg_of X G aC_InvalidOrder, g_InvalidKey := PySem.W.mg_of X G aC_InvalidKey, g_InvalidNumber := PySem.W.mg_of X G aC_InvalidNumber, g_EmptyBox := PySem.W.mg_of X G aC_EmptyBox, g_is_integer := PySem.W.mg_of X G a_is_integer, F_is_integer := fun_mk (st := s_is_integer) l_is_integer c_is_integer k_is_integer, b_is_integer := (fun_mk (st := s_is_integer) l_is_integer c_is_integer k_is_integer).binds fun _ _ _ _ _ _ us hl => match us, hl with | [_], _ => rfl, g_is_size := PySem.W.mg_of X G a_is_size, F_is_size := fun_mk (st := s_is_size) l_is_size c_is_size k_is_size, b_is_size := (fun_mk (st := s_is_size) l_is_size c_is_size k_is_size).binds fun _ _ _ _ _ _ us hl => match us, hl with | [_], _ => rfl, g_are_stretches := PySem.W.mg_of X G a_are_stretches, F_are_stretches := fun_mk (st := s_are_stretches) l_are_stretches c_are_stretches k_are_stretches, b_are_stretches := (fun_mk (st := s_are_stretches) l_are_stretches c_are_stretches k_are_stretches).binds fun _ _ _ _ _ _ us hl => match us, hl with | [_, _], _ => rfl, g__is_stretch := PySem.W.mg_of X G a__is_stretch, F__is_stretch := fun_mk (st := s__is_stretch) l__is_stretch c__is_stretch k__is_stretch, b__is_stretch := (fun_mk (st := s__is_stretch) l__is_stretch c__is_stretch k__is_stretch).binds fun _ _ _ _ _ _ us hl => match us, hl with | [_, _, _], _ => rfl, m_ValueSet := ⟨mk_ValueSet, a_ValueSetU_initU, i_ValueSetU_initU, kc_ValueSet⟩, F_ValueSetU_initU := fun_mk (st := s_ValueSetU_initU) l_ValueSetU_initU c_ValueSetU_initU k_ValueSetU_initU, b_ValueSetU_initU := (fun_mk (st := s_ValueSetU_initU) l_ValueSetU_initU c_ValueSetU_initU k_ValueSetU_initU).binds fun _ _ _ _ _ _ us hl => match us, hl with | [_, _, _], _ => rfl, p_ValueSet_size := ⟨a_ValueSet_size, pg_ValueSet_size, pt_ValueSet_size, rs_ValueSet_size, pr_ValueSet_size⟩, F_ValueSet_size := fun_mk (st := s_ValueSet_size) l_ValueSet_size c_ValueSet_size k_ValueSet_size, b_ValueSet_size := (fun_mk (st := s_ValueSet_size) l_ValueSet_size c_ValueSet_size k_ValueSet_size).binds fun _ _ _ _ _ _ us hl => match us, hl with | [_], _ => rfl, p_ValueSet_stretches := ⟨a_ValueSet_stretches, pg_ValueSet_stretches, pt_ValueSet_stretches, rs_ValueSet_stretches, pr_ValueSet_stretches⟩, F_ValueSet_stretches := fun_mk (st := s_ValueSet_stretches) l_ValueSet_stretches c_ValueSet_stretches k_ValueSet_stretches, b_ValueSet_stretches := (fun_mk (st := s_ValueSet_stretches) l_ValueSet_stretches c_ValueSet_stretches k_ValueSet_stretches).binds fun _ _ _ _ _ _ us hl => match us, hl with | [_], _ => rfl, o_ValueSetU_eqU := ⟨a_ValueSetU_eqU, i_ValueSetU_eqU⟩, z_ValueSet := ⟨ne_ValueSet, hm_ValueSet⟩, F_ValueSetU_eqU := fun_mk (st := s_ValueSetU_eqU) l_ValueSetU_eqU c_ValueSetU_eqU k_ValueSetU_eqU, b_ValueSetU_eqU := (fun_mk (st := s_ValueSetU_eqU) l_ValueSetU_eqU c_ValueSetU_eqU k_ValueSetU_eqU).binds fun _ _ _ _ _ _ us hl => match us, hl with | [_, _], _ => rfl, o_ValueSetU_containsU := ⟨a_ValueSetU_containsU, i_ValueSetU_containsU⟩, F_ValueSetU_containsU := fun_mk (st := s_ValueSetU_containsU) l_ValueSetU_containsU c_ValueSetU_containsU k_ValueSetU_containsU, b_ValueSetU_containsU := (fun_mk (st := s_ValueSetU_containsU) l_ValueSetU_containsU c_ValueSetU_containsU k_ValueSetU_containsU).binds fun _ _ _ _ _ _ us hl => match us, hl with | [_, _], _ => rfl, u_ValueSetU_andU := ⟨a_ValueSetU_andU, i_ValueSetU_andU, sf_ValueSetU_andU, rr_ValueSetU_andU⟩, F_ValueSetU_andU := fun_mk (st := s_ValueSetU_andU) l_ValueSetU_andU c_ValueSetU_andU k_ValueSetU_andU, b_ValueSetU_andU := (fun_mk (st := s_ValueSetU_andU) l_ValueSetU_andU c_ValueSetU_andU k_ValueSetU_andU).binds fun _ _ _ _ _ _ us hl => match us, hl with | [_, _], _ => rfl, e_ValueSetUcheck := ⟨a_ValueSetUcheck, i_ValueSetUcheck, k_ValueSetUcheck⟩, F_ValueSetUcheck := fun_mk (st := s_ValueSetUcheck) l_ValueSetUcheck c_ValueSetUcheck k_ValueSetUcheck, b_ValueSetUcheck := (fun_mk (st := s_ValueSetUcheck) l_ValueSetUcheck c_ValueSetUcheck k_ValueSetUcheck).binds fun _ _ _ _ _ _ us hl => match us, hl with | [_, _], _ => rfl, g__limited := PySem.W.mg_of X G a__limited, F__limited := fun_mk (st := s__limited) l__limited c__limited k__limited, b__limited := (fun_mk (st := s__limited) l__limited c__limited k__limited).binds fun _ _ _ _ _ _ us hl => match us, hl with | [_, _], _ => rfl, g__common := PySem.W.mg_of X G a__common, F__common := fun_mk (st := s__common) l__common c__common k__common, b__common := (fun_mk (st := s__common) l__common c__common k__common).binds fun _ _ _ _ _ _ us hl => match us, hl with | [_, _], _ => rfl, m_Box := ⟨mk_Box, a_BoxU_initU, i_BoxU_initU, kc_Box⟩, F_BoxU_initU := fun_mk (st := s_BoxU_initU) l_BoxU_initU c_BoxU_initU k_BoxU_initU, b_BoxU_initU := (fun_mk (st := s_BoxU_initU) l_BoxU_initU c_BoxU_initU k_BoxU_initU).binds fun _ _ _ _ _ _ us hl => match us, hl with | [_, _], _ => rfl, p_Box_sets := ⟨a_Box_sets, pg_Box_sets, pt_Box_sets, rs_Box_sets, pr_Box_sets⟩, F_Box_sets := fun_mk (st := s_Box_sets) l_Box_sets c_Box_sets k_Box_sets, b_Box_sets := (fun_mk (st := s_Box_sets) l_Box_sets c_Box_sets k_Box_sets).binds fun _ _ _ _ _ _ us hl => match us, hl with | [_], _ => rfl, p_Box_sizes := ⟨a_Box_sizes, pg_Box_sizes, pt_Box_sizes, rs_Box_sizes, pr_Box_sizes⟩, F_Box_sizes := fun_mk (st := s_Box_sizes) l_Box_sizes c_Box_sizes k_Box_sizes, b_Box_sizes := (fun_mk (st := s_Box_sizes) l_Box_sizes c_Box_sizes k_Box_sizes).binds fun _ _ _ _ _ _ us hl => match us, hl with | [_], _ => rfl, o_BoxU_eqU := ⟨a_BoxU_eqU, i_BoxU_eqU⟩, z_Box := ⟨ne_Box, hm_Box⟩, F_BoxU_eqU := fun_mk (st := s_BoxU_eqU) l_BoxU_eqU c_BoxU_eqU k_BoxU_eqU, b_BoxU_eqU := (fun_mk (st := s_BoxU_eqU) l_BoxU_eqU c_BoxU_eqU k_BoxU_eqU).binds fun _ _ _ _ _ _ us hl => match us, hl with | [_, _], _ => rfl, o_BoxU_containsU := ⟨a_BoxU_containsU, i_BoxU_containsU⟩, F_BoxU_containsU := fun_mk (st := s_BoxU_containsU) l_BoxU_containsU c_BoxU_containsU k_BoxU_containsU, b_BoxU_containsU := (fun_mk (st := s_BoxU_containsU) l_BoxU_containsU c_BoxU_containsU k_BoxU_containsU).binds fun _ _ _ _ _ _ us hl => match us, hl with | [_, _], _ => rfl, u_BoxU_andU := ⟨a_BoxU_andU, i_BoxU_andU, sf_BoxU_andU, rr_BoxU_andU⟩, F_BoxU_andU := fun_mk (st := s_BoxU_andU) l_BoxU_andU c_BoxU_andU k_BoxU_andU, b_BoxU_andU := (fun_mk (st := s_BoxU_andU) l_BoxU_andU c_BoxU_andU k_BoxU_andU).binds fun _ _ _ _ _ _ us hl => match us, hl with | [_, _], _ => rfl, g__are_sets := PySem.W.mg_of X G a__are_sets, F__are_sets := fun_mk (st := s__are_sets) l__are_sets c__are_sets k__are_sets, b__are_sets := (fun_mk (st := s__are_sets) l__are_sets c__are_sets k__are_sets).binds fun _ _ _ _ _ _ us hl => match us, hl with | [_], _ => rfl, g__law_tape := PySem.W.mg_of X G a__law_tape, F__law_tape := fun_mk (st := s__law_tape) l__law_tape c__law_tape k__law_tape, b__law_tape := (fun_mk (st := s__law_tape) l__law_tape c__law_tape k__law_tape).binds fun _ _ _ _ _ _ us hl => match us, hl with | [_, _], _ => rfl, g__law_next := PySem.W.mg_of X G a__law_next, F__law_next := fun_mk (st := s__law_next) l__law_next c__law_next k__law_next, b__law_next := (fun_mk (st := s__law_next) l__law_next c__law_next k__law_next).binds fun _ _ _ _ _ _ us hl => match us, hl with | [_, _], _ => rfl, g__law_great := PySem.W.mg_of X G a__law_great, F__law_great := fun_mk (st := s__law_great) l__law_great c__law_great k__law_great, b__law_great := (fun_mk (st := s__law_great) l__law_great c__law_great k__law_great).binds fun _ _ _ _ _ _ us hl => match us, hl with | [_, _], _ => rfl, g__law_kind := PySem.W.mg_of X G a__law_kind, F__law_kind := fun_mk (st := s__law_kind) l__law_kind c__law_kind k__law_kind, b__law_kind := (fun_mk (st := s__law_kind) l__law_kind c__law_kind k__law_kind).binds fun _ _ _ _ _ _ us hl => match us, hl with | [_], _ => rfl, g__law_size := PySem.W.mg_of X G a__law_size, F__law_size := fun_mk (st := s__law_size) l__law_size c__law_size k__law_size, b__law_size := (fun_mk (st := s__law_size) l__law_size c__law_size k__law_size).binds fun _ _ _ _ _ _ us hl => match us, hl with | [_], _ => rfl, g__law_filled := PySem.W.mg_of X G a__law_filled, F__law_filled := fun_mk (st := s__law_filled) l__law_filled c__law_filled k__law_filled, b__law_filled := (fun_mk (st := s__law_filled) l__law_filled c__law_filled k__law_filled).binds fun _ _ _ _ _ _ us hl => match us, hl with | [_, _], _ => rfl, g__law_told := PySem.W.mg_of X G a__law_told, F__law_told := fun_mk (st := s__law_told) l__law_told c__law_told k__law_told, b__law_told := (fun_mk (st := s__law_told) l__law_told c__law_told k__law_told).binds fun _ _ _ _ _ _ us hl => match us, hl with | [_, _], _ => rfl, g__law_common := PySem.W.mg_of X G a__law_common, F__law_common := fun_mk (st := s__law_common) l__law_common c__law_common k__law_common, b__law_common := (fun_mk (st := s__law_common) l__law_common c__law_common k__law_common).binds fun _ _ _ _ _ _ us hl => match us, hl with | [_, _], _ => rfl, g__law_right := PySem.W.mg_of X G a__law_right, F__law_right := fun_mk (st := s__law_right) l__law_right c__law_right k__law_right, b__law_right := (fun_mk (st := s__law_right) l__law_right c__law_right k__law_right).binds fun _ _ _ _ _ _ us hl => match us, hl with | [_, _], _ => rfl, g_law := PySem.W.mg_of X G a_law, F_law := fun_mk (st := s_law) l_law c_law k_law, b_law := (fun_mk (st := s_law) l_law c_law k_law).binds fun _ _ _ _ _ _ us hl => match us, hl with | [_], _ => rfl, cl_ValueSet := ⟨pg_ValueSet, hd_ValueSet, po_ValueSet, sa_ValueSet⟩, it_ValueSet := ⟨⟨pg_ValueSet, hd_ValueSet, po_ValueSet, sa_ValueSet⟩, ha_ValueSet, hn_ValueSet, ht_ValueSet, hm_ValueSet⟩, na_ValueSet__size := na_ValueSet__size, na_ValueSet__stretches := na_ValueSet__stretches, ki_ValueSet_int := kit_own ki_ValueSet_int (by decide +kernel), ki_ValueSet_bool := kit_own ki_ValueSet_bool (by decide +kernel), ki_ValueSet_list := kit_own ki_ValueSet_list (by decide +kernel), ki_ValueSet_tuple := kit_own ki_ValueSet_tuple (by decide +kernel), ty_ValueSet := ty_ValueSet, ks_ValueSet := kit_same _ _, kp_ValueSet_Box := kit_other sf_ValueSet sp_ValueSet_Box hd_Box ty_Box, nq_ValueSet_Box := ne_other sf_ValueSet sp_ValueSet_Box, cl_Box := ⟨pg_Box, hd_Box, po_Box, sa_Box⟩, it_Box := ⟨⟨pg_Box, hd_Box, po_Box, sa_Box⟩, ha_Box, hn_Box, ht_Box, hm_Box⟩, na_Box__sets := na_Box__sets, ki_Box_int := kit_own ki_Box_int (by decide +kernel), ki_Box_bool := kit_own ki_Box_bool (by decide +kernel), ki_Box_list := kit_own ki_Box_list (by decide +kernel), ki_Box_tuple := kit_own ki_Box_tuple (by decide +kernel), ty_Box := ty_Box, ks_Box := kit_same _ _, kp_Box_ValueSet := kit_other sf_Box sp_Box_ValueSet hd_ValueSet ty_ValueSet, nq_Box_ValueSet := ne_other sf_Box sp_Box_ValueSet, ex_InvalidSet := PySem.W.exm_ref xb_InvalidSet xd_InvalidSet xt_InvalidSet xs_InvalidSet, k_InvalidSet := k_InvalidSet, x_InvalidSet := x_InvalidSet, xb_InvalidSet := xb_InvalidSet, xt_InvalidSet := xt_InvalidSet, ex_OtherSizes := PySem.W.exm_ref xb_OtherSizes xd_OtherSizes xt_OtherSizes xs_OtherSizes, k_OtherSizes := k_OtherSizes, x_OtherSizes := x_OtherSizes, xb_OtherSizes := xb_OtherSizes, xt_OtherSizes := xt_OtherSizes, ex_TooMany := PySem.W.exm_ref xb_TooMany xd_TooMany xt_TooMany xs_TooMany, k_TooMany := k_TooMany, x_TooMany := x_TooMany, xb_TooMany := xb_TooMany, xt_TooMany := xt_TooMany, ex_InvalidBox := PySem.W.exm_ref xb_InvalidBox xd_InvalidBox xt_InvalidBox xs_InvalidBox, k_InvalidBox := k_InvalidBox, x_InvalidBox := x_InvalidBox, xb_InvalidBox := xb_InvalidBox, xt_InvalidBox := xt_InvalidBox, ex_ScanError := PySem.W.exm_ref xb_ScanError xd_ScanError xt_ScanError xs_ScanError, k_ScanError := k_ScanError, x_ScanError := x_ScanError, xb_ScanError := xb_ScanError, xt_ScanError := xt_ScanError, bt_ValueSet_and_Box := .inr (.inr (.inl ⟨_, ga_ValueSet_and_Box, rfl, ne_other sf_Box sp_Box_ValueSet, bf_ValueSet_and_Box, ba_ValueSet_and_Box, br_ValueSet_and_Box, sp_Box_ValueSet⟩)), bt_Box_and_ValueSet := .inr (.inr (.inl ⟨_, ga_Box_and_ValueSet, rfl, ne_other sf_ValueSet sp_ValueSet_Box, bf_Box_and_ValueSet, ba_Box_and_ValueSet, br_Box_and_ValueSet, sp_ValueSet_Box⟩)), ec_InvalidBox := ⟨eg_InvalidBox, ek_InvalidBox, xb_InvalidBox, xd_InvalidBox, ea_InvalidBox, hn_exc, ht_exc, em_InvalidBox⟩, kv_InvalidBox := kit_ownT ev_InvalidBox (by decide +kernel), es_InvalidBox := PySem.W.exm_ref xb_ScanError xd_ScanError xt_ScanError ess_InvalidBox, ec_OtherSizes := ⟨eg_OtherSizes, ek_OtherSizes, xb_OtherSizes, xd_OtherSizes, ea_OtherSizes, hn_exc, ht_exc, em_OtherSizes⟩, kv_OtherSizes := kit_ownT ev_OtherSizes (by decide +kernel), es_OtherSizes := PySem.W.exm_ref xb_ScanError xd_ScanError xt_ScanError ess_OtherSizes, ec_TooMany := ⟨eg_TooMany, ek_TooMany, xb_TooMany, xd_TooMany, ea_TooMany, hn_exc, ht_exc, em_TooMany⟩, kv_TooMany := kit_ownT ev_TooMany (by decide +kernel), es_TooMany := PySem.W.exm_ref xb_ScanError xd_ScanError xt_ScanError ess_TooMany, kx_InvalidBox_InvalidCondition := kit_other xs_InvalidBox sx_InvalidBox_InvalidCondition xd_InvalidCondition xt_InvalidCondition, kx_InvalidBox_InvalidTable := kit_other xs_InvalidBox sx_InvalidBox_InvalidTable xd_InvalidTable xt_InvalidTable, kx_InvalidBox_InvalidWish := kit_other xs_InvalidBox sx_InvalidBox_InvalidWish xd_InvalidWish xt_InvalidWish, kx_InvalidBox_InvalidBoxes := kit_other xs_InvalidBox sx_InvalidBox_InvalidBoxes xd_InvalidBoxes xt_InvalidBoxes, kx_InvalidBox_InvalidText := kit_other xs_InvalidBox sx_InvalidBox_InvalidText xd_InvalidText xt_InvalidText, kx_InvalidBox_AlreadyThere := kit_other xs_InvalidBox sx_InvalidBox_AlreadyThere xd_AlreadyThere xt_AlreadyThere, kx_InvalidBox_InvalidSizes := kit_other xs_InvalidBox sx_InvalidBox_InvalidSizes xd_InvalidSizes xt_InvalidSizes, kx_InvalidBox_InvalidSet := kit_other xs_InvalidBox sx_InvalidBox_InvalidSet xd_InvalidSet xt_InvalidSet, kx_InvalidBox_InvalidBox := kit_same _ _, kx_InvalidBox_NotThere := kit_other xs_InvalidBox sx_InvalidBox_NotThere xd_NotThere xt_NotThere, kx_InvalidBox_NothingToUndo := kit_other xs_InvalidBox sx_InvalidBox_NothingToUndo xd_NothingToUndo xt_NothingToUndo, kx_InvalidBox_InvalidOrder := kit_other xs_InvalidBox sx_InvalidBox_InvalidOrder xd_InvalidOrder xt_InvalidOrder, kx_InvalidBox_InvalidKey := kit_other xs_InvalidBox sx_InvalidBox_InvalidKey xd_InvalidKey xt_InvalidKey, kx_InvalidBox_InvalidNumber := kit_other xs_InvalidBox sx_InvalidBox_InvalidNumber xd_InvalidNumber xt_InvalidNumber, kx_InvalidBox_OtherSizes := kit_other xs_InvalidBox sx_InvalidBox_OtherSizes xd_OtherSizes xt_OtherSizes, kx_InvalidBox_EmptyBox := kit_other xs_InvalidBox sx_InvalidBox_EmptyBox xd_EmptyBox xt_EmptyBox, kx_InvalidBox_TooMany := kit_other xs_InvalidBox sx_InvalidBox_TooMany xd_TooMany xt_TooMany, kx_OtherSizes_InvalidCondition := kit_other xs_OtherSizes sx_OtherSizes_InvalidCondition xd_InvalidCondition xt_InvalidCondition, kx_OtherSizes_InvalidTable := kit_other xs_OtherSizes sx_OtherSizes_InvalidTable xd_InvalidTable xt_InvalidTable, kx_OtherSizes_InvalidWish := kit_other xs_OtherSizes sx_OtherSizes_InvalidWish xd_InvalidWish xt_InvalidWish, kx_OtherSizes_InvalidBoxes := kit_other xs_OtherSizes sx_OtherSizes_InvalidBoxes xd_InvalidBoxes xt_InvalidBoxes, kx_OtherSizes_InvalidText := kit_other xs_OtherSizes sx_OtherSizes_InvalidText xd_InvalidText xt_InvalidText, kx_OtherSizes_AlreadyThere := kit_other xs_OtherSizes sx_OtherSizes_AlreadyThere xd_AlreadyThere xt_AlreadyThere, kx_OtherSizes_InvalidSizes := kit_other xs_OtherSizes sx_OtherSizes_InvalidSizes xd_InvalidSizes xt_InvalidSizes, kx_OtherSizes_InvalidSet := kit_other xs_OtherSizes sx_OtherSizes_InvalidSet xd_InvalidSet xt_InvalidSet, kx_OtherSizes_InvalidBox := kit_other xs_OtherSizes sx_OtherSizes_InvalidBox xd_InvalidBox xt_InvalidBox, kx_OtherSizes_NotThere := kit_other xs_OtherSizes sx_OtherSizes_NotThere xd_NotThere xt_NotThere, kx_OtherSizes_NothingToUndo := kit_other xs_OtherSizes sx_OtherSizes_NothingToUndo xd_NothingToUndo xt_NothingToUndo, kx_OtherSizes_InvalidOrder := kit_other xs_OtherSizes sx_OtherSizes_InvalidOrder xd_InvalidOrder xt_InvalidOrder, kx_OtherSizes_InvalidKey := kit_other xs_OtherSizes sx_OtherSizes_InvalidKey xd_InvalidKey xt_InvalidKey, kx_OtherSizes_InvalidNumber := kit_other xs_OtherSizes sx_OtherSizes_InvalidNumber xd_InvalidNumber xt_InvalidNumber, kx_OtherSizes_OtherSizes := kit_same _ _, kx_OtherSizes_EmptyBox := kit_other xs_OtherSizes sx_OtherSizes_EmptyBox xd_EmptyBox xt_EmptyBox, kx_OtherSizes_TooMany := kit_other xs_OtherSizes sx_OtherSizes_TooMany xd_TooMany xt_TooMany, kx_TooMany_InvalidCondition := kit_other xs_TooMany sx_TooMany_InvalidCondition xd_InvalidCondition xt_InvalidCondition, kx_TooMany_InvalidTable := kit_other xs_TooMany sx_TooMany_InvalidTable xd_InvalidTable xt_InvalidTable, kx_TooMany_InvalidWish := kit_other xs_TooMany sx_TooMany_InvalidWish xd_InvalidWish xt_InvalidWish, kx_TooMany_InvalidBoxes := kit_other xs_TooMany sx_TooMany_InvalidBoxes xd_InvalidBoxes xt_InvalidBoxes, kx_TooMany_InvalidText := kit_other xs_TooMany sx_TooMany_InvalidText xd_InvalidText xt_InvalidText, kx_TooMany_AlreadyThere := kit_other xs_TooMany sx_TooMany_AlreadyThere xd_AlreadyThere xt_AlreadyThere, kx_TooMany_InvalidSizes := kit_other xs_TooMany sx_TooMany_InvalidSizes xd_InvalidSizes xt_InvalidSizes, kx_TooMany_InvalidSet := kit_other xs_TooMany sx_TooMany_InvalidSet xd_InvalidSet xt_InvalidSet, kx_TooMany_InvalidBox := kit_other xs_TooMany sx_TooMany_InvalidBox xd_InvalidBox xt_InvalidBox, kx_TooMany_NotThere := kit_other xs_TooMany sx_TooMany_NotThere xd_NotThere xt_NotThere, kx_TooMany_NothingToUndo := kit_other xs_TooMany sx_TooMany_NothingToUndo xd_NothingToUndo xt_NothingToUndo, kx_TooMany_InvalidOrder := kit_other xs_TooMany sx_TooMany_InvalidOrder xd_InvalidOrder xt_InvalidOrder, kx_TooMany_InvalidKey := kit_other xs_TooMany sx_TooMany_InvalidKey xd_InvalidKey xt_InvalidKey, kx_TooMany_InvalidNumber := kit_other xs_TooMany sx_TooMany_InvalidNumber xd_InvalidNumber xt_InvalidNumber, kx_TooMany_OtherSizes := kit_other xs_TooMany sx_TooMany_OtherSizes xd_OtherSizes xt_OtherSizes, kx_TooMany_EmptyBox := kit_other xs_TooMany sx_TooMany_EmptyBox xd_EmptyBox xt_EmptyBox, kx_TooMany_TooMany := kit_same _ _ }, e.symm, fun s v => .of_eq rfl⟩
end TL
set_option Elab.async false
set_option linter.all false
set_option maxRecDepth 100000
namespace TL
open PySem PySem.Spec L2
section
local macro_rules
  | `(tactic| wp_step) => `(tactic| with_reducible first
    | refine s_seq ?_ | refine s_asg ?_ | refine s_ret ?_ | refine s_next ?_ | refine s_if ?_ | refine t_test ?_ | refine t_B ?_ | refine t_and ?_ | refine t_or ?_ | refine t_not ?_
    | refine e_op ?_ | refine e_int ?_ | refine e_bl ?_ | refine e_cb ?_ | refine a_cons ?_ | refine a_nil ?_ | refine p_I0i ?_ | refine p_I0b ?_ | refine c_int ?_ | refine p_Ii ?_ ?_
    | refine e_call ?_ | refine p_eqI ?_ | refine p_neI ?_ | (refine e_var (r := ?vr) ?va ?vb; case va => with_unfolding_all exact rfl) | (refine e_varO (ds := ?vr) ?va ?vb; case va => with_unfolding_all exact rfl) | refine e_raw ?_)
variable {P : Program} {w : World} {K : PySem.W.Frag} {mg : Str → Option Value} {base : Heap} {a : Ad}
/-- a value of which it is known what it is -/
structure KnC (K : PySem.W.Frag) (C : Addr) : Prop where
  it : InsTy K C
  int : PySem.W.kitOne K (.ref C) (.type "int") = some false
  bool : PySem.W.kitOne K (.ref C) (.type "bool") = some false
  list : PySem.W.kitOne K (.ref C) (.type "list") = some false
  tuple : PySem.W.kitOne K (.ref C) (.type "tuple") = some false
inductive Kn (K : PySem.W.Frag) : Rs → Prop
  | t {r : Rs} {n : String} : r.ty = some n → n ∈ ["NoneType", "bool", "int", "str", "list", "tuple", "dict"] → Kn K r
  | o {C : Addr} {fs : List (Str × D)} : KnC K C → Kn K (.v (.ins C fs))
def Rs.isI : Rs → Bool
  | .v (.int _) => true
  | _ => false
def Rs.isT (T : String) : Rs → Bool
  | .b _ => decide (T = "list")
  | .v (.bl _) => decide (T = "bool") || decide (T = "int")
  | .v d => decide (d.ty = some T)
theorem Kn.isi {r : Rs} (h : Kn K r) {T : String} (hT : T ∈ ["int", "bool", "list", "tuple"]) {k : Rs → Prop} (q : k (.v (.bl (r.isT T)))) : wpC (rIsi K) [r, .v (.raw (.ty T))] k := by
  cases h with
  | @t _ n h hn =>
    refine c_isiR h ?_ q
    have : ∀ n ∈ ["NoneType", "bool", "int", "str", "list", "tuple", "dict"], ∀ T ∈ ["int", "bool", "list", "tuple"], kitB n T = some (decide (n = T) || (decide (n = "bool") && decide (T = "int"))) := by decide +kernel
    rw [this n hn T hT]
    cases r with
    | b ds =>
      cases h
      show some (decide ("list" = T) || (decide ("list" = "bool") && decide (T = "int"))) = some (decide (T = "list"))
      simp [eq_comm]
    | v d =>
      cases d with
      | bl c =>
        cases h
        show some (decide ("bool" = T) || (decide ("bool" = "bool") && decide (T = "int"))) = some (decide (T = "bool") || decide (T = "int"))
        simp [eq_comm]
      | ins => cases h
      | raw => cases h
      | scr => cases h
      | lnt => cases h
      | hp => cases h
      | non => cases h; show some (decide ("NoneType" = T) || _) = some (decide ((some "NoneType" : Option String) = some T)); simp
      | int => cases h; show some (decide ("int" = T) || _) = some (decide ((some "int" : Option String) = some T)); simp
      | str => cases h; show some (decide ("str" = T) || _) = some (decide ((some "str" : Option String) = some T)); simp
      | lst => cases h; show some (decide ("list" = T) || _) = some (decide ((some "list" : Option String) = some T)); simp
      | tup => cases h; show some (decide ("tuple" = T) || _) = some (decide ((some "tuple" : Option String) = some T)); simp
      | emp => cases h; show some (decide ("dict" = T) || _) = some (decide ((some "dict" : Option String) = some T)); simp
      | dic => cases h; show some (decide ("dict" = T) || _) = some (decide ((some "dict" : Option String) = some T)); simp
  | @o C fs h =>
    have f : (Rs.v (.ins C fs)).isT T = false := rfl
    rw [f] at q
    refine c_isiO h.it (.ty T) ?_ q
    have : T = "int" ∨ T = "bool" ∨ T = "list" ∨ T = "tuple" := by simpa using hT
    rcases this with rfl | rfl | rfl | rfl
    · exact h.int
    · exact h.bool
    · exact h.list
    · exact h.tuple
theorem isI_1 {r : Rs} (b : r.isT "int" = true) : (!r.isT "bool") = r.isI := by
  cases r with
  | b ds => cases b
  | v d => cases d <;> first | rfl | cases b
theorem isI_2 {r : Rs} (b : r.isT "int" = false) : r.isI = false := by
  cases r with
  | b ds => rfl
  | v d => cases d <;> first | rfl | cases b
def is_integerC : Ct Nat := fun _ g rs k _ => ∃ r, rs = [r] ∧ Kn K r ∧ k (.bl r.isI) g
theorem ok_is_integer (T : Tx K mg a) : FnOk P w K mg base CX0 1 a.f_is_integer a.d_is_integer ["thing"] (mkSp (is_integerC (K := K))) := by
  refine Fun_t T.F_is_integer sc_is_integer (fun W g rs k x ⟨r, e, _⟩ => by rw [e]; rfl) fun cdv A outer s H E W g rs kd x hr ⟨r, e, h, k⟩ => ?_
  subst e
  refine ⟨_, (pss_one (ps_ret (pe_and (pe_callB (call_isiK (K := K) rfl) rfl T.n_isinstance (by decide +kernel) (pa_cons (pv 0) (pa_cons (pe_bltn (v := .ty "int") rfl T.n_int PyProof.Rows.boot_int rfl) pa_nil))) (pe_one (pe_not (pe_callB (call_isiK (K := K) rfl) rfl T.n_isinstance (by decide +kernel) (pa_cons (pv 0) (pa_cons (pe_bltn (v := .ty "bool") rfl T.n_bool PyProof.Rows.boot_bool rfl) pa_nil)))))))), ?_⟩
  refine s_ret (e_andV (e_cb (a_cons (e_var rfl (a_cons (e_raw (a_nil (h.isi (by decide) ⟨_, rfl, fun b => ?_, fun b => ?_⟩))))))))
  · refine e_notV (e_cb (a_cons (e_var rfl (a_cons (e_raw (a_nil (h.isi (by decide) ⟨_, rfl, _, rfl, ?_⟩)))))))
    have e : (!r.isT "bool") = r.isI := isI_1 b
    rw [e]; exact k
  · refine ⟨_, rfl, ?_⟩
    have e : r.isI = false := isI_2 b
    rw [← e]; exact k
/-! ### is_size -/
def sizeOk : Rs → Bool
  | .v (.int n) => decide (1 ≤ n) && decide (n ≤ 1000000000000000000000000000000)
  | _ => false
def is_sizeC : Ct Nat := fun _ g rs k _ => ∃ r, rs = [r] ∧ Kn K r ∧ k (.bl (sizeOk r)) g
theorem isI_int {r : Rs} (b : r.isI = true) : ∃ n, r = .v (.int n) := by
  cases r with
  | b ds => cases b
  | v d => cases d <;> first | exact ⟨_, rfl⟩ | cases b
theorem sizeOk_no {r : Rs} (b : r.isI = false) : sizeOk r = false := by
  cases r with
  | b ds => rfl
  | v d => cases d <;> first | rfl | cases b
theorem ok_is_size (T : Tx K mg a) : FnOk P w K mg base CX0 2 a.f_is_size a.d_is_size ["thing"] (mkSp (is_sizeC (K := K))) := by
  have G_is_integer : FnOk P w K mg base CX0 1 a.f_is_integer a.d_is_integer ["thing"] (mkSp (is_integerC (K := K))) := ok_is_integer T
  refine Fun_t T.F_is_size sc_is_size (fun W g rs k x ⟨r, e, _⟩ => by rw [e]; rfl) fun cdv A outer s H E W g rs kd x hr ⟨r, e, h, k⟩ => ?_
  subst e
  refine ⟨_, (pss_one (ps_ret (pe_and (pe_call G_is_integer (hr.mono (by decide)) rfl T.g_is_integer T.F_is_integer.kp T.b_is_integer .nil pass0 (pa_cons (pv 0) pa_nil)) (pe_one (pe_chain op_le op_le pe_int (pv 0) (pe_globI rfl T.c_GREATEST_SIZE)))))), ?_⟩
  refine s_ret (e_andV (e_call (a_cons (e_var rfl (a_nil fun W' I => ⟨r, rfl, h, _, rfl, fun b => ?_, fun b => ?_⟩)))))
  · obtain ⟨n, rfl⟩ := isI_int b
    refine e_chain (e_int (e_var rfl (p_I0b ⟨_, rfl, fun b1 => e_int (p_I0b ⟨_, rfl, ?_⟩), fun b1 => ⟨_, rfl, ?_⟩⟩)))
    · have e : sizeOk (.v (.int n)) = decide (n ≤ 1000000000000000000000000000000) := by
        show (decide (1 ≤ n) && _) = _
        rw [b1]; rfl
      rw [e] at k; exact k
    · have e : sizeOk (.v (.int n)) = false := by
        show (decide (1 ≤ n) && _) = _
        rw [b1]; rfl
      rw [e] at k; exact k
  · exact ⟨_, rfl, by rw [sizeOk_no b] at k; exact k⟩
/-! ### _is_stretch -/
def strOk (least size : Int) : Rs → Bool
  | .v (.tup [.int f, .int l]) => decide (least ≤ f) && decide (f ≤ l) && decide (l < size)
  | _ => false
theorem isT_tup {r : Rs} (b : r.isT "tuple" = true) : ∃ ds, r = .v (.tup ds) := by
  cases r with
  | b ds => cases b
  | v d => cases d <;> first | exact ⟨_, rfl⟩ | cases b
theorem strOk_no {least size : Int} {r : Rs} (b : r.isT "tuple" = false) : strOk least size r = false := by
  cases r with
  | b ds => rfl
  | v d => cases d <;> first | rfl | cases b
def _is_stretchC : Ct Nat := fun _ g rs k _ => ∃ (r : Rs) (m n : Int), rs = [.v (.int m), .v (.int n), r] ∧ Kn K r ∧ (∀ ds, r = .v (.tup ds) → ∀ d ∈ ds, Kn K (.v d)) ∧ k (.bl (strOk m n r)) g
theorem ok__is_stretch (T : Tx K mg a) : FnOk P w K mg base CX0 2 a.f__is_stretch a.d__is_stretch ["least", "size", "thing"] (mkSp (_is_stretchC (K := K))) := by
  have G_is_integer : FnOk P w K mg base CX0 1 a.f_is_integer a.d_is_integer ["thing"] (mkSp (is_integerC (K := K))) := ok_is_integer T
  refine Fun_t T.F__is_stretch sc__is_stretch (fun W g rs k x ⟨r, m, n, e, _⟩ => by rw [e]; rfl) fun cdv A outer s H E W g rs kd x hr ⟨r, m, n, e, h, hd, k⟩ => ?_
  subst e
  refine ⟨_, (pss_cons (ps_if (PW.pt (pw_or (pt_not (pt_val (pe_callB (call_isiK (K := K) rfl) rfl T.n_isinstance (by decide +kernel) (pa_cons (pv 2) (pa_cons (pe_bltn (v := .ty "tuple") rfl T.n_tuple (by decide +kernel) rfl) pa_nil))))) (pw_or1 (pt_cmpR (op_neK (K := K) rfl (hu64 hr)) (pe_callB (cr_lenK (K := K) rfl) rfl T.n_len (by decide +kernel) (pa_cons (pv 2) pa_nil)) pe_int (nomark _))))) (pss_one (ps_ret pe_bl)) pss_nil)
      (pss_cons (ps_asg (pv 2) (pg_tupK (K := K) (n := 2) rfl rfl (pgs_cons (pg_name (i := 3) (x := "first") sc__is_stretch.nd rfl (Or.inl rfl)) (pgs_cons (pg_name (i := 4) (x := "last") sc__is_stretch.nd rfl (Or.inl rfl)) pgs_nil))))
      (pss_one (ps_ret (pe_and (pe_call G_is_integer (hr.mono (by decide)) rfl T.g_is_integer T.F_is_integer.kp T.b_is_integer .nil pass0 (pa_cons (pv 3) pa_nil)) (pe_and (pe_call G_is_integer (hr.mono (by decide)) rfl T.g_is_integer T.F_is_integer.kp T.b_is_integer .nil pass0 (pa_cons (pv 4) pa_nil)) (pe_one (pe_chain3 op_le op_le op_lt (pv 0) (pv 3) (pv 4) (pv 1))))))))), ?_⟩
  refine s_seq (s_if (t_or (t_not (t_B ?_))))
  repeat wp_step
  refine h.isi (by decide) ⟨_, rfl, fun b => ⟨fun _ => ?_, fun z => nomatch z⟩, fun b => ?_⟩
  · have e := strOk_no (least := m) (size := n) (r := r) (by simpa using b)
    rw [e] at k
    exact s_ret (e_bl ⟨_, rfl, k⟩)
  · obtain ⟨ds, rfl⟩ := isT_tup (r := r) (by simpa using b)
    repeat wp_step
    refine c_len .t (e_int (p_neI ⟨_, rfl, fun b1 => ?_, fun b1 => ?_⟩))
    · have e : strOk m n (.v (.tup ds)) = false := by
        have b1' : ¬ ((ds.length : Int) = 2) := of_decide_eq_true b1
        match ds, b1' with
        | [], _ => rfl
        | [x], _ => cases x <;> rfl
        | [_, _], z => exact absurd rfl z
        | x :: y :: _ :: _, _ => cases x <;> cases y <;> rfl
      rw [e] at k
      exact s_ret (e_bl ⟨_, rfl, k⟩)
    · have b2 : (ds.length : Int) = 2 := by simpa using b1
      obtain ⟨x, y, rfl⟩ : ∃ x y, ds = [x, y] := by
        match ds, b2 with
        | [x, y], _ => exact ⟨x, y, rfl⟩
        | [], z => simp at z
        | [_], z => simp at z
        | _ :: _ :: _ :: _, z => simp at z; omega
      have hx := hd _ rfl x (by simp)
      have hy := hd _ rfl y (by simp)
      refine s_next (s_seq (s_asgG (e_var rfl ⟨_, rfl, g_tup2 ?_⟩)))
      refine s_ret (e_andV (e_call (a_cons (e_var rfl (a_nil fun W' I => ⟨_, rfl, hx, _, rfl, fun c1 => ?_, fun c1 => ?_⟩)))))
      · obtain ⟨f, ef⟩ := isI_int c1
        cases ef
        refine e_andV (e_call (a_cons (e_var rfl (a_nil fun W' I => ⟨_, rfl, hy, _, rfl, fun c2 => ?_, fun c2 => ?_⟩))))
        · obtain ⟨l, el⟩ := isI_int c2
          cases el
          have e : strOk m n (.v (.tup [.int f, .int l])) = (decide (m ≤ f) && decide (f ≤ l) && decide (l < n)) := rfl
          rw [e] at k
          refine e_chain3 (e_var rfl (e_var rfl (p_I0b ⟨_, rfl, fun q1 => ⟨_, rfl, ?_⟩, fun q1 => e_var rfl (p_I0b ⟨_, rfl, fun q2 => ⟨_, rfl, ?_⟩, fun q2 => e_var rfl (p_I0b ⟨_, rfl, ?_⟩)⟩)⟩)))
          · rw [q1] at k; exact k
          · rw [q1, q2] at k; exact k
          · rw [q1, q2] at k; exact k
        · have e : strOk m n (.v (.tup [.int f, y])) = false := by
            cases y <;> first | rfl | cases c2
          rw [e] at k
          exact ⟨_, rfl, k⟩
      · have e : strOk m n (.v (.tup [x, y])) = false := by
          cases x <;> first | rfl | cases c1
        rw [e] at k
        exact ⟨_, rfl, k⟩
/-! ### are_stretches -/
def strsGo (size : Int) : Int → List D → Bool
  | _, [] => true
  | m, d :: ds => strOk m size (.v d) && (match d with
    | .tup [_, .int l] => strsGo size (l + 2) ds
    | _ => false)
def strsOk (size : Int) : Rs → Bool
  | .v (.lst ds) => decide (ds.length ≤ 12) && strsGo size 0 ds
  | .b ds => decide (ds.length ≤ 12) && strsGo size 0 ds
  | _ => false
theorem strsOk_of {size : Int} {r : Rs} {ds : List D} (l : LstOf r ds) : strsOk size r = (decide (ds.length ≤ 12) && strsGo size 0 ds) := by
  cases l <;> rfl
theorem isT_list {r : Rs} (b : r.isT "list" = true) : ∃ ds, LstOf r ds := by
  cases r with
  | b ds => exact ⟨ds, .b⟩
  | v d => cases d <;> first | exact ⟨_, .v⟩ | cases b
theorem strsOk_no {size : Int} {r : Rs} (b : r.isT "list" = false) : strsOk size r = false := by
  cases r with
  | b ds => cases b
  | v d => cases d <;> first | rfl | cases b
theorem strOk_tup {m n : Int} {d : D} (h : strOk m n (.v d) = true) : ∃ f l, d = .tup [.int f, .int l] ∧ m ≤ f ∧ f ≤ l ∧ l < n := by
  unfold strOk at h
  split at h
  · rename_i f l e
    cases e
    simp only [Bool.and_eq_true, decide_eq_true_eq] at h
    exact ⟨f, l, rfl, h.1.1, h.1.2, h.2⟩
  · cases h
def Kn2 (K : PySem.W.Frag) (r : Rs) : Prop := Kn K r ∧ ∀ ds, LstOf r ds → ∀ d ∈ ds, Kn K (.v d) ∧ ∀ es, d = .tup es → ∀ e ∈ es, Kn K (.v e)
def are_stretchesC : Ct Nat := fun _ g rs k _ => ∃ (r : Rs) (n : Int), rs = [.v (.int n), r] ∧ Kn2 K r ∧ k (.bl (strsOk n r)) g
theorem ok_are_stretches (T : Tx K mg a) : FnOk P w K mg base CX0 3 a.f_are_stretches a.d_are_stretches ["size", "thing"] (mkSp (are_stretchesC (K := K))) := by
  have G__is_stretch : FnOk P w K mg base CX0 2 a.f__is_stretch a.d__is_stretch ["least", "size", "thing"] (mkSp (_is_stretchC (K := K))) := ok__is_stretch T
  refine Fun_t T.F_are_stretches sc_are_stretches (fun W g rs k x ⟨r, n, e, _⟩ => by rw [e]; rfl) fun cdv A outer s H E W g rs kd x hr ⟨r, n, e, h, k⟩ => ?_
  subst e
  refine ⟨_, (pss_cons (ps_if (PW.pt (pw_or (pt_not (pt_val (pe_callB (call_isiK (K := K) rfl) rfl T.n_isinstance (by decide +kernel) (pa_cons (pv 1) (pa_cons (pe_bltn (v := .ty "list") rfl T.n_list (by decide +kernel) rfl) pa_nil))))) (pw_or1 (pt_cmpR op_gt (pe_callB (cr_lenK (K := K) rfl) rfl T.n_len (by decide +kernel) (pa_cons (pv 1) pa_nil)) (pe_globI rfl T.c_MOST_STRETCHES) (nomark _))))) (pss_one (ps_ret pe_bl)) pss_nil)
      (pss_cons (ps_set (i := 2) sc_are_stretches.nd rfl (Or.inl rfl) pe_int)
      (pss_cons (ps_for PassesOwn.never rfl (pi_listK (K := K) rfl (pv 1)) (pg_name (i := 3) (x := "stretch") sc_are_stretches.nd rfl (Or.inl rfl)) (pss_cons (ps_if (pt_not (pt_val (pe_call G__is_stretch (hr.mono (by decide)) rfl T.g__is_stretch T.F__is_stretch.kp T.b__is_stretch .nil pass0 (pa_cons (pv 2) (pa_cons (pv 0) (pa_cons (pv 3) pa_nil)))))) (pss_one (ps_ret pe_bl)) pss_nil)
      (pss_one (ps_set (i := 2) sc_are_stretches.nd rfl (Or.inl rfl) (pe_op op_add (pe_ix (ix_seqK (K := K) rfl) (pv 3) pe_int (fun _ _ => rfl)) pe_int)))))
      (pss_one (ps_ret pe_bl))))), ?_⟩
  refine s_seq (s_if (t_or (t_not (t_B ?_))))
  repeat wp_step
  refine h.1.isi (by decide) ⟨_, rfl, fun b => ⟨fun _ => ?_, fun z => nomatch z⟩, fun b => ?_⟩
  · rw [strsOk_no (r := r) (by simpa using b)] at k
    exact s_ret (e_bl ⟨_, rfl, k⟩)
  · obtain ⟨ds, l⟩ := isT_list (r := r) (by simpa using b)
    rw [strsOk_of l] at k
    have hd := h.2 ds l
    repeat wp_step
    refine c_len (ds := ds) (by cases l; exact .v; exact .b) ?_
    repeat wp_step
    refine ⟨_, rfl, fun b1 => ?_, fun b1 => ?_⟩
    · have e : decide (ds.length ≤ 12) = false := by
        have := of_decide_eq_true b1
        exact decide_eq_false (by omega)
      rw [e] at k
      exact s_ret (e_bl ⟨_, rfl, k⟩)
    · have e : decide (ds.length ≤ 12) = true := by
        have := of_decide_eq_false b1
        exact decide_eq_true (by omega)
      rw [e, Bool.true_and] at k
      refine s_next (s_seq (s_asg (e_int ⟨_, rfl, s_seq ?_⟩)))
      refine s_for (i_listR rfl l ⟨fun i ρ' g' => g' = g ∧ ∃ (m : Int) (s3 : Sl), ρ' = [.v (.int n), .r r, .v (.int m), s3] ∧ strsGo n 0 ds = strsGo n m (ds.drop i), ⟨rfl, 0, .un, rfl, rfl⟩, ?_, ?_⟩)
      · rintro i d ρ' g' hi ⟨rfl, m, s3, rfl, hm⟩
        have hmem := hd d (List.mem_of_getElem? hi)
        have hdr : ds.drop i = d :: ds.drop (i + 1) := by
          rw [← List.getElem?_eq_some_iff.mp hi |>.2, List.drop_eq_getElem_cons]
        refine g_name ?_
        refine s_seq (s_if (t_not (t_B ?_)))
        repeat wp_step
        refine fun W' I => ⟨_, m, n, rfl, hmem.1, fun es e => hmem.2 es (by cases e; rfl), _, rfl, fun b => ?_, fun b => ?_⟩
        · have e : strOk m n (.v d) = false := by simpa using b
          rw [hm, hdr] at k
          have e2 : strsGo n m (d :: ds.drop (i + 1)) = false := by
            show (strOk m n (.v d) && _) = false
            rw [e]; rfl
          rw [e2] at k
          exact s_ret (e_bl ⟨_, rfl, k⟩)
        · have e : strOk m n (.v d) = true := by simpa using b
          obtain ⟨f, l2, ed, h1, h2, h3⟩ := strOk_tup e
          subst ed
          repeat wp_step
          refine p_ix .t rfl ?_
          repeat wp_step
          refine ⟨_, rfl, rfl, l2 + 2, _, rfl, ?_⟩
          rw [hm, hdr]
          show (strOk m n (.v (.tup [.int f, .int l2])) && strsGo n (l2 + 2) (ds.drop (i + 1))) = _
          rw [e]; rfl
      · rintro ρ' g' ⟨rfl, m, s3, rfl, hm⟩
        rw [hm, List.drop_length] at k
        exact s_ret (e_bl ⟨_, rfl, k⟩)
/-! ### ValueSet -/
abbrev vsF (n : Int) (ds : List D) : List (Str × D) := [("_size", .int n), ("_stretches", .lst ds)]
def initC (a : Ad) : Ci Nat := fun _ g rs k x => ∃ (r1 r2 : Rs), rs = [r1, r2] ∧ Kn K r1 ∧ Kn2 K r2 ∧ (∀ n ds, r1 = .v (.int n) → LstOf r2 ds → sizeOk r1 = true → strsOk n r2 = true → k (vsF n ds) g) ∧
  ((sizeOk r1 = false ∨ ∃ n, r1 = .v (.int n) ∧ strsOk n r2 = false) → x (.ref a.C_InvalidSet) g)
theorem sizeOk_int {r : Rs} (b : sizeOk r = true) : ∃ n, r = .v (.int n) := by
  cases r with
  | b ds => cases b
  | v d => cases d <;> first | exact ⟨_, rfl⟩ | cases b
theorem strsOk_lst {n : Int} {r : Rs} (b : strsOk n r = true) : ∃ ds, LstOf r ds := by
  cases r with
  | b ds => exact ⟨ds, .b⟩
  | v d => cases d <;> first | exact ⟨_, .v⟩ | cases b
theorem ok_init (T : Tx K mg a) : FnOk P w K mg base (L2N.CX P w) 4 a.f_ValueSetU_initU a.d_ValueSetU_initU ["self", "size", "stretches"] (inSp a.C_ValueSet (initC (K := K) a)) := by
  have G_is_size : FnOk P w K mg base CX0 2 a.f_is_size a.d_is_size ["thing"] (mkSp (is_sizeC (K := K))) := ok_is_size T
  have G_are_stretches : FnOk P w K mg base CX0 3 a.f_are_stretches a.d_are_stretches ["size", "thing"] (mkSp (are_stretchesC (K := K))) := ok_are_stretches T
  refine Fun_initN T.F_ValueSetU_initU sc_ValueSetU_initU (fun W g rs k x ⟨r1, r2, e, _⟩ => by rw [e]; rfl) fun cdv A outer s H E W g p rs kd x hr ⟨r1, r2, e, h1, h2, k, kx⟩ hx => ?_
  subst e
  refine ⟨_, (pss_cons (ps_if (pt_not (pt_val (pe_call G_is_size (hr.mono (by decide)) rfl T.g_is_size T.F_is_size.kp T.b_is_size .nil pass0 (pa_cons (pv 1) pa_nil)))) (pss_one (L2N.ps_raise rfl (L2N.takes_of rfl rfl rfl rfl) (L2N.pmk_own PySem.F.excBase_ValueError T.x_InvalidSet T.g_InvalidSet T.k_InvalidSet (raises_own T.xb_InvalidSet T.xt_InvalidSet) rfl))) pss_nil)
      (pss_cons (ps_if (pt_not (pt_val (pe_call G_are_stretches (hr.mono (by decide)) rfl T.g_are_stretches T.F_are_stretches.kp T.b_are_stretches .nil pass0 (pa_cons (pv 1) (pa_cons (pv 2) pa_nil))))) (pss_one (L2N.ps_raise rfl (L2N.takes_of rfl rfl rfl rfl) (L2N.pmk_own PySem.F.excBase_ValueError T.x_InvalidSet T.g_InvalidSet T.k_InvalidSet (raises_own T.xb_InvalidSet T.xt_InvalidSet) rfl))) pss_nil)
      (pss_cons (ps_fld (pv 0) (pv 1) rfl)
      (pss_one (ps_fld (pv 0) (pe_callTy (cr_listK (K := K) rfl) rfl T.n_list (by decide +kernel) (pa_cons (pv 2) pa_nil)) rfl))))), ?_⟩
  refine s_seq (s_if (t_not (t_B ?_)))
  repeat wp_step
  refine fun W' I => ⟨r1, rfl, h1, _, rfl, fun b => ?_, fun b => ?_⟩
  · exact s_raise fun H' e => hx _ g H' (kx (.inl (by simpa using b))) e
  · have b1 : sizeOk r1 = true := by simpa using b
    obtain ⟨n, rfl⟩ := sizeOk_int b1
    refine s_next (s_seq (s_if (t_not (t_B ?_))))
    repeat wp_step
    refine fun W' I => ⟨r2, n, rfl, h2, _, rfl, fun b => ?_, fun b => ?_⟩
    · exact s_raise fun H' e => hx _ g H' (kx (.inr ⟨n, rfl, by simpa using b⟩)) e
    · have b2 : strsOk n r2 = true := by simpa using b
      obtain ⟨ds, l⟩ := strsOk_lst b2
      refine s_next (s_seq (s_fld (i := 0) rfl T.cl_ValueSet T.na_ValueSet__size (by decide) (e_var rfl ⟨_, rfl, ?_⟩)))
      refine s_fld (i := 0) rfl T.cl_ValueSet T.na_ValueSet__stretches (by show 1 < 900; decide) (e_cb (a_cons (e_var rfl (a_nil (c_list (ds := ds) (by cases l; exact .v; exact .b) ⟨_, rfl, _, rfl, ?_⟩)))))
      exact k n ds rfl l b1 b2
def prs (ps : List (Int × Int)) : List D := ps.map fun p => .tup [.int p.1, .int p.2]
def has (ps : List (Int × Int)) (v : Int) : Bool := ps.any fun p => decide (p.1 ≤ v) && decide (v ≤ p.2)
theorem kn_int {i : Int} : Kn K (.v (.int i)) := .t rfl (by decide)
end
end TL
set_option Elab.async false
set_option linter.all false
set_option maxRecDepth 100000
namespace TL
open PySem PySem.Spec L2
section
local macro_rules
  | `(tactic| wp_step) => `(tactic| with_reducible first
    | refine s_seq ?_ | refine s_asg ?_ | refine s_ret ?_ | refine s_next ?_ | refine s_if ?_ | refine t_test ?_ | refine t_B ?_ | refine t_and ?_ | refine t_or ?_ | refine t_not ?_
    | refine e_op ?_ | refine e_int ?_ | refine e_bl ?_ | refine e_cb ?_ | refine a_cons ?_ | refine a_nil ?_ | refine p_I0i ?_ | refine p_I0b ?_ | refine c_int ?_ | refine p_Ii ?_ ?_
    | refine e_call ?_ | refine p_eqI ?_ | refine p_neI ?_ | (refine e_var (r := ?vr) ?va ?vb; case va => with_unfolding_all exact rfl) | (refine e_varO (ds := ?vr) ?va ?vb; case va => with_unfolding_all exact rfl) | refine e_raw ?_)
variable {P : Program} {w : World} {K : PySem.W.Frag} {mg : Str → Option Value} {base : Heap} {a : Ad}
/-! a set's own data -/
/-- the stretches of a set of size n, as pairs -/
def totalC (a : Ad) : Ct Nat := fun _ g rs k _ => ∃ (n : Int) (ps : List (Int × Int)), rs = [.v (.ins a.C_ValueSet (vsF n (prs ps)))] ∧ ps.length ≤ 12 ∧ k (.int (ps.map fun p => p.2 - p.1 + 1).sum) g
/-- the values of a set -/
def inR (ps : List (Int × Int)) : Rs → Bool
  | .v (.int v) => has ps v
  | _ => false
def containsC (a : Ad) : Ct Nat := fun _ g rs k _ => ∃ (n : Int) (ps : List (Int × Int)) (r : Rs), rs = [.v (.ins a.C_ValueSet (vsF n (prs ps))), r] ∧ ps.length ≤ 12 ∧ Kn K r ∧ k (.bl (inR ps r)) g
theorem ok_contains (T : Tx K mg a) : FnOk P w K mg base CX0 2 a.f_ValueSetU_containsU a.d_ValueSetU_containsU ["self", "value"] (mkSp (containsC (K := K) a)) := by
  have G_is_integer : FnOk P w K mg base CX0 1 a.f_is_integer a.d_is_integer ["thing"] (mkSp (is_integerC (K := K))) := ok_is_integer T
  refine Fun_t T.F_ValueSetU_containsU sc_ValueSetU_containsU (fun W g rs k x ⟨n, ps, r, e, _⟩ => by rw [e]; rfl) fun cdv A outer s H E W g rs kd x hr ⟨n, ps, r, e, hl, h, k⟩ => ?_
  subst e
  refine ⟨_, (pss_one (ps_ret (pe_and (pe_call G_is_integer (hr.mono (by decide)) rfl T.g_is_integer T.F_is_integer.kp T.b_is_integer .nil pass0 (pa_cons (pv 1) pa_nil)) (pe_one (pe_callB (cr_anyK (K := K) rfl rfl) rfl T.n_any (by decide +kernel) (pa_cons (pe_lc (own := [("first", 2), ("last", 3)]) rfl sc_ValueSetU_containsU.nd  (pi_listK (K := K) rfl (pe_fldK (K := K) rfl (pv 0) rfl)) (blkOk_by (N := ["self", "value", "first", "last"]) (sc := defScope s_ValueSetU_containsU) (by decide +kernel)) (fun _ _ _ _ _ => (pg_tupK (K := K) (n := 2) rfl rfl (pgs_cons (pg_name (i := 2) (x := "first") sc_ValueSetU_containsU.nd rfl (Or.inl rfl)) (pgs_cons (pg_name (i := 3) (x := "last") sc_ValueSetU_containsU.nd rfl (Or.inl rfl)) pgs_nil)))) (fun _ _ _ _ _ => pts_nil) (fun _ _ _ _ _ => (pe_chain op_le op_le (pv 2) (pv 1) (pv 3)))) pa_nil)))))), ?_⟩
  refine s_ret (e_andV ?_)
  repeat wp_step
  refine fun W' I => ⟨r, rfl, h, _, rfl, fun b => ?_, fun b => ?_⟩
  · obtain ⟨v, rfl⟩ := isI_int b
    refine e_cb (a_cons (e_new (n_map (i_list (e_fld (e_var rfl ⟨_, _, _, rfl, T.cl_ValueSet, T.na_ValueSet__stretches, rfl, prs ps, rfl, ?_, ?_⟩))))))
    · show (ps.map _).length ≤ _
      rw [List.length_map]; omega
    · let F : D → D := fun d => match d with
        | .tup [.int f, .int l] => .bl (decide (f ≤ v) && decide (v ≤ l))
        | _ => .non
      refine ⟨F, fun d hd => ?_, ?_⟩
      · obtain ⟨p, _, rfl⟩ := List.mem_map.mp hd
        refine ⟨_, gt_tup2 (by decide), ?_⟩
        refine e_chain (e_var rfl (e_var rfl (p_I0b ⟨_, rfl, fun b1 => e_var rfl (p_I0b ⟨rfl, ?_⟩), fun b1 => ⟨rfl, ?_⟩⟩)))
        · show Rs.v (.bl _) = .v (.bl (decide (p.1 ≤ v) && decide (v ≤ p.2)))
          rw [b1]; rfl
        · show Rs.v (.bl _) = .v (.bl (decide (p.1 ≤ v) && decide (v ≤ p.2)))
          rw [b1]; rfl
      · have e : (prs ps).map F = (ps.map fun p => decide (p.1 ≤ v) && decide (v ≤ p.2)).map D.bl := by
          unfold prs
          rw [List.map_map, List.map_map]
          rfl
        rw [e]
        refine a_nil (c_any .v ⟨_, rfl, ?_⟩)
        rw [List.any_map]
        exact k
  · have e : inR ps r = false := by
      cases r with
      | b ds => rfl
      | v d => cases d <;> first | rfl | cases b
    rw [e] at k
    exact ⟨_, rfl, k⟩
def wrapsC (a : Ad) : Ct Nat := fun _ g rs k _ => ∃ (n : Int) (ps : List (Int × Int)), rs = [.v (.ins a.C_ValueSet (vsF n (prs ps)))] ∧ ps.length ≤ 12 ∧ k (.bl (has ps 0 && has ps (n - 1))) g
end
end TL
set_option Elab.async false
set_option linter.all false
set_option maxRecDepth 100000
namespace TL
open PySem PySem.Spec L2
section
variable {P : Program} {w : World} {K : PySem.W.Frag} {mg : Str → Option Value} {base : Heap} {a : Ad}
/-! ### ValueSet's own properties -/
def sizeC (a : Ad) : Ct Nat := fun _ g rs k _ => ∃ (n : Int) (ds : List D), rs = [.v (.ins a.C_ValueSet (vsF n ds))] ∧ k (.int n) g
theorem ok_size (T : Tx K mg a) : FnOk P w K mg base CX0 1 a.f_ValueSet_size a.d_ValueSet_size ["self"] (mkSp (sizeC a)) := by
  refine Fun_t T.F_ValueSet_size sc_ValueSet_size (fun W g rs k x ⟨n, ds, e, _⟩ => by rw [e]; rfl) fun cdv A outer s H E W g rs kd x hr ⟨n, ds, e, k⟩ => ?_
  subst e
  exact ⟨_, (pss_one (ps_ret (pe_fldK (K := K) rfl (pv 0) rfl))), s_ret (e_fld (e_var rfl ⟨_, _, _, rfl, T.cl_ValueSet, T.na_ValueSet__size, rfl, _, rfl, k⟩))⟩
def stretchesC (a : Ad) : Cn Nat := fun _ g rs k => ∃ (n : Int) (ds : List D), rs = [.v (.ins a.C_ValueSet (vsF n ds))] ∧ k ds g
theorem ok_stretches (T : Tx K mg a) : FnOk P w K mg base CX0 1 a.f_ValueSet_stretches a.d_ValueSet_stretches ["self"] (mkSpN (stretchesC a)) := by
  refine Fun_tN1 T.F_ValueSet_stretches sc_ValueSet_stretches (fun W g rs k ⟨n, ds, e, _⟩ => by rw [e]; rfl) fun cdv A outer s H E W g rs kd hr ⟨n, ds, e, k⟩ => ?_
  subst e
  exact ⟨_, (pss_one (ps_ret (pe_callTy (cr_listK (K := K) rfl) rfl T.n_list (by decide +kernel) (pa_cons (pe_fldK (K := K) rfl (pv 0) rfl) pa_nil)))), n_list (a_cons (e_fld (e_var rfl ⟨_, _, _, rfl, T.cl_ValueSet, T.na_ValueSet__stretches, rfl, a_nil ⟨_, ds, rfl, .v, k⟩⟩)))⟩
end
end TL
set_option Elab.async false
set_option linter.all false
set_option maxRecDepth 100000
namespace TL
open PySem PySem.Spec L2
section
local macro_rules
  | `(tactic| o_reads) => `(tactic| with_reducible first
    | refine s_seq ?_ | refine s_asg ?_ | refine s_ret ?_ | refine s_next ?_ | refine s_if ?_ | refine t_test ?_ | refine t_B ?_ | refine t_and ?_ | refine t_or ?_ | refine t_not ?_
    | refine e_op ?_ | refine e_int ?_ | refine e_bl ?_ | refine e_str ?_ | refine e_cb ?_ | refine a_cons ?_ | refine a_nil ?_ | refine p_I0i ?_ | refine p_I0b ?_ | refine c_int ?_
    | refine e_call ?_ | refine e_make ?_ | refine e_prop ?_ | refine e_un ?_ | refine p_Ui ?_ | refine e_non ?_ | refine p_eqI ?_ | refine p_neI ?_ | refine p_addI ?_ | refine e_raw ?_ | refine e_lst ?_ | refine e_tup ?_ | refine e_andV ?_ | refine e_orV ?_ | refine e_if ?_ | refine e_notV ?_ | refine e_sl ?_ | refine o_some ?_ | refine o_no ?_ | refine e_revL ?_ | (refine Or.inl ⟨_, LstOf.v, ?_⟩)
    | (refine e_var (r := ?vr) ?va ?vb; case va => with_unfolding_all exact rfl) | (refine e_varO (ds := ?vr) ?va ?vb; case va => with_unfolding_all exact rfl) | (refine e_varT (p := ?vr) ?va ?vb; case va => with_unfolding_all exact rfl)
    | (refine p_Ii ?pa ?pb; case pa => first | exact wide_mul (a := 64) (b := 64) (by first | decide | omega) (by first | decide | omega) (by decide) (by decide) (by decide) | exact pow_ok (n := 64) (by decide) (by decide) (by decide) (by decide) (by decide) | decide | omega)
    | (refine ⟨?vd, (?va : Vs _ _), ?vb, ?vc⟩; (case va => first | exact .nil | exact .cons .nil | exact .cons (.cons .nil) | exact .cons (.cons (.cons .nil)) | exact .cons (.cons (.cons (.cons .nil))) | exact .cons (.cons (.cons (.cons (.cons .nil)))) | exact .cons (.cons (.cons (.cons (.cons (.cons .nil))))) | exact .cons (.cons (.cons (.cons (.cons (.cons (.cons .nil)))))) | exact .cons (.cons (.cons (.cons (.cons (.cons (.cons (.cons .nil))))))) | exact .cons (.cons (.cons (.cons (.cons (.cons (.cons (.cons (.cons .nil)))))))) | exact .cons (.cons (.cons (.cons (.cons (.cons (.cons (.cons (.cons (.cons .nil))))))))) | exact .cons (.cons (.cons (.cons (.cons (.cons (.cons (.cons (.cons (.cons (.cons .nil)))))))))) | exact .cons (.cons (.cons (.cons (.cons (.cons (.cons (.cons (.cons (.cons (.cons (.cons .nil))))))))))) | exact .cons (.cons (.cons (.cons (.cons (.cons (.cons (.cons (.cons (.cons (.cons (.cons (.cons .nil)))))))))))) | exact .cons (.cons (.cons (.cons (.cons (.cons (.cons (.cons (.cons (.cons (.cons (.cons (.cons (.cons .nil))))))))))))) | exact .cons (.cons (.cons (.cons (.cons (.cons (.cons (.cons (.cons (.cons (.cons (.cons (.cons (.cons (.cons .nil)))))))))))))) | exact .cons (.cons (.cons (.cons (.cons (.cons (.cons (.cons (.cons (.cons (.cons (.cons (.cons (.cons (.cons (.cons .nil))))))))))))))) | exact .cons (.cons (.cons (.cons (.cons (.cons (.cons (.cons (.cons (.cons (.cons (.cons (.cons (.cons (.cons (.cons (.cons .nil)))))))))))))))) | exact .cons (.cons (.cons (.cons (.cons (.cons (.cons (.cons (.cons (.cons (.cons (.cons (.cons (.cons (.cons (.cons (.cons (.cons .nil)))))))))))))))))); (case vb => with_unfolding_all exact Nat.le_of_ble_eq_true rfl))
    | (refine ⟨_, rfl, fun _ => ?vx, ?no⟩; (case no => (intro z; with_unfolding_all cases z; done))) | (refine ⟨_, rfl, ?no, fun _ => ?vx⟩; (case no => (intro z; with_unfolding_all cases z; done))) | (refine ⟨?no, fun _ => ?vx⟩; (case no => (intro z; with_unfolding_all cases z; done))) | (refine ⟨fun _ => ?vx, ?no⟩; (case no => (intro z; with_unfolding_all cases z; done))) | (refine ⟨_, rfl, fun hb => ?_, fun hb => ?_⟩) | (refine ⟨_, rfl, ?_⟩))
local macro_rules
  | `(tactic| o_readsAll) => `(tactic| repeat o_reads)
variable {P : Program} {w : World} {K : PySem.W.Frag} {mg : Str → Option Value} {base : Heap} {a : Ad}

/-! ### == of sets -/
theorem prs_pl' (ps : List (Int × Int)) : ∀ d ∈ prs ps, Pl 2 d := fun d hd => by
  obtain ⟨p, _, rfl⟩ := List.mem_map.mp hd
  refine .tup (n := 1) fun d hd => ?_
  simp at hd
  rcases hd with rfl | rfl <;> exact .int
theorem eqvAll_prs : ∀ ps qs : List (Int × Int), PyData.eqvAll (D.pyL (prs ps)) (D.pyL (prs qs)) = decide (ps = qs)
  | [], [] => rfl
  | [], _ :: _ => rfl
  | _ :: _, [] => rfl
  | (a, b) :: ps, (c, d) :: qs => by
    show (PyData.eqv (D.py (.tup [.int a, .int b])) (D.py (.tup [.int c, .int d])) && PyData.eqvAll (D.pyL (prs ps)) (D.pyL (prs qs))) = _
    rw [eqv_pair, eqvAll_prs ps qs]
    by_cases h1 : (a, b) = (c, d) <;> by_cases h2 : ps = qs <;> simp [h1, h2]
theorem p_eqPrs {ps qs : List (Int × Int)} {x y : Rs} {k : Rs → Prop} (l : LstOf x (prs ps)) (m : LstOf y (prs qs)) (q : k (.v (.bl (decide (ps = qs))))) : wp2 (rEqP K) x y k := by
  have h1 : PlR 3 x (.list (D.pyL (prs ps))) := by
    cases l
    · exact .v (.lst (n := 2) (prs_pl' ps))
    · exact .b (n := 2) (prs_pl' ps)
  have h2 : PlR 3 y (.list (D.pyL (prs qs))) := by
    cases m
    · exact .v (.lst (n := 2) (prs_pl' qs))
    · exact .b (n := 2) (prs_pl' qs)
  refine p_eqP h1 h2 (by decide) ?_
  show k (.v (.bl (PyData.eqvAll (D.pyL (prs ps)) (D.pyL (prs qs)))))
  rw [eqvAll_prs]; exact q
/-- no ValueSet -/
def Noi (C : Addr) (y : Rs) : Prop := ∃ T, y.ty = some T ∧ T ∈ ["NoneType", "bool", "int", "str", "list", "tuple", "dict"]
def eqC (a : Ad) : Ct Nat := fun _ g rs k _ => ∃ (n : Int) (ps : List (Int × Int)) (y : Rs), rs = [.v (.ins a.C_ValueSet (vsF n (prs ps))), y] ∧
  ((∃ m qs, y = .v (.ins a.C_ValueSet (vsF m (prs qs))) ∧ k (.bl (decide (n = m) && decide (ps = qs))) g) ∨ (Noi a.C_ValueSet y ∧ k (.bl false) g))
theorem ok_eq (T : Tx K mg a) : FnOk P w K mg base CX0 1 a.f_ValueSetU_eqU a.d_ValueSetU_eqU ["self", "other"] (mkSp (eqC a)) := by
  refine Fun_t T.F_ValueSetU_eqU sc_ValueSetU_eqU (fun W g rs k x ⟨n, ps, y, e, _⟩ => by rw [e]; rfl) fun cdv A outer s H E W g rs kd x hr ⟨n, ps, y, e, h⟩ => ?_
  subst e
  refine ⟨_, (pss_one (ps_ret (pe_and (pe_callB (call_isiK (K := K) rfl) rfl T.n_isinstance (by decide +kernel) (pa_cons (pv 1) (pa_cons (pe_glob (v := .ref a.C_ValueSet) rfl T.g_ValueSet rfl) pa_nil))) (pe_and (pe_cmpR (op_eqK (K := K) rfl (hu64 hr)) (pe_fldK (K := K) rfl (pv 0) rfl) (pe_fldK (K := K) rfl (pv 1) rfl) (nomark _)) (pe_one (pe_cmpR (op_eqK (K := K) rfl (hu64 hr)) (pe_fldK (K := K) rfl (pv 0) rfl) (pe_fldK (K := K) rfl (pv 1) rfl) (nomark _))))))), ?_⟩
  refine s_ret (e_andV (e_cb (a_cons (e_var rfl (a_cons (e_raw (a_nil ?_)))))))
  rcases h with ⟨m, qs, rfl, k⟩ | ⟨⟨t, ht, hm⟩, k⟩
  · refine c_isiSame T.it_ValueSet ⟨_, rfl, fun _ => ?_, fun z => nomatch z⟩
    refine e_andV (e_op (e_fld (e_var rfl ⟨_, _, _, rfl, T.cl_ValueSet, T.na_ValueSet__size, rfl, e_fld (e_var rfl ⟨_, _, _, rfl, T.cl_ValueSet, T.na_ValueSet__size, rfl, p_eqI ⟨_, rfl, fun b => ?_, fun b => ?_⟩⟩)⟩)))
    · have b' : decide (n = m) = true := b
      rw [b', Bool.true_and] at k
      exact e_op (e_fld (e_var rfl ⟨_, _, _, rfl, T.cl_ValueSet, T.na_ValueSet__stretches, rfl, e_fld (e_var rfl ⟨_, _, _, rfl, T.cl_ValueSet, T.na_ValueSet__stretches, rfl, p_eqPrs .v .v ⟨_, rfl, k⟩⟩)⟩))
    · have b' : decide (n = m) = false := b
      rw [b', Bool.false_and] at k
      exact ⟨_, rfl, k⟩
  · exact c_isiB ⟨T.cl_ValueSet.hd, T.ty_ValueSet⟩ ht hm ⟨_, rfl, (fun z => nomatch z), fun _ => ⟨_, rfl, k⟩⟩
end
end TL
set_option Elab.async false
set_option linter.all false
set_option maxRecDepth 100000
namespace TL
open PySem PySem.Spec L2
section
local macro_rules
  | `(tactic| wp_step) => `(tactic| with_reducible first
    | refine s_seq ?_ | refine s_asg ?_ | refine s_ret ?_ | refine s_next ?_ | refine s_if ?_ | refine t_test ?_ | refine t_B ?_ | refine t_and ?_ | refine t_or ?_ | refine t_not ?_
    | refine e_op ?_ | refine e_int ?_ | refine e_bl ?_ | refine e_cb ?_ | refine a_cons ?_ | refine a_nil ?_ | refine p_I0i ?_ | refine p_I0b ?_ | refine c_int ?_ | refine p_Ii ?_ ?_
    | refine e_call ?_ | refine e_un ?_ | refine p_Ui ?_ | refine e_non ?_ | refine p_eqI ?_ | refine p_neI ?_ | (refine e_var (r := ?vr) ?va ?vb; case va => with_unfolding_all exact rfl) | (refine e_varO (ds := ?vr) ?va ?vb; case va => with_unfolding_all exact rfl) | refine e_raw ?_)
variable {P : Program} {w : World} {K : PySem.W.Frag} {mg : Str → Option Value} {base : Heap} {a : Ad}
/-! ### _law_tape -/
def law_tapeC (K : PySem.W.Frag) : Cn Nat := fun _ g rs k => ∃ (ns : List Int) (i : Nat), rs = [.v (.scr K ns), .v (.int i)] ∧ i < 3 ∧ ∀ d m : Int, 0 ≤ d → 0 ≤ m → m < 2 ^ 200 → k ([d, m, 0].map D.int) g
theorem ok_law_tape (T : Tx K mg a) : FnOk P w K mg base CX0 1 a.f__law_tape a.d__law_tape ["script", "k"] (mkSpN (law_tapeC K)) := by
  refine Fun_tN T.F__law_tape sc__law_tape (fun W g rs k ⟨ns, i, e, _⟩ => by rw [e]; rfl) fun cdv A outer s H E W g rs kd hr ⟨ns, i, e, hi, k⟩ => ?_
  subst e
  refine ⟨_, _, (pss_cons (ps_set (i := 2) sc__law_tape.nd rfl (Or.inl rfl) (pe_ifExp (pt_cmpR op_lt (pv 1) (pe_callB (cr_lenK (K := K) rfl) rfl T.n_len (by decide +kernel) (pa_cons (pv 0) pa_nil)) (nomark _)) (pe_callB cr_abs rfl T.n_abs (by decide +kernel) (pa_cons (pe_ix (ix_seqK (K := K) rfl) (pv 0) (pv 1) (fun _ _ => rfl)) pa_nil)) pe_int))
      (pss_one (ps_ret (pe_lst (pa_cons (pe_callB (cr_max2 rfl) rfl T.n_max (by decide +kernel) (pa_cons pe_int (pa_cons (pe_op op_sub (pv 2) (pe_op op_powW pe_int pe_int)) pa_nil))) (pa_cons (pe_op op_add (pe_op op_mulW (pe_op op_mod (pe_callTy cr_int rfl T.n_int PyProof.Rows.boot_int (pa_cons (pv 2) pa_nil)) (pe_op op_add (pe_op op_powW pe_int pe_int) pe_int)) pe_int) (pv 1)) (pa_cons pe_int pa_nil))))))), ?_⟩
  have pw : ∀ {ρ : Rho} {b n : Int} {k : Rs → Nat → Prop}, CPowW b n → k (.v (.int (b ^ n.toNat))) g → wpE W H g ρ (tOp (rI CPowW fun i j => V.int (i ^ j.toNat)) (tC (V.int b)) (tC (V.int n))) k := fun c q => e_op (e_int (e_int (p_Ii c q)))
  have rest : ∀ c : Int, 0 ≤ c → wpN W H g [.v (.scr K ns), .v (.int i), .v (.int c)] (tLst (tCons (tCB rMax2 (tCons (tC (.int 0)) (tCons (tOp (rI0 fun i j => .int (i - j)) (tVar 2) (tOp (rI CPowW fun i j => V.int (i ^ j.toNat)) (tC (.int 10)) (tC (.int 18)))) tNil)))
      (tCons (tOp (rI0 fun i j => .int (i + j)) (tOp (rI CMulW fun i j => .int (i * j)) (tOp (rI (fun _ j => 0 < j) fun i j => V.int (i % j)) (tCB rInt (tCons (tVar 2) tNil)) (tOp (rI0 fun i j => .int (i + j)) (tOp (rI CPowW fun i j => V.int (i ^ j.toNat)) (tC (.int 10)) (tC (.int 36))) (tC (.int 67)))) (tC (.int 71))) (tVar 1)) (tCons (tC (.int 0)) tNil)))) kd := fun c hc => by
    refine n_lst (a_cons (e_cb (a_cons (e_int (a_cons (e_op (e_var rfl (pw (pow_ok (n := 64) (by decide) (by decide) (by decide) (by decide) (by decide)) (p_I0i (a_nil (c_max2 ?_)))))))))))
    refine a_cons (e_op (e_op (e_op (e_cb (a_cons (e_var rfl (a_nil (c_int (e_op (pw (pow_ok (n := 64) (by decide) (by decide) (by decide) (by decide) (by decide)) (e_int (p_I0i (p_Ii (by decide) (e_int (p_Ii ?_ (e_var rfl (p_I0i ?_)))))))))))))))))
    · have h0 : 0 ≤ c % (10 ^ (36 : Int).toNat + 67) := Int.emod_nonneg _ (by decide)
      have h1 : c % (10 ^ (36 : Int).toNat + 67) < 10 ^ (36 : Int).toNat + 67 := Int.emod_lt_of_pos _ (by decide)
      have h2 : (10 ^ (36 : Int).toNat + 67 : Int) ≤ 2 ^ 190 := by decide
      exact wide_mul (a := 191) (b := 64) (by omega) (by decide) (by decide) (by decide) (by decide)
    · have h0 : 0 ≤ c % (10 ^ (36 : Int).toNat + 67) := Int.emod_nonneg _ (by decide)
      have h1 : c % (10 ^ (36 : Int).toNat + 67) < 10 ^ (36 : Int).toNat + 67 := Int.emod_lt_of_pos _ (by decide)
      have h2 : (10 ^ (36 : Int).toNat + 67 : Int) ≤ 2 ^ 190 := by decide
      refine a_cons (e_int (a_nil ⟨_, .cons (.cons (.cons .nil)), (by show 3 ≤ 1000; decide), k _ _ ?_ ?_ ?_⟩))
      · split <;> omega
      · omega
      · omega
  refine s_asg (e_if (t_test (e_op (e_var rfl (e_cb (a_cons (e_var rfl (a_nil (c_lenS (p_I0b ⟨_, rfl, fun b => ?_, fun b => ?_⟩))))))))))
  · have b' : (i : Int) < ns.length := of_decide_eq_true b
    have hl : i < ns.length := by omega
    obtain ⟨z, hz⟩ : ∃ z, ns[i]? = some z := ⟨ns[i], List.getElem?_eq_getElem hl⟩
    refine e_cb (a_cons (e_op (e_var rfl (e_var rfl (p_ixS (z := z) (atI_nat hz) (a_nil (c_abs ⟨_, rfl, rest _ ?_⟩)))))))
    split <;> omega
  · exact e_int ⟨_, rfl, rest 0 (by decide)⟩
/-! ### _law_next -/
def nextC : Ct Nat := fun W g rs k _ => ∃ (p : Addr) (many : Int), rs = [.v (.raw (.ref p)), .v (.int many)] ∧ Up W ∧ Tp W p ∧ 1 ≤ many ∧ many ≤ 2 ^ 200 ∧ g < 2 ^ 60 ∧ ∀ r, 0 ≤ r → r < many → k (.int r) (g + 1)
theorem ok_law_next (T : Tx K mg a) : FnOk P w K mg base CX0 1 a.f__law_next a.d__law_next ["tape", "many"] (mkSp nextC) := by
  refine Fun_t T.F__law_next sc__law_next (fun W g rs k x ⟨p, many, e, _⟩ => by rw [e]; rfl) fun cdv A outer s H E W g rs kd x hr ⟨p, many, e, hu, ht, h1, h2, h3, k⟩ => ?_
  subst e
  refine ⟨_, (pss_cons (ps_if (pt_cmpR op_gt (pe_ix (ix_seqK (K := K) rfl) (pv 0) pe_int (fun _ _ => rfl)) pe_int (nomark _)) (pss_cons (ps_set (i := 2) sc__law_next.nd rfl (Or.inl rfl) (pe_op op_mod (pe_callTy cr_int rfl T.n_int PyProof.Rows.boot_int (pa_cons (pe_ix (ix_seqK (K := K) rfl) (pv 0) pe_int (fun _ _ => rfl)) pa_nil)) (pv 1)))
      (pss_cons (ps_asg (pe_op op_fdivW (pe_ix (ix_seqK (K := K) rfl) (pv 0) pe_int (fun _ _ => rfl)) (pv 1)) (pg_sub (pv 0) pe_int set_list))
      (pss_one (ps_ret (pv 2))))) pss_nil)
      (pss_cons (ps_asg (pe_op op_add (pe_ix (ix_seqK (K := K) rfl) (pv 0) pe_int (fun _ _ => rfl)) pe_int) (pg_sub (pv 0) pe_int set_list))
      (pss_cons (ps_set (i := 3) sc__law_next.nd rfl (Or.inl rfl) (pe_op op_mod (pe_callTy cr_int rfl T.n_int PyProof.Rows.boot_int (pa_cons (pe_op op_powW (pe_op op_add (pe_ix (ix_seqK (K := K) rfl) (pv 0) pe_int (fun _ _ => rfl)) (pe_op op_mulW pe_int (pe_ix (ix_seqK (K := K) rfl) (pv 0) pe_int (fun _ _ => rfl)))) pe_int) pa_nil)) (pe_op op_add (pe_op op_powW pe_int pe_int) pe_int)))
      (pss_cons (ps_set (i := 3) sc__law_next.nd rfl (Or.inl rfl) (pe_op op_mod (pe_callTy cr_int rfl T.n_int PyProof.Rows.boot_int (pa_cons (pe_op op_powW (pe_op op_add (pv 3) (pe_op op_mulW pe_int (pe_ix (ix_seqK (K := K) rfl) (pv 0) pe_int (fun _ _ => rfl)))) pe_int) pa_nil)) (pe_op op_add (pe_op op_powW pe_int pe_int) pe_int)))
      (pss_one (ps_ret (pe_op op_mod (pe_callTy cr_int rfl T.n_int PyProof.Rows.boot_int (pa_cons (pe_op op_fdivW (pv 3) pe_int) pa_nil)) (pv 1)))))))), ?_⟩
  have hmany : many.natAbs < 2 ^ 201 := by omega
  refine s_seq (s_if (t_test (e_op (e_ixT ht (e_var rfl ⟨rfl, e_int ⟨0, rfl, fun ns gd => ?_⟩⟩)))))
  obtain ⟨d, m, c, rfl, hd, hm, hm2, hc, hc2⟩ := gd
  refine ⟨d, rfl, e_int (p_I0b ⟨_, rfl, fun b => ?_, fun b => ?_⟩)⟩
  · -- digits are left
    have b' : 0 < d := of_decide_eq_true b
    refine s_seq (s_asg (e_op (e_cb (a_cons (e_ixT ht (e_var rfl ⟨rfl, e_int ⟨0, rfl, fun ns gd => ?_⟩⟩))))))
    obtain ⟨d', m', c', rfl, hd', _⟩ := gd
    refine ⟨d', rfl, a_nil (c_int (e_var rfl (p_Ii (by omega) ⟨_, rfl, ?_⟩)))⟩
    refine s_seq (s_setT (i := 0) ht hu rfl (e_op (e_ixT ht (e_var rfl ⟨rfl, e_int ⟨0, rfl, fun ns gd => ?_⟩⟩))))
    obtain ⟨d2, m2, c2, rfl, hd2, hm2, hm22, hc2, hc22⟩ := gd
    refine ⟨d2, rfl, e_var rfl (p_Ii (wide_div (by omega) hmany (by decide) (by decide)) ⟨_, rfl, e_int ⟨0, g + 1, rfl, Nat.le_succ _, fun ns gd => ?_, ?_⟩⟩)⟩
    · obtain ⟨d3, m3, c3, rfl, hd3, hm3, hm33, hc3, hc33⟩ := gd
      exact ⟨0, rfl, _, m3, c3, rfl, Int.ediv_nonneg hd2 (by omega), hm3, hm33, hc3, by push_cast; omega⟩
    · exact s_ret (e_var rfl ⟨_, rfl, k _ (Int.emod_nonneg _ (by omega)) (Int.emod_lt_of_pos _ (by omega))⟩)
  · refine s_next ?_
    refine s_seq (s_setT (i := 0) ht hu rfl (e_op (e_ixT ht (e_var rfl ⟨rfl, e_int ⟨2, rfl, fun ns gd => ?_⟩⟩))))
    obtain ⟨d2, m2, c2, rfl, hd2, hm2, hm22, hc2, hc22⟩ := gd
    refine ⟨c2, rfl, e_int (p_I0i ⟨_, rfl, e_int ⟨2, g + 1, rfl, Nat.le_succ _, fun ns gd => ?_, ?_⟩⟩)⟩
    · obtain ⟨d3, m3, c3, rfl, hd3, hm3, hm33, hc3, hc33⟩ := gd
      exact ⟨2, rfl, d3, m3, c2 + 1, rfl, hd3, hm3, hm33, by omega, by push_cast; omega⟩
    have rd : ∀ {ρ : Rho} {F : PySem.W.Frag} {k : Rs → Nat → Prop}, ρ[0]? = some (.r (.v (.raw (.ref p)))) → (∀ c : Int, 0 ≤ c → c ≤ 2 ^ 60 → k (.v (.int c)) (g + 1)) → wpE W H (g + 1) ρ (tOp (rIx F) (tVar 0) (tC (V.int 2))) k := fun h0 q => e_ixT ht (e_var h0 ⟨rfl, e_int ⟨2, rfl, fun ns ⟨d, m, c, en, _, _, _, h8, h9⟩ => by subst en; exact ⟨c, rfl, q c h8 (by push_cast at h9; omega)⟩⟩⟩)
    have pw : ∀ {ρ : Rho} {n : Int} {k : Rs → Nat → Prop}, k (.v (.int ((10 : Int) ^ (64 : Int).toNat))) (g + 1) → wpE W H (g + 1) ρ (tOp (rI CPowW fun i j => V.int (i ^ j.toNat)) (tC (V.int 10)) (tC (V.int 64))) k := fun q => e_op (e_int (e_int (p_Ii (pow_ok (n := 64) (by decide) (by decide) (by decide) (by decide) (by decide)) q)))
    refine s_seq (s_asg (e_op (e_cb (a_cons (e_op (e_op (e_ixT ht (e_var rfl ⟨rfl, e_int ⟨1, rfl, fun ns gd => ?_⟩⟩))))))))
    obtain ⟨d4, m4, c4, rfl, hd4, hm4, hm44, hc4, hc44⟩ := gd
    refine ⟨m4, rfl, e_op (e_int (rd rfl fun c5 l5 u5 => ?_))⟩
    refine p_Ii (wide_mul (a := 61) (b := 61) (by decide) (by omega) (by decide) (by decide) (by decide)) ?_
    repeat wp_step
    · exact pow_ok (n := 201) (by decide) (by decide) (by decide) (by decide) (by omega)
    repeat wp_step
    · exact pow_ok (n := 64) (by decide) (by decide) (by decide) (by decide) (by decide)
    repeat wp_step
    · decide
    refine ⟨_, rfl, ?_⟩
    generalize ez : (m4 + 1000000033 * c5) ^ Int.toNat 3 % (10 ^ Int.toNat 64 + 57) = z
    have z0 : 0 ≤ z := by rw [← ez]; exact Int.emod_nonneg _ (by decide)
    have z1 : z < 2 ^ 220 := by rw [← ez]; exact Int.lt_trans (Int.emod_lt_of_pos _ (by decide)) (by decide)
    refine s_seq (s_asg (e_op (e_cb (a_cons (e_op (e_op (e_var rfl (e_op (e_int (rd rfl fun c6 l6 u6 => ?_))))))))))
    refine p_Ii (wide_mul (a := 61) (b := 61) (by decide) (by omega) (by decide) (by decide) (by decide)) ?_
    repeat wp_step
    · exact pow_ok (n := 221) (by decide) (by decide) (by decide) (by decide) (by omega)
    repeat wp_step
    · exact pow_ok (n := 64) (by decide) (by decide) (by decide) (by decide) (by decide)
    repeat wp_step
    · decide
    refine ⟨_, rfl, ?_⟩
    repeat wp_step
    · exact wide_div (b := 64) (by decide) (by decide) (by decide) (by decide)
    repeat wp_step
    · omega
    exact ⟨_, rfl, k _ (Int.emod_nonneg _ (by omega)) (Int.emod_lt_of_pos _ (by omega))⟩
/-! ### _law_stretched -/
theorem p_neNil {x : Rs} {ds : List D} {k : Rs → Prop} (l : LstOf x ds) (h : ∀ d ∈ ds, Pl 2 d) (q : k (.v (.bl (!decide (ds = []))))) : wp2 (rNeP K) x (.v (.lst [])) k := by
  have hp : PlR 3 x (.list (D.pyL ds)) := by
    cases l
    · exact .v (.lst h)
    · exact .b h
  have e : (!PyData.eqv (.list (D.pyL ds)) (D.py (.lst []))) = !decide (ds = []) := by
    rw [← eqv_nil]; rfl
  exact p_neP hp (.v (.lst (n := 1) (fun _ z => nomatch z))) (by decide) (by rw [e]; exact q)
def stp (f : List (Int × Int)) (v : Int) : List (Int × Int) := match f.getLast? with
  | some p => if p.2 + 1 = v then f.dropLast ++ [(p.1, v)] else f ++ [(v, v)]
  | none => [(v, v)]
def stl (vs : List Int) : List (Int × Int) := vs.foldl stp []
theorem stl_next {vs : List Int} {i : Nat} {v : Int} (h : vs[i]? = some v) : stl (vs.take (i + 1)) = stp (stl (vs.take i)) v := by
  unfold stl
  rw [TL.take_next h, List.foldl_append]; rfl
theorem stp_end (ps : List (Int × Int)) (f l v : Int) : stp (ps ++ [(f, l)]) v = if l + 1 = v then ps ++ [(f, v)] else (ps ++ [(f, l)]) ++ [(v, v)] := by
  unfold stp
  rw [List.getLast?_append]
  simp
theorem stp_nil (v : Int) : stp [] v = [(v, v)] := rfl
theorem stp_len (f : List (Int × Int)) (v : Int) : (stp f v).length ≤ f.length + 1 := by
  rcases List.eq_nil_or_concat f with rfl | ⟨ps, p, rfl⟩
  · exact Nat.le_refl _
  · rw [List.concat_eq_append]
    obtain ⟨f, l⟩ := p
    rw [stp_end]
    split <;> simp
theorem stl_len (vs : List Int) (i : Nat) (hi : i ≤ vs.length) : (stl (vs.take i)).length ≤ i := by
  induction i with
  | zero => simp [stl]
  | succ i ih =>
    obtain ⟨v, hv⟩ : ∃ v, vs[i]? = some v := ⟨vs[i], List.getElem?_eq_getElem (by omega)⟩
    rw [stl_next hv]
    exact Nat.le_trans (stp_len _ _) (Nat.succ_le_succ (ih (by omega)))
theorem prs_app (ps qs : List (Int × Int)) : prs (ps ++ qs) = prs ps ++ prs qs := List.map_append
theorem prs_pl {n : Nat} (ps : List (Int × Int)) : ∀ d ∈ prs ps, Pl (n + 1) d := fun d hd => by
  obtain ⟨p, _, rfl⟩ := List.mem_map.mp hd
  refine .tup fun d hd => ?_
  simp at hd
  rcases hd with rfl | rfl <;> exact .int
theorem ixN_last (n : Nat) : ixN (n + 1) (-1) = some n := by
  unfold ixN
  rw [if_neg (by omega), if_pos (by omega)]
  congr 1
  omega
def stretchedC : Ct Nat := fun _ g rs k _ => ∃ vs : List Int, rs = [.v (.lst (vs.map D.int))] ∧ vs.length ≤ 1000 ∧ k (.lst (prs (stl vs))) g
end
end TL
set_option Elab.async false
set_option linter.all false
set_option maxRecDepth 100000
namespace TL
open PySem PySem.Spec L2
section
local macro_rules
  | `(tactic| wp_step) => `(tactic| with_reducible first
    | refine s_seq ?_ | refine s_asg ?_ | refine s_ret ?_ | refine s_next ?_ | refine s_if ?_ | refine t_test ?_ | refine t_B ?_ | refine t_and ?_ | refine t_or ?_ | refine t_not ?_
    | refine e_op ?_ | refine e_int ?_ | refine e_bl ?_ | refine e_cb ?_ | refine a_cons ?_ | refine a_nil ?_ | refine p_I0i ?_ | refine p_I0b ?_ | refine c_int ?_ | refine p_Ii ?_ ?_
    | refine e_call ?_ | refine e_un ?_ | refine p_Ui ?_ | refine e_non ?_ | refine p_eqI ?_ | refine p_neI ?_ | (refine e_var (r := ?vr) ?va ?vb; case va => with_unfolding_all exact rfl) | (refine e_varO (ds := ?vr) ?va ?vb; case va => with_unfolding_all exact rfl) | refine e_raw ?_)
variable {P : Program} {w : World} {K : PySem.W.Frag} {mg : Str → Option Value} {base : Heap} {a : Ad}
theorem s_cut {G : Type} [Gh G] {W : Wd G} {g : G} {H0 : Hp} {ρ : Rho} {t u : TS} {KK : TK G} (Q : Rho → G → Prop) (h : wpS W H0 g ρ t ⟨Q, KK.rt, KK.bk, KK.ct⟩) (h2 : ∀ ρ' g', Q ρ' g' → wpS W H0 g' ρ' u KK) : wpS W H0 g ρ (tSeq t u) KK :=
  s_seq (h.mono h2 (fun _ _ q => q) (fun _ _ q => q) fun _ _ q => q)
/-- values of a small column, ascending -/
structure SetIn (n : Int) (vs : List Int) : Prop where
  asc : vs.Pairwise (· < ·)
  bd : ∀ v ∈ vs, 0 ≤ v ∧ v < n
theorem asc_len : ∀ (m : Nat) (lo : Int) (vs : List Int), vs.Pairwise (· < ·) → (∀ v ∈ vs, lo ≤ v ∧ v < lo + m) → vs.length ≤ m
  | _, _, [], _, _ => Nat.zero_le _
  | 0, lo, v :: vs, _, h => by have := h v List.mem_cons_self; omega
  | m + 1, lo, v :: vs, p, h => by
    obtain ⟨p1, p2⟩ := List.pairwise_cons.mp p
    have h0 := h v List.mem_cons_self
    have := asc_len m (lo + 1) vs p2 fun u hu => by
      have h1 := p1 u hu
      have h2 := h u (List.mem_cons_of_mem _ hu)
      push_cast at h2
      omega
    rw [List.length_cons]; omega
theorem SetIn.len {n : Nat} {vs : List Int} (h : SetIn n vs) : vs.length ≤ n := asc_len n 0 vs h.asc fun v hv => by have := h.bd v hv; omega
def smallC : Ct Nat := fun W g rs k _ => ∃ (p : Addr) (n : Nat), rs = [.v (.raw (.ref p)), .v (.int n)] ∧ Up W ∧ Tp W p ∧ 1 ≤ n ∧ n ≤ 41 ∧ g + 100 < 2 ^ 60 ∧ ∀ vs : List Int, SetIn n vs → k (.lst (vs.map D.int)) (g + 100)
/-! ### _law_great -/
/-- stretches of a set of a column of size n -/
structure OkR (n : Int) (ps : List (Int × Int)) : Prop where
  bd : ∀ p ∈ ps, 0 ≤ p.1 ∧ p.1 ≤ p.2 ∧ p.2 < n
  ap : ps.Pairwise fun p q => p.2 + 1 < q.1
theorem rgc2 : ∀ L : Fin 64, RgC 0 ((L.val : Int) - 1) 2 (L.val / 2) := by unfold RgC; decide +kernel
theorem cut12 (ds : List D) : TL.cut ds none (some 12) = ds.take 12 := by
  unfold TL.cut
  have e : HT.sIx ds.length ds.length (some 12) = min 12 ds.length := HT.sIx_nat ds.length ds.length 12
  have e0 : HT.sIx ds.length 0 none = 0 := rfl
  rw [e, e0, List.drop_zero, Nat.sub_zero]
  rcases Nat.le_total 12 ds.length with h | h
  · rw [Nat.min_eq_left h]
  · rw [Nat.min_eq_right h, List.take_length, List.take_of_length_le h]
theorem p_eqNil {x : Rs} {ds : List D} {k : Rs → Prop} (l : LstOf x ds) (h : ∀ d ∈ ds, Pl 2 d) (q : k (.v (.bl (decide (ds = []))))) : wp2 (rEqP K) x (.v (.lst [])) k := by
  have hp : PlR 3 x (.list (D.pyL ds)) := by
    cases l
    · exact .v (.lst h)
    · exact .b h
  have e : PyData.eqv (.list (D.pyL ds)) (D.py (.lst [])) = decide (ds = []) := by
    rw [← eqv_nil]; rfl
  exact p_eqP hp (.v (.lst (n := 1) (fun _ z => nomatch z))) (by decide) (by rw [e]; exact q)
def greatC : Ct Nat := fun W g rs k _ => ∃ (p : Addr) (n : Int), rs = [.v (.raw (.ref p)), .v (.int n)] ∧ Up W ∧ Tp W p ∧ 1 ≤ n ∧ n ≤ 2 ^ 200 ∧ g + 100 < 2 ^ 60 ∧ ∀ ps : List (Int × Int), OkR n ps → ps.length ≤ 12 → k (.lst (prs ps)) (g + 100)
theorem ok_law_great (T : Tx K mg a) : FnOk P w K mg base CX0 2 a.f__law_great a.d__law_great ["tape", "size"] (mkSp greatC) := by
  have G__law_next : FnOk P w K mg base CX0 1 a.f__law_next a.d__law_next ["tape", "many"] (mkSp nextC) := ok_law_next T
  refine Fun_t T.F__law_great sc__law_great (fun W g rs k x ⟨p, n, e, _⟩ => by rw [e]; rfl) fun cdv A outer s H E W g rs kd x hr ⟨p, n, e, hu, ht, n1, n2, hg, k⟩ => ?_
  subst e
  refine ⟨_, (pss_cons (ps_if (pt_cmpR (op_eqK (K := K) rfl (hu64 hr)) (pv 1) pe_int (nomark _)) (pss_one (ps_ret (pe_ifExp (pt_cmpR op_gt (pe_call G__law_next (hr.mono (by decide)) rfl T.g__law_next T.F__law_next.kp T.b__law_next .nil pass0 (pa_cons (pv 0) (pa_cons pe_int pa_nil))) pe_int (nomark _)) (pe_lst (pa_cons (pe_tup (pa_cons pe_int (pa_cons pe_int pa_nil))) pa_nil)) (pe_lst pa_nil)))) pss_nil)
      (pss_cons (ps_set (i := 2) sc__law_great.nd rfl (Or.inl rfl) (pe_callB (cr_sortedSetK (w := w) rfl rfl) rfl T.n_sorted (by decide +kernel) (pa_cons (pe_callTy (cr_setLK (K := K) (w := w) rfl rfl rfl) rfl T.n_set (by decide +kernel) (pa_cons (pe_lc (own := [("turn", 7)]) rfl sc__law_great.nd  (pi_range1 rfl T.n_range (pa_cons (pe_op op_mulW pe_int (pe_call G__law_next (hr.mono (by decide)) rfl T.g__law_next T.F__law_next.kp T.b__law_next .nil pass0 (pa_cons (pv 0) (pa_cons pe_int pa_nil)))) pa_nil)) (blkOk_by (N := ["tape", "size", "spots", "found", "at", "first", "last", "turn"]) (sc := defScope s__law_great) (by decide +kernel)) (fun _ _ _ _ _ => (pg_name (i := 7) (x := "turn") sc__law_great.nd rfl (Or.inl rfl))) (fun _ _ _ _ _ => pts_nil) (fun _ _ _ _ _ => (pe_call G__law_next (hr.mono (by decide)) rfl T.g__law_next T.F__law_next.kp T.b__law_next .nil pass0 (pa_cons (pv 0) (pa_cons (pv 1) pa_nil))))) pa_nil)) pa_nil)))
      (pss_cons (ps_if (pt_cmpR (op_eqK (K := K) rfl (hu64 hr)) (pe_call G__law_next (hr.mono (by decide)) rfl T.g__law_next T.F__law_next.kp T.b__law_next .nil pass0 (pa_cons (pv 0) (pa_cons pe_int pa_nil))) pe_int (nomark _)) (pss_one (ps_set (i := 2) sc__law_great.nd rfl (Or.inl rfl) (pe_callB (cr_sortedSetK (w := w) rfl rfl) rfl T.n_sorted (by decide +kernel) (pa_cons (pe_callTy (cr_setLK (K := K) (w := w) rfl rfl rfl) rfl T.n_set (by decide +kernel) (pa_cons (pe_op (op_plusK (K := K) rfl) (pv 2) (pe_lst (pa_cons pe_int (pa_cons (pe_op op_sub (pv 1) pe_int) pa_nil)))) pa_nil)) pa_nil)))) pss_nil)
      (pss_cons (ps_set (i := 3) sc__law_great.nd rfl (Or.inl rfl) (pe_lst pa_nil))
      (pss_cons (ps_for PassesOwn.never rfl (pi_range3 rfl T.n_range (pa_cons pe_int (pa_cons (pe_op op_sub (pe_callB (cr_lenK (K := K) rfl) rfl T.n_len (by decide +kernel) (pa_cons (pv 2) pa_nil)) pe_int) (pa_cons pe_int pa_nil)))) (pg_name (i := 4) (x := "at") sc__law_great.nd rfl (Or.inl rfl)) (pss_one (ps_if (PW.pt (pw_or (pt_cmpR (op_eqK (K := K) rfl (hu64 hr)) (pv 3) (pe_lst pa_nil) (nomark _)) (pw_or1 (pt_cmpR op_lt (pe_op op_add (pe_ix (ix_seqK (K := K) rfl) (pe_ix (ix_seqK (K := K) rfl) (pv 3) (pe_un un_neg pe_int) (fun _ _ => rfl)) pe_int (fun _ _ => rfl)) pe_int) (pe_ix (ix_seqK (K := K) rfl) (pv 2) (pv 4) (fun _ _ => rfl)) (nomark _))))) (pss_one (ps_expr (pe_bm PySem.F.plainAttrs_list PySem.F.slot_list_append PySem.F.type_list_append mt_append (pv 3) (pa_cons (pe_tup (pa_cons (pe_ix (ix_seqK (K := K) rfl) (pv 2) (pv 4) (fun _ _ => rfl)) (pa_cons (pe_ix (ix_seqK (K := K) rfl) (pv 2) (pe_op op_add (pv 4) pe_int) (fun _ _ => rfl)) pa_nil))) pa_nil)))) pss_nil)))
      (pss_cons (ps_if (pt_cmpR (op_eqK (K := K) rfl (hu64 hr)) (pe_call G__law_next (hr.mono (by decide)) rfl T.g__law_next T.F__law_next.kp T.b__law_next .nil pass0 (pa_cons (pv 0) (pa_cons pe_int pa_nil))) pe_int (nomark _)) (pss_one (ps_setLc (i := 3) (own := [("first", 5), ("last", 6)]) rfl sc__law_great.nd rfl rfl (sw_true rfl rfl rfl (by decide +kernel)) (pi_listK (K := K) rfl (pv 3)) (blkOk_by (N := ["tape", "size", "spots", "found", "at", "first", "last", "turn"]) (sc := defScope s__law_great) (by decide +kernel)) (fun _ _ _ _ _ => (pg_tupK (K := K) (n := 2) rfl rfl (pgs_cons (pg_name (i := 5) (x := "first") sc__law_great.nd rfl (Or.inl rfl)) (pgs_cons (pg_name (i := 6) (x := "last") sc__law_great.nd rfl (Or.inl rfl)) pgs_nil)))) (fun _ _ _ _ _ => pts_nil) (fun _ _ _ _ _ => (pe_tup (pa_cons (pv 5) (pa_cons (pe_ix (ix_seqK (K := K) rfl) (pe_lst (pa_cons (pv 5) (pa_cons (pv 6) pa_nil))) (pe_call G__law_next (hr.mono (by decide)) rfl T.g__law_next T.F__law_next.kp T.b__law_next .nil pass0 (pa_cons (pv 0) (pa_cons pe_int pa_nil))) (fun _ _ => rfl)) pa_nil)))))) pss_nil)
      (pss_one (ps_ret (pe_slice (sl_anyK (K := K) rfl) (pv 3) po_none (po_some pe_int)))))))))), ?_⟩
  have nx : ∀ {W' : Wd Nat} {ρ : Rho} {g' : Nat} {many : Int} {kk : D → Nat → Prop}, In W W' ρ → 1 ≤ many → many ≤ 2 ^ 200 → g' < 2 ^ 60 → (∀ r, 0 ≤ r → r < many → kk (.int r) (g' + 1)) → nextC W' g' [.v (.raw (.ref p)), .v (.int many)] kk noX := fun I h1 h2 h3 h => ⟨p, _, rfl, I.sub.up hu, I.sub.tp ht, h1, h2, h3, h⟩
  refine s_seq (s_if ?_)
  repeat wp_step
  refine ⟨_, rfl, fun b => ?_, fun b => ?_⟩
  · have bn : n = 1 := of_decide_eq_true b
    refine s_retU hu (e_if ?_)
    repeat wp_step
    refine fun W' I => nx I (by decide) (by decide) (by omega) fun r r0 r1 => ?_
    repeat wp_step
    refine ⟨_, rfl, fun _ => ?_, fun _ => ?_⟩
    · refine e_lst (a_cons (e_tup (a_cons (e_int (a_cons (e_int (a_nil ⟨_, .cons (.cons .nil), (by show 2 ≤ 1000; decide), a_nil ⟨_, .cons .nil, (by show 1 ≤ 1000; decide), _, rfl, g + 100, ?_, k [(0, 0)] ⟨?_, ?_⟩ (by decide)⟩⟩)))))))
      · show g + 1 ≤ g + 100
        omega
      · intro q hq
        rw [List.mem_singleton.mp hq, bn]
        decide
      · exact List.pairwise_singleton _ _
    · refine e_lst (a_nil ⟨_, .nil, (by decide), _, rfl, g + 100, ?_, k [] ⟨(fun _ z => nomatch z), .nil⟩ (by decide)⟩)
      show g + 1 ≤ g + 100
      omega
  · refine s_next (s_cut (fun ρ' g' => g' ≤ g + 26 ∧ ∃ vs : List Int, (SetIn n vs ∧ vs.length ≤ 24) ∧ ρ' = [.v (.raw (.ref p)), .v (.int n), .v (.lst (vs.map D.int)), .un, .un, .un, .un, .un]) ?_ ?_)
    · refine s_asg (e_sortedSet (K := K) (w := w) (a_cons (e_new (n_lc (i_rng1 ?_)))))
      repeat wp_step
      refine fun W' I => nx I (by decide) (by decide) (by omega) fun r r0 r1 => ?_
      refine p_Ii (wide_mul (a := 3) (b := 5) (by decide) (by omega) (by decide) (by decide) (by decide)) (a_nil ⟨2 * r, rfl, by omega, by omega, by rw [irs_len]; omega, fun i acc g' => g' = g + 1 + i ∧ ∃ vs : List Int, acc = vs.map D.int ∧ vs.length ≤ i ∧ ∀ v ∈ vs, 0 ≤ v ∧ v < n, ⟨rfl, [], rfl, Nat.le_refl _, fun _ z => nomatch z⟩, ?_, ?_⟩)
      · rintro i d acc g' hi ⟨rfl, vs, rfl, hl, hb⟩
        obtain ⟨hin, rfl⟩ := irs_get hi
        refine ⟨_, gt_name, t_yes ⟨fun _ => ?_, fun z => nomatch z⟩⟩
        have : i < 24 := by omega
        repeat wp_step
        refine fun W' I => nx I n1 n2 (by omega) fun z z0 z1 => ⟨_, rfl, by omega, vs ++ [z], by rw [List.map_append]; rfl, by simp; omega, fun v hv => ?_⟩
        rcases List.mem_append.mp hv with h | h
        · exact hb v h
        · rw [List.mem_singleton.mp h]; exact ⟨z0, z1⟩
      · rintro acc g' ⟨rfl, vs, rfl, hl, hb⟩
        rw [irs_len] at hl
        refine a_nil ⟨_, vs, rfl, .v, by omega, fun out ho hm => ⟨_, rfl, by rw [irs_len]; omega, out, ⟨⟨ho, fun v hv => hb v ((hm v).mp hv)⟩, ?_⟩, rfl⟩⟩
        have hnd : out.Nodup := ho.imp fun h => by omega
        exact Nat.le_trans (hnd.length_le_of_subset fun v hv => (hm v).mp hv) (by omega)
    · rintro ρ' g' ⟨hg', vs, ⟨hv, hl⟩, rfl⟩
      refine s_cut (fun ρ' g' => g' ≤ g + 27 ∧ ∃ vs : List Int, (SetIn n vs ∧ vs.length ≤ 26) ∧ ρ' = [.v (.raw (.ref p)), .v (.int n), .v (.lst (vs.map D.int)), .un, .un, .un, .un, .un]) ?_ ?_
      · refine s_if ?_
        repeat wp_step
        refine fun W' I => nx I (by decide) (by decide) (by omega) fun r r0 r1 => ?_
        repeat wp_step
        refine ⟨_, rfl, fun _ => ?_, fun _ => s_next ⟨by omega, vs, ⟨hv, by omega⟩, rfl⟩⟩
        refine s_asg (e_sortedSet (K := K) (w := w) (a_cons (e_op (e_var rfl (e_lst (a_cons (e_int (a_cons (e_op (e_var rfl (e_int (p_I0i (a_nil ⟨_, .cons (.cons .nil), (by show 2 ≤ 1000; decide), ?_⟩)))))))))))))
        refine p_cat .v .v (by simp; omega) (a_nil ⟨_, vs ++ [0, n - 1], rfl, ?_, by simp; omega, fun out ho hm => ?_⟩)
        · rw [List.map_append]; exact .v
        · refine ⟨_, rfl, by omega, out, ⟨⟨ho, fun v hv' => ?_⟩, ?_⟩, rfl⟩
          · rcases List.mem_append.mp ((hm v).mp hv') with h | h
            · exact hv.bd v h
            · simp at h
              omega
          · have hnd : out.Nodup := ho.imp fun h => by omega
            exact Nat.le_trans (hnd.length_le_of_subset fun v hv => (hm v).mp hv) (by simp; omega)
      · rintro ρ' g' ⟨hg', vs, ⟨hv, hl⟩, rfl⟩
        refine s_seq (s_new (n_lst (a_nil ⟨[], .nil, by decide, ?_⟩)))
        refine s_cut (fun ρ' g'' => g'' = g' ∧ ∃ (ps : List (Int × Int)) (s4 : Sl), OkR n ps ∧ ps.length ≤ 13 ∧ ρ' = [.v (.raw (.ref p)), .v (.int n), .v (.lst (vs.map D.int)), .ow (prs ps), s4, .un, .un, .un]) ?_ ?_
        · refine s_for (i_rng3 ?_)
          repeat wp_step
          refine c_len .v ?_
          repeat wp_step
          refine ⟨0, _, 2, vs.length / 2, rfl, ?_, ?_⟩
          · rw [List.length_map]
            exact rgc2 ⟨vs.length, by omega⟩
          · refine ⟨fun i ρ' g'' => g'' = g' ∧ ∃ (ps : List (Int × Int)) (s4 : Sl), OkR n ps ∧ ps.length ≤ i ∧ (∀ q ∈ ps, ∀ j v, 2 * i ≤ j → vs[j]? = some v → q.2 < v) ∧ ρ' = [.v (.raw (.ref p)), .v (.int n), .v (.lst (vs.map D.int)), .ow (prs ps), s4, .un, .un, .un],
              ⟨rfl, [], .un, ⟨(fun _ z => nomatch z), .nil⟩, Nat.le_refl _, (fun _ z => nomatch z), rfl⟩, ?_, ?_⟩
            · rintro i d ρ' g'' hi ⟨rfl, ps, s4, ho, hpl, hb, rfl⟩
              obtain ⟨hin, rfl⟩ := intsC_get hi
              have ei : (0 + (i : Int) * 2) = ((2 * i : Nat) : Int) := by push_cast; omega
              rw [ei]
              refine g_name ?_
              obtain ⟨x, hx⟩ : ∃ x, vs[2 * i]? = some x := ⟨vs[2 * i], List.getElem?_eq_getElem (by omega)⟩
              obtain ⟨y, hy⟩ : ∃ y, vs[2 * i + 1]? = some y := ⟨vs[2 * i + 1], List.getElem?_eq_getElem (by omega)⟩
              have xin := hv.bd x (List.mem_of_getElem? hx)
              have yin := hv.bd y (List.mem_of_getElem? hy)
              have inc : ∀ {j k : Nat} {u v : Int}, j < k → vs[j]? = some u → vs[k]? = some v → u < v := fun {j k u v} hjk hj hk => by
                obtain ⟨h1, rfl⟩ := List.getElem?_eq_some_iff.mp hj
                obtain ⟨h2, rfl⟩ := List.getElem?_eq_some_iff.mp hk
                exact List.pairwise_iff_getElem.mp hv.asc j k h1 h2 hjk
              have xy : x < y := inc (by omega) hx hy
              have ix : L2.atI (vs.map D.int) ((2 * i : Nat) : Int) = some (.int x) := atI_nat (by rw [List.getElem?_map, hx]; rfl)
              have iy : L2.atI (vs.map D.int) (((2 * i : Nat) : Int) + 1) = some (.int y) := by
                have : (((2 * i : Nat) : Int) + 1) = ((2 * i + 1 : Nat) : Int) := by push_cast; omega
                rw [this]
                exact atI_nat (by rw [List.getElem?_map, hy]; rfl)
              have keep : ∀ q ∈ ps, ∀ j v, 2 * (i + 1) ≤ j → vs[j]? = some v → q.2 < v := fun q hq j v hj => hb q hq j v (by omega)
              have add : (∀ q ∈ ps, q.2 + 1 < x) → wpS W H g'' [.v (.raw (.ref p)), .v (.int n), .v (.lst (vs.map D.int)), .ow (prs ps), .v (.int ((2 * i : Nat) : Int)), .un, .un, .un] (tDrop (tBM K "list" rAppend (tVar 3) (tCons (tTup (tCons (tOp (rIx K) (tVar 2) (tVar 4)) (tCons (tOp (rIx K) (tVar 2) (tOp (rI0 fun i j => V.int (i + j)) (tVar 4) (tC (.int 1)))) tNil))) tNil)))
                  ⟨fun ρ' g3 => g3 = g'' ∧ ∃ (ps : List (Int × Int)) (s4 : Sl), OkR n ps ∧ ps.length ≤ i + 1 ∧ (∀ q ∈ ps, ∀ j v, 2 * (i + 1) ≤ j → vs[j]? = some v → q.2 < v) ∧ ρ' = [.v (.raw (.ref p)), .v (.int n), .v (.lst (vs.map D.int)), .ow (prs ps), s4, .un, .un, .un], fun _ _ => False, fun _ _ => False, fun _ _ => False⟩ := fun hap => by
                refine s_app (i := 3) (ds := prs ps) rfl (by unfold prs; rw [List.length_map]; omega) (e_tup ?_)
                repeat wp_step
                refine p_ix .v ix ?_
                repeat wp_step
                refine p_ix .v iy ?_
                repeat wp_step
                refine ⟨_, .cons (.cons .nil), (by show 2 ≤ 1000; decide), _, rfl, rfl, ps ++ [(x, y)], .v (.int ((2 * i : Nat) : Int)), ⟨fun q hq => ?_, ?_⟩, by simp; omega, fun q hq j v hj hjv => ?_, by rw [prs_app]; rfl⟩
                · rcases List.mem_append.mp hq with h | h
                  · exact ho.bd q h
                  · rw [List.mem_singleton.mp h]
                    show 0 ≤ x ∧ x ≤ y ∧ y < n
                    omega
                · refine List.pairwise_append.mpr ⟨ho.ap, List.pairwise_singleton _ _, fun q hq r hr' => ?_⟩
                  rw [List.mem_singleton.mp hr']
                  exact hap q hq
                · rcases List.mem_append.mp hq with h | h
                  · exact keep q h j v hj hjv
                  · rw [List.mem_singleton.mp h]
                    exact inc (by omega) hy hjv
              refine s_if (t_or (t_test ?_))
              refine e_op (e_varO (ds := prs ps) rfl (e_lst (a_nil ⟨[], .nil, by decide, p_eqNil .b (prs_pl _) ⟨_, rfl, fun b => ⟨fun _ => ?_, fun z => nomatch z⟩, fun b => ?_⟩⟩)))
              · have e0 : ps = [] := by
                  have := of_decide_eq_true b
                  cases ps with
                  | nil => rfl
                  | cons q qs => cases this
                exact (add (by rw [e0]; exact fun _ z => nomatch z)).mono (fun _ _ q => q) (fun _ _ q => q.elim) (fun _ _ q => q.elim) (fun _ _ q => q.elim)
              · rcases List.eq_nil_or_concat ps with e0 | ⟨qs, q, e0⟩
                · rw [e0] at b; cases b
                · rw [List.concat_eq_append] at e0
                  obtain ⟨f, l⟩ := q
                  have last : L2.atI (prs ps) (-1) = some (.tup [.int f, .int l]) := by rw [e0, prs_app]; exact atI_last _ _
                  refine t_test ?_
                  repeat wp_step
                  refine p_ix .b last ?_
                  repeat wp_step
                  refine p_ix .t rfl ?_
                  repeat wp_step
                  refine p_ix .v ix ?_
                  repeat wp_step
                  refine ⟨_, rfl, fun b2 => ?_, fun b2 => s_next ⟨rfl, ps, _, ho, by omega, keep, rfl⟩⟩
                  have hlx : l + 1 < x := of_decide_eq_true b2
                  refine (add fun q hq => ?_).mono (fun _ _ q => q) (fun _ _ q => q.elim) (fun _ _ q => q.elim) (fun _ _ q => q.elim)
                  rw [e0] at hq ho
                  rcases List.mem_append.mp hq with h | h
                  · have h1 := (List.pairwise_append.mp ho.ap).2.2 q h (f, l) List.mem_cons_self
                    have h2 := ho.bd (f, l) (List.mem_append_right _ List.mem_cons_self)
                    have h3 : q.2 + 1 < f := h1
                    have h4 : f ≤ l := h2.2.1
                    omega
                  · rw [List.mem_singleton.mp h]; exact hlx
            · rintro ρ' g'' ⟨rfl, ps, s4, ho, hpl, hb, rfl⟩
              rw [intsC_len] at hpl
              exact ⟨rfl, ps, s4, ho, by omega, rfl⟩
        · rintro ρ' g'' ⟨rfl, ps, s4, ho, hpl, rfl⟩
          refine s_shr 3 (ds := prs ps) rfl ?_
          refine s_cut (fun ρ' g3 => g3 ≤ g'' + 15 ∧ ∃ ps : List (Int × Int), OkR n ps ∧ ρ' = [.v (.raw (.ref p)), .v (.int n), .v (.lst (vs.map D.int)), .v (.lst (prs ps)), s4, .un, .un, .un]) ?_ ?_
          · refine s_if ?_
            repeat wp_step
            refine fun W' I => nx I (by decide) (by decide) (by omega) fun r r0 r1 => ?_
            repeat wp_step
            refine ⟨_, rfl, fun _ => ?_, fun _ => s_next ⟨by omega, ps, ho, rfl⟩⟩
            refine s_asg (e_new (n_lc (i_list (e_var rfl ⟨prs ps, rfl, by unfold prs; rw [List.length_map]; omega, fun i acc g3 => g3 = g'' + 1 + i ∧ ∃ qs : List (Int × Int), acc = prs qs ∧ OkR n qs ∧ qs.length = i ∧ ∀ (j : Nat) (q : Int × Int), qs[j]? = some q → ∃ l, ps[j]? = some (q.1, l) ∧ q.2 ≤ l, ⟨rfl, [], rfl, ⟨(fun _ z => nomatch z), .nil⟩, rfl, fun j q z => by simp at z⟩, ?_, ?_⟩))))
            · rintro i d acc g3 hi ⟨rfl, qs, rfl, hqs, hlen, hrel⟩
              unfold prs at hi
              rw [List.getElem?_map] at hi
              cases hp : ps[i]? with
              | none => rw [hp] at hi; cases hi
              | some q =>
                rw [hp] at hi
                cases hi
                obtain ⟨f, l⟩ := q
                have hip : i < ps.length := (List.getElem?_eq_some_iff.mp hp).1
                refine ⟨_, gt_tup2 (by decide), t_yes ⟨fun _ => ?_, fun z => nomatch z⟩⟩
                refine e_tup (a_cons (e_var rfl (a_cons (e_op (e_lst (a_cons (e_var rfl (a_cons (e_var rfl (a_nil ⟨_, .cons (.cons .nil), (by show 2 ≤ 1000; decide), ?_⟩))))))))))
                repeat wp_step
                refine fun W' I => nx I (by decide) (by decide) (by omega) fun r r0 r1 => ?_
                have bd := ho.bd (f, l) (List.mem_of_getElem? hp)
                have fin : ∀ z : Int, f ≤ z → z ≤ l → OkR n (qs ++ [(f, z)]) ∧ ∀ (j : Nat) (q : Int × Int), (qs ++ [(f, z)])[j]? = some q → ∃ l, ps[j]? = some (q.1, l) ∧ q.2 ≤ l := fun z h1 h2 => by
                  refine ⟨⟨fun q hq => ?_, List.pairwise_append.mpr ⟨hqs.ap, List.pairwise_singleton _ _, fun q hq r hr' => ?_⟩⟩, fun j q hj => ?_⟩
                  · rcases List.mem_append.mp hq with h | h
                    · exact hqs.bd q h
                    · rw [List.mem_singleton.mp h]
                      have b1 : 0 ≤ f := bd.1
                      have b3 : l < n := bd.2.2
                      show 0 ≤ f ∧ f ≤ z ∧ z < n
                      omega
                  · rw [List.mem_singleton.mp hr']
                    obtain ⟨j, hj⟩ := List.getElem?_of_mem hq
                    obtain ⟨l', hl', hle⟩ := hrel j q hj
                    have hjl : j < qs.length := (List.getElem?_eq_some_iff.mp hj).1
                    obtain ⟨a1, a2⟩ := List.getElem?_eq_some_iff.mp hl'
                    obtain ⟨b1, b2⟩ := List.getElem?_eq_some_iff.mp hp
                    have := List.pairwise_iff_getElem.mp ho.ap j i a1 b1 (by omega)
                    rw [a2, b2] at this
                    have t2 : l' + 1 < f := this
                    show q.2 + 1 < f
                    omega
                  · by_cases hjl : j < qs.length
                    · rw [List.getElem?_append_left hjl] at hj
                      exact hrel j q hj
                    · have ej : j = i := by
                        have := (List.getElem?_eq_some_iff.mp hj).1
                        simp at this
                        omega
                      subst ej
                      rw [List.getElem?_append_right (by omega), hlen] at hj
                      simp at hj
                      subst hj
                      exact ⟨l, hp, h2⟩
                have cas : r = 0 ∨ r = 1 := by omega
                have bfl : f ≤ l := bd.2.1
                rcases cas with rfl | rfl
                · refine p_ix .v rfl (a_nil ⟨_, .cons (.cons .nil), (by show 2 ≤ 1000; decide), _, rfl, by omega, qs ++ [(f, f)], by rw [prs_app]; rfl, (fin f (by omega) bfl).1, by simp [hlen], (fin f (by omega) bfl).2⟩)
                · refine p_ix .v rfl (a_nil ⟨_, .cons (.cons .nil), (by show 2 ≤ 1000; decide), _, rfl, by omega, qs ++ [(f, l)], by rw [prs_app]; rfl, (fin l bfl (by omega)).1, by simp [hlen], (fin l bfl (by omega)).2⟩)
            · rintro acc g3 ⟨rfl, qs, rfl, hqs, hlen, hrel⟩
              have el : (prs ps).length = ps.length := List.length_map _
              exact ⟨_, rfl, by omega, qs, hqs, rfl⟩
          · rintro ρ' g3 ⟨hg3, ps, ho, rfl⟩
            refine s_retU hu (e_sl (e_var rfl (o_no (o_some (e_int ⟨12, rfl, .inl ⟨prs ps, .v, _, rfl, g + 100, ?_, ?_⟩⟩)))))
            · show g3 ≤ g + 100
              omega
            · rw [cut12]
              have e : (prs ps).take 12 = prs (ps.take 12) := (List.map_take ..).symm
              rw [e]
              refine k _ ⟨fun q hq => ho.bd q (List.mem_of_mem_take hq), ho.ap.sublist (List.take_sublist _ _)⟩ ?_
              rw [List.length_take]; exact Nat.min_le_left _ _
end
end TL
set_option Elab.async false
set_option linter.all false
set_option maxRecDepth 100000
namespace TL
open PySem PySem.Spec L2
def nthGo : Int → List (Int × Int) → Option Int
  | _, [] => none
  | l, p :: ps => if l ≤ p.2 - p.1 then some (p.1 + l) else nthGo (l - (p.2 - p.1 + 1)) ps
/-! ### the values of stretches -/
def blk (f l : Int) : List Int := (List.range (l - f + 1).toNat).map fun (i : Nat) => f + (i : Int)
def vals (ps : List (Int × Int)) : List Int := ps.flatMap fun p => blk p.1 p.2
theorem vals_nil : vals [] = [] := rfl
theorem vals_cons (p : Int × Int) (ps : List (Int × Int)) : vals (p :: ps) = blk p.1 p.2 ++ vals ps := rfl
theorem vals_app (ps qs : List (Int × Int)) : vals (ps ++ qs) = vals ps ++ vals qs := List.flatMap_append
theorem vals_one (p : Int × Int) : vals [p] = blk p.1 p.2 := by rw [vals_cons, vals_nil, List.append_nil]
theorem mem_blk {f l v : Int} : v ∈ blk f l ↔ f ≤ v ∧ v ≤ l := by
  unfold blk
  rw [List.mem_map]
  constructor
  · rintro ⟨i, hi, rfl⟩
    have := List.mem_range.mp hi
    omega
  · rintro ⟨h1, h2⟩
    exact ⟨(v - f).toNat, List.mem_range.mpr (by omega), by omega⟩
theorem mem_vals {ps : List (Int × Int)} {v : Int} : v ∈ vals ps ↔ ∃ p ∈ ps, p.1 ≤ v ∧ v ≤ p.2 := by
  unfold vals
  rw [List.mem_flatMap]
  exact ⟨fun ⟨p, h1, h2⟩ => ⟨p, h1, mem_blk.mp h2⟩, fun ⟨p, h1, h2⟩ => ⟨p, h1, mem_blk.mpr h2⟩⟩
theorem has_vals (ps : List (Int × Int)) (v : Int) : has ps v = decide (v ∈ vals ps) := by
  by_cases h : v ∈ vals ps
  · rw [decide_eq_true h]
    obtain ⟨p, hp, h1, h2⟩ := mem_vals.mp h
    exact List.any_eq_true.mpr ⟨p, hp, by simp [h1, h2]⟩
  · rw [decide_eq_false h]
    refine List.any_eq_false.mpr fun p hp q => h (mem_vals.mpr ⟨p, hp, ?_⟩)
    simpa using q
theorem len_blk {f l : Int} (h : f ≤ l) : ((blk f l).length : Int) = l - f + 1 := by
  unfold blk
  rw [List.length_map, List.length_range]; omega
theorem sum_vals : ∀ {ps : List (Int × Int)}, (∀ p ∈ ps, p.1 ≤ p.2) → (ps.map fun p => p.2 - p.1 + 1).sum = ((vals ps).length : Int)
  | [], _ => rfl
  | p :: ps, h => by
    rw [List.map_cons, List.sum_cons, vals_cons, List.length_append, sum_vals fun q hq => h q (List.mem_cons_of_mem _ hq)]
    push_cast
    rw [len_blk (h p List.mem_cons_self)]
theorem get_blk {f l : Int} {i : Nat} (h : (i : Int) ≤ l - f) : (blk f l)[i]? = some (f + i) := by
  unfold blk
  rw [List.getElem?_map, List.getElem?_range (by omega)]; rfl
theorem nth_vals : ∀ {ps : List (Int × Int)} {i : Int}, (∀ p ∈ ps, p.1 ≤ p.2) → 0 ≤ i → nthGo i ps = (vals ps)[i.toNat]?
  | [], i, _, _ => by rw [vals_nil]; simp [nthGo]
  | p :: ps, i, h, h0 => by
    have hp := h p List.mem_cons_self
    have hl := len_blk hp
    rw [vals_cons]
    by_cases hi : i ≤ p.2 - p.1
    · rw [List.getElem?_append_left (by omega), get_blk (by omega)]
      show (if i ≤ p.2 - p.1 then _ else _) = _
      rw [if_pos hi]
      congr 1
      omega
    · rw [List.getElem?_append_right (by omega)]
      show (if i ≤ p.2 - p.1 then _ else _) = _
      rw [if_neg hi, nth_vals (fun q hq => h q (List.mem_cons_of_mem _ hq)) (by omega)]
      congr 1
      omega
theorem blk_snoc {f l : Int} (h : f ≤ l + 1) : blk f (l + 1) = blk f l ++ [l + 1] := by
  unfold blk
  have e : (l + 1 - f + 1).toNat = (l - f + 1).toNat + 1 := by omega
  rw [e, List.range_succ, List.map_append, List.map_cons, List.map_nil]
  congr 2
  omega
theorem blk_one (v : Int) : blk v v = [v] := by
  unfold blk
  have e : (v - v + 1).toNat = 1 := by omega
  rw [e]
  simp
theorem stl_vals {n : Int} {vs : List Int} (hv : SetIn n vs) : ∀ i, i ≤ vs.length → OkR n (stl (vs.take i)) ∧ vals (stl (vs.take i)) = vs.take i
  | 0, _ => ⟨⟨(fun _ z => by simp [stl] at z), .nil⟩, rfl⟩
  | i + 1, hi => by
    obtain ⟨ho, hq⟩ := stl_vals hv i (by omega)
    obtain ⟨v, hx⟩ : ∃ v, vs[i]? = some v := ⟨vs[i], List.getElem?_eq_getElem (by omega)⟩
    have vb := hv.bd v (List.mem_of_getElem? hx)
    have low : ∀ u ∈ vs.take i, u < v := fun u hu => by
      obtain ⟨j, hj⟩ := List.getElem?_of_mem hu
      have hji : j < i := by
        have := (List.getElem?_eq_some_iff.mp hj).1
        rw [List.length_take] at this
        omega
      rw [List.getElem?_take_of_lt hji] at hj
      obtain ⟨h1, rfl⟩ := List.getElem?_eq_some_iff.mp hj
      obtain ⟨h2, rfl⟩ := List.getElem?_eq_some_iff.mp hx
      exact List.pairwise_iff_getElem.mp hv.asc j i h1 h2 hji
    rw [stl_next hx, TL.take_next hx]
    generalize stl (vs.take i) = ps at ho hq
    rw [← hq] at low
    rw [← hq]
    clear hq
    rcases List.eq_nil_or_concat ps with rfl | ⟨qs, p, rfl⟩
    · rw [stp_nil]
      refine ⟨⟨fun p hp => ?_, List.pairwise_singleton _ _⟩, by rw [vals_one, blk_one, vals_nil]; rfl⟩
      rw [List.mem_singleton.mp hp]
      show 0 ≤ v ∧ v ≤ v ∧ v < n
      omega
    · rw [List.concat_eq_append] at ho low ⊢
      obtain ⟨f, l⟩ := p
      have bd := ho.bd (f, l) (List.mem_append_right _ List.mem_cons_self)
      have b1 : 0 ≤ f := bd.1
      have b2 : f ≤ l := bd.2.1
      have lv : l < v := low l (mem_vals.mpr ⟨(f, l), List.mem_append_right _ List.mem_cons_self, b2, Int.le_refl _⟩)
      have bef : ∀ q ∈ qs, q.2 + 1 < f := fun q hq' => (List.pairwise_append.mp ho.ap).2.2 q hq' (f, l) List.mem_cons_self
      rw [stp_end]
      by_cases h : l + 1 = v
      · rw [if_pos h]
        refine ⟨⟨fun p hp => ?_, List.pairwise_append.mpr ⟨(List.pairwise_append.mp ho.ap).1, List.pairwise_singleton _ _, fun q hq' r hr => ?_⟩⟩, ?_⟩
        · rcases List.mem_append.mp hp with z | z
          · exact ho.bd p (List.mem_append_left _ z)
          · rw [List.mem_singleton.mp z]
            show 0 ≤ f ∧ f ≤ v ∧ v < n
            omega
        · rw [List.mem_singleton.mp hr]; exact bef q hq'
        · rw [vals_app, vals_app, vals_one, vals_one, List.append_assoc, ← h]
          show _ ++ blk f (l + 1) = _ ++ (blk f l ++ [l + 1])
          rw [blk_snoc (by omega)]
      · rw [if_neg h]
        refine ⟨⟨fun p hp => ?_, List.pairwise_append.mpr ⟨ho.ap, List.pairwise_singleton _ _, fun q hq' r hr => ?_⟩⟩, ?_⟩
        · rcases List.mem_append.mp hp with z | z
          · exact ho.bd p z
          · rw [List.mem_singleton.mp z]
            show 0 ≤ v ∧ v ≤ v ∧ v < n
            omega
        · rw [List.mem_singleton.mp hr]
          show q.2 + 1 < v
          rcases List.mem_append.mp hq' with z | z
          · have := bef q z
            omega
          · rw [List.mem_singleton.mp z]
            show l + 1 < v
            omega
        · rw [vals_app (qs ++ [(f, l)]) [(v, v)], vals_one, blk_one]
theorem stl_ok {n : Int} {vs : List Int} (hv : SetIn n vs) : OkR n (stl vs) ∧ vals (stl vs) = vs := by
  have := stl_vals hv vs.length (Nat.le_refl _)
  rwa [List.take_length] at this
theorem fold_blk (qs : List (Int × Int)) (f : Int) (h : ∀ p ∈ qs, p.2 + 1 < f) : ∀ m : Nat, (blk f (f + m)).foldl stp qs = qs ++ [(f, f + m)]
  | 0 => by
    have e : f + ((0 : Nat) : Int) = f := by simp
    rw [e, blk_one]
    show stp qs f = _
    rcases List.eq_nil_or_concat qs with rfl | ⟨rs, p, rfl⟩
    · rfl
    · rw [List.concat_eq_append] at h ⊢
      obtain ⟨x, y⟩ := p
      have : y + 1 < f := h (x, y) (List.mem_append_right _ List.mem_cons_self)
      rw [stp_end, if_neg (by omega)]
  | m + 1 => by
    have e : f + ((m + 1 : Nat) : Int) = (f + m) + 1 := by push_cast; omega
    rw [e, blk_snoc (by omega), List.foldl_append, fold_blk qs f h m]
    show stp (qs ++ [(f, f + m)]) (f + m + 1) = _
    rw [stp_end, if_pos rfl]
theorem stl_of {n : Int} : ∀ (k : Nat) {qs : List (Int × Int)}, OkR n qs → k ≤ qs.length → stl (vals (qs.take k)) = qs.take k
  | 0, _, _, _ => rfl
  | k + 1, qs, h, hk => by
    obtain ⟨p, hp⟩ : ∃ p, qs[k]? = some p := ⟨qs[k], List.getElem?_eq_getElem (by omega)⟩
    obtain ⟨f, l⟩ := p
    have ih := stl_of k h (by omega)
    rw [TL.take_next hp, vals_app, vals_one]
    unfold stl at ih ⊢
    rw [List.foldl_append, ih]
    have bd := h.bd (f, l) (List.mem_of_getElem? hp)
    have b2 : f ≤ l := bd.2.1
    have e : l = f + ((l - f).toNat : Int) := by omega
    show (blk f l).foldl stp _ = _
    rw [e]
    refine fold_blk _ f (fun q hq => ?_) _
    obtain ⟨j, hj⟩ := List.getElem?_of_mem hq
    have hjk : j < k := by
      have := (List.getElem?_eq_some_iff.mp hj).1
      rw [List.length_take] at this
      omega
    rw [List.getElem?_take_of_lt hjk] at hj
    obtain ⟨a1, rfl⟩ := List.getElem?_eq_some_iff.mp hj
    obtain ⟨c1, c2⟩ := List.getElem?_eq_some_iff.mp hp
    have := List.pairwise_iff_getElem.mp h.ap j k a1 c1 hjk
    rw [c2] at this
    exact this
theorem OkR.inc {n : Int} {ps : List (Int × Int)} (h : OkR n ps) {j k : Nat} {p q : Int × Int} (hjk : j < k) (hj : ps[j]? = some p) (hk : ps[k]? = some q) : p.2 + 1 < q.1 := by
  obtain ⟨a1, rfl⟩ := List.getElem?_eq_some_iff.mp hj
  obtain ⟨c1, rfl⟩ := List.getElem?_eq_some_iff.mp hk
  exact List.pairwise_iff_getElem.mp h.ap j k a1 c1 hjk
/-- how many stretches begin up to a value of the j-th one -/
theorem count_at {n : Int} {ps : List (Int × Int)} (h : OkR n ps) {j : Nat} {p : Int × Int} (hj : ps[j]? = some p) {v : Int} (h1 : p.1 ≤ v) (h2 : v ≤ p.2) : (ps.filter fun q => decide (q.1 ≤ v)).length = j + 1 := by
  have hjl : j < ps.length := (List.getElem?_eq_some_iff.mp hj).1
  have e : ps = ps.take (j + 1) ++ ps.drop (j + 1) := (List.take_append_drop _ _).symm
  rw [e, List.filter_append]
  have fa : (ps.take (j + 1)).filter (fun q => decide (q.1 ≤ v)) = ps.take (j + 1) := List.filter_eq_self.mpr fun q hq => by
    obtain ⟨i, hi⟩ := List.getElem?_of_mem hq
    have hij : i < j + 1 := by
      have := (List.getElem?_eq_some_iff.mp hi).1
      rw [List.length_take] at this
      omega
    rw [List.getElem?_take_of_lt hij] at hi
    refine decide_eq_true ?_
    rcases Nat.lt_or_ge i j with z | z
    · have a := h.inc z hi hj
      have b := (h.bd q (List.mem_of_getElem? hi)).2.1
      omega
    · have : i = j := by omega
      subst this
      rw [hj] at hi
      cases hi
      exact h1
  have fb : (ps.drop (j + 1)).filter (fun q => decide (q.1 ≤ v)) = [] := List.filter_eq_nil_iff.mpr fun q hq => by
    obtain ⟨i, hi⟩ := List.getElem?_of_mem hq
    rw [List.getElem?_drop] at hi
    have a := h.inc (show j < j + 1 + i by omega) hj hi
    simp
    omega
  rw [fa, fb, List.append_nil, List.length_take]
  omega
theorem filter12 {n : Int} {ps : List (Int × Int)} (h : OkR n ps) : (vals ps).filter (fun v => decide (((ps.filter fun q => decide (q.1 ≤ v)).length : Int) < 13)) = vals (ps.take 12) := by
  have e : vals ps = vals (ps.take 12) ++ vals (ps.drop 12) := by rw [← vals_app, List.take_append_drop]
  rw [e, List.filter_append]
  have fa : (vals (ps.take 12)).filter (fun v => decide (((ps.filter fun q => decide (q.1 ≤ v)).length : Int) < 13)) = vals (ps.take 12) := List.filter_eq_self.mpr fun v hv => by
    obtain ⟨p, hp, h1, h2⟩ := mem_vals.mp hv
    obtain ⟨j, hj⟩ := List.getElem?_of_mem hp
    have hj12 : j < 12 := by
      have := (List.getElem?_eq_some_iff.mp hj).1
      rw [List.length_take] at this
      omega
    rw [List.getElem?_take_of_lt hj12] at hj
    refine decide_eq_true ?_
    rw [count_at h hj h1 h2]
    omega
  have fb : (vals (ps.drop 12)).filter (fun v => decide (((ps.filter fun q => decide (q.1 ≤ v)).length : Int) < 13)) = [] := List.filter_eq_nil_iff.mpr fun v hv => by
    obtain ⟨p, hp, h1, h2⟩ := mem_vals.mp hv
    obtain ⟨j, hj⟩ := List.getElem?_of_mem hp
    rw [List.getElem?_drop] at hj
    rw [count_at h hj h1 h2]
    simp only [decide_eq_true_eq]
    omega
  rw [fa, fb, List.append_nil]
/-- stretches as the program asks them -/
theorem go_ok {n : Int} : ∀ {ps : List (Int × Int)} {m : Int}, OkR n ps → (∀ p ∈ ps, m ≤ p.1) → strsGo n m (prs ps) = true
  | [], _, _, _ => rfl
  | (f, l) :: ps, m, h, hm => by
    have bd := h.bd (f, l) List.mem_cons_self
    obtain ⟨h1, h2⟩ := List.pairwise_cons.mp h.ap
    have b0 : m ≤ f := hm (f, l) List.mem_cons_self
    have b1 : f ≤ l := bd.2.1
    have b2 : l < n := bd.2.2
    have ih : strsGo n (l + 2) (prs ps) = true := go_ok ⟨fun p hp => h.bd p (List.mem_cons_of_mem _ hp), h2⟩ fun p hp => by
      have : l + 1 < p.1 := h1 p hp
      omega
    show (strOk m n (.v (.tup [.int f, .int l])) && strsGo n (l + 2) (prs ps)) = true
    rw [ih, Bool.and_true]
    show (decide (m ≤ f) && decide (f ≤ l) && decide (l < n)) = true
    simp [b0, b1, b2]
theorem ok_strs {n : Int} {ps : List (Int × Int)} {r : Rs} (l : LstOf r (prs ps)) (h : OkR n ps) (hl : ps.length ≤ 12) : strsOk n r = true := by
  rw [strsOk_of l, go_ok h fun p hp => (h.bd p hp).1, Bool.and_true]
  refine decide_eq_true ?_
  unfold prs
  rw [List.length_map]; exact hl
theorem kn_prs {K : PySem.W.Frag} {ps : List (Int × Int)} {r : Rs} (l : LstOf r (prs ps)) : Kn2 K r := by
  refine ⟨by cases l <;> exact .t (n := "list") rfl (by decide), fun ds l2 d hd => ?_⟩
  have e : ds = prs ps := by cases l <;> cases l2 <;> rfl
  subst e
  obtain ⟨p, _, rfl⟩ := List.mem_map.mp hd
  refine ⟨.t (n := "tuple") rfl (by decide), fun es he e hm => ?_⟩
  cases he
  simp at hm
  rcases hm with rfl | rfl <;> exact kn_int
end TL
set_option Elab.async false
set_option linter.all false
set_option maxRecDepth 100000
namespace TL
open PySem PySem.Spec L2
section
local macro_rules
  | `(tactic| o_reads) => `(tactic| with_reducible first
    | refine s_seq ?_ | refine s_asg ?_ | refine s_ret ?_ | refine s_next ?_ | refine s_if ?_ | refine t_test ?_ | refine t_B ?_ | refine t_and ?_ | refine t_or ?_ | refine t_not ?_
    | refine e_op ?_ | refine e_int ?_ | refine e_bl ?_ | refine e_str ?_ | refine e_cb ?_ | refine a_cons ?_ | refine a_nil ?_ | refine p_I0i ?_ | refine p_I0b ?_ | refine c_int ?_
    | refine e_call ?_ | refine e_make ?_ | refine e_prop ?_ | refine e_un ?_ | refine p_Ui ?_ | refine e_non ?_ | refine p_eqI ?_ | refine p_neI ?_ | refine p_addI ?_ | refine e_raw ?_ | refine e_lst ?_ | refine e_tup ?_ | refine e_andV ?_ | refine e_orV ?_ | refine e_if ?_ | refine e_notV ?_ | refine e_sl ?_ | refine o_some ?_ | refine o_no ?_ | refine e_revL ?_ | (refine Or.inl ⟨_, LstOf.v, ?_⟩)
    | (refine e_var (r := ?vr) ?va ?vb; case va => with_unfolding_all exact rfl) | (refine e_varO (ds := ?vr) ?va ?vb; case va => with_unfolding_all exact rfl) | (refine e_varT (p := ?vr) ?va ?vb; case va => with_unfolding_all exact rfl)
    | (refine p_Ii ?pa ?pb; case pa => first | exact wide_mul (a := 64) (b := 64) (by first | decide | omega) (by first | decide | omega) (by decide) (by decide) (by decide) | exact pow_ok (n := 64) (by decide) (by decide) (by decide) (by decide) (by decide) | decide | omega)
    | (refine ⟨?vd, (?va : Vs _ _), ?vb, ?vc⟩; (case va => first | exact .nil | exact .cons .nil | exact .cons (.cons .nil) | exact .cons (.cons (.cons .nil)) | exact .cons (.cons (.cons (.cons .nil))) | exact .cons (.cons (.cons (.cons (.cons .nil)))) | exact .cons (.cons (.cons (.cons (.cons (.cons .nil))))) | exact .cons (.cons (.cons (.cons (.cons (.cons (.cons .nil)))))) | exact .cons (.cons (.cons (.cons (.cons (.cons (.cons (.cons .nil))))))) | exact .cons (.cons (.cons (.cons (.cons (.cons (.cons (.cons (.cons .nil)))))))) | exact .cons (.cons (.cons (.cons (.cons (.cons (.cons (.cons (.cons (.cons .nil))))))))) | exact .cons (.cons (.cons (.cons (.cons (.cons (.cons (.cons (.cons (.cons (.cons .nil)))))))))) | exact .cons (.cons (.cons (.cons (.cons (.cons (.cons (.cons (.cons (.cons (.cons (.cons .nil))))))))))) | exact .cons (.cons (.cons (.cons (.cons (.cons (.cons (.cons (.cons (.cons (.cons (.cons (.cons .nil)))))))))))) | exact .cons (.cons (.cons (.cons (.cons (.cons (.cons (.cons (.cons (.cons (.cons (.cons (.cons (.cons .nil))))))))))))) | exact .cons (.cons (.cons (.cons (.cons (.cons (.cons (.cons (.cons (.cons (.cons (.cons (.cons (.cons (.cons .nil)))))))))))))) | exact .cons (.cons (.cons (.cons (.cons (.cons (.cons (.cons (.cons (.cons (.cons (.cons (.cons (.cons (.cons (.cons .nil))))))))))))))) | exact .cons (.cons (.cons (.cons (.cons (.cons (.cons (.cons (.cons (.cons (.cons (.cons (.cons (.cons (.cons (.cons (.cons .nil)))))))))))))))) | exact .cons (.cons (.cons (.cons (.cons (.cons (.cons (.cons (.cons (.cons (.cons (.cons (.cons (.cons (.cons (.cons (.cons (.cons .nil)))))))))))))))))); (case vb => with_unfolding_all exact Nat.le_of_ble_eq_true rfl))
    | (refine ⟨_, rfl, fun _ => ?vx, ?no⟩; (case no => (intro z; with_unfolding_all cases z; done))) | (refine ⟨_, rfl, ?no, fun _ => ?vx⟩; (case no => (intro z; with_unfolding_all cases z; done))) | (refine ⟨?no, fun _ => ?vx⟩; (case no => (intro z; with_unfolding_all cases z; done))) | (refine ⟨fun _ => ?vx, ?no⟩; (case no => (intro z; with_unfolding_all cases z; done))) | (refine ⟨_, rfl, fun hb => ?_, fun hb => ?_⟩) | (refine ⟨_, rfl, ?_⟩))
local macro_rules
  | `(tactic| o_readsAll) => `(tactic| repeat o_reads)
variable {P : Program} {w : World} {K : PySem.W.Frag} {mg : Str → Option Value} {base : Heap} {a : Ad}

theorem p_neS {x y : Str} {k : Rs → Prop} (q : k (.v (.bl (!(x == y))))) : wp2 (rNeP K) (.v (.str x)) (.v (.str y)) k := p_neP (m := 1) (n := 1) (.v .str) (.v .str) (by decide) q
theorem p_neSS {x : Str} {k : Rs → Prop} (q : k (.v (.bl false))) : wp2 (rNeP K) (.v (.str x)) (.v (.str x)) k := p_neS (by rw [beq_self_eq_true]; exact q)
theorem p_eqB {x y : Bool} {k : Rs → Prop} (q : k (.v (.bl (x == y)))) : wp2 (rEqP K) (.v (.bl x)) (.v (.bl y)) k := p_eqP (m := 1) (n := 1) (.v .bl) (.v .bl) (by decide) q
theorem p_neB {x y : Bool} {k : Rs → Prop} (q : k (.v (.bl (!(x == y))))) : wp2 (rNeP K) (.v (.bl x)) (.v (.bl y)) k := p_neP (m := 1) (n := 1) (.v .bl) (.v .bl) (by decide) q
theorem p_nePrs {ps qs : List (Int × Int)} {x y : Rs} {k : Rs → Prop} (l : LstOf x (prs ps)) (m : LstOf y (prs qs)) (q : k (.v (.bl (!decide (ps = qs))))) : wp2 (rNeP K) x y k := by
  have h1 : PlR 3 x (.list (D.pyL (prs ps))) := by
    cases l
    · exact .v (.lst (n := 2) (prs_pl' ps))
    · exact .b (n := 2) (prs_pl' ps)
  have h2 : PlR 3 y (.list (D.pyL (prs qs))) := by
    cases m
    · exact .v (.lst (n := 2) (prs_pl' qs))
    · exact .b (n := 2) (prs_pl' qs)
  refine p_neP h1 h2 (by decide) ?_
  show k (.v (.bl (!PyData.eqvAll (D.pyL (prs ps)) (D.pyL (prs qs)))))
  rw [eqvAll_prs]; exact q
theorem rp_two {n w1 w2 : Nat} {d e : D} (h1 : Rp n w1 d) (h2 : Rp n w2 e) : Rp (n + 1) (w1 + w2 + 2) (.lst [d, e]) := by
  obtain ⟨a1, a2, a3, _⟩ := rpAll (n := n) (w := max w1 w2) (ds := [d, e]) fun x hx => by
    simp at hx
    rcases hx with rfl | rfl
    · exact h1.mono (Nat.le_refl _) (Nat.le_max_left _ _)
    · exact h2.mono (Nat.le_refl _) (Nat.le_max_right _ _)
  refine ⟨.lst fun x hx => ?_, a1, a2, a3, ?_⟩
  · simp at hx
    rcases hx with rfl | rfl
    · exact h1.pl
    · exact h2.pl
  · show PyData.weight d.py + 1 + (PyData.weight e.py + 1 + 0) ≤ _
    have := h1.wei
    have := h2.wei
    omega
theorem ok_strs' {n : Int} {ps : List (Int × Int)} (h : OkR n ps) (hl : ps.length ≤ 12) : strsOk n (.v (.lst (prs ps))) = true := ok_strs .v h hl
theorem size_ok {n : Int} (h1 : 1 ≤ n) (h2 : n ≤ 10 ^ 30) : sizeOk (.v (.int n)) = true := by
  show (decide (1 ≤ n) && decide (n ≤ 1000000000000000000000000000000)) = true
  have : (10 : Int) ^ 30 = 1000000000000000000000000000000 := by decide
  rw [this] at h2
  simp [h1, h2]
/-- a set made of its stretches -/
theorem init_ok {n : Int} {ps : List (Int × Int)} {r : Rs} {W' : Wd Nat} {g : Nat} {k : List (Str × D) → Nat → Prop} {x : Value → Nat → Prop} (l : LstOf r (prs ps)) (n1 : 1 ≤ n) (n2 : n ≤ 10 ^ 30) (h : OkR n ps) (hl : ps.length ≤ 12) (q : k (vsF n (prs ps)) g) : initC (K := K) a W' g [.v (.int n), r] k x := by
  refine ⟨_, _, rfl, kn_int, kn_prs l, fun m ds e l2 _ _ => ?_, fun z => ?_⟩
  · cases e
    have e2 : ds = prs ps := by cases l <;> cases l2 <;> rfl
    subst e2
    exact q
  · rcases z with z | ⟨m, e, z⟩
    · rw [size_ok n1 n2] at z; cases z
    · cases e
      rw [ok_strs l h hl] at z; cases z
end
end TL
set_option Elab.async false
set_option linter.all false
set_option maxRecDepth 100000
namespace TL
open PySem PySem.Spec L2
section
local macro_rules
  | `(tactic| o_reads) => `(tactic| with_reducible first
    | refine s_seq ?_ | refine s_asg ?_ | refine s_ret ?_ | refine s_next ?_ | refine s_if ?_ | refine t_test ?_ | refine t_B ?_ | refine t_and ?_ | refine t_or ?_ | refine t_not ?_
    | refine e_op ?_ | refine e_int ?_ | refine e_bl ?_ | refine e_str ?_ | refine e_cb ?_ | refine a_cons ?_ | refine a_nil ?_ | refine p_I0i ?_ | refine p_I0b ?_ | refine c_int ?_
    | refine e_call ?_ | refine e_make ?_ | refine e_prop ?_ | refine e_un ?_ | refine p_Ui ?_ | refine e_non ?_ | refine p_eqI ?_ | refine p_neI ?_ | refine p_addI ?_ | refine e_raw ?_ | refine e_lst ?_ | refine e_tup ?_ | refine e_andV ?_ | refine e_orV ?_ | refine e_if ?_ | refine e_notV ?_ | refine e_sl ?_ | refine o_some ?_ | refine o_no ?_ | refine e_revL ?_ | (refine Or.inl ⟨_, LstOf.v, ?_⟩)
    | (refine e_var (r := ?vr) ?va ?vb; case va => with_unfolding_all exact rfl) | (refine e_varO (ds := ?vr) ?va ?vb; case va => with_unfolding_all exact rfl) | (refine e_varT (p := ?vr) ?va ?vb; case va => with_unfolding_all exact rfl)
    | (refine p_Ii ?pa ?pb; case pa => first | exact wide_mul (a := 64) (b := 64) (by first | decide | omega) (by first | decide | omega) (by decide) (by decide) (by decide) | exact pow_ok (n := 64) (by decide) (by decide) (by decide) (by decide) (by decide) | decide | omega)
    | (refine ⟨?vd, (?va : Vs _ _), ?vb, ?vc⟩; (case va => first | exact .nil | exact .cons .nil | exact .cons (.cons .nil) | exact .cons (.cons (.cons .nil)) | exact .cons (.cons (.cons (.cons .nil))) | exact .cons (.cons (.cons (.cons (.cons .nil)))) | exact .cons (.cons (.cons (.cons (.cons (.cons .nil))))) | exact .cons (.cons (.cons (.cons (.cons (.cons (.cons .nil)))))) | exact .cons (.cons (.cons (.cons (.cons (.cons (.cons (.cons .nil))))))) | exact .cons (.cons (.cons (.cons (.cons (.cons (.cons (.cons (.cons .nil)))))))) | exact .cons (.cons (.cons (.cons (.cons (.cons (.cons (.cons (.cons (.cons .nil))))))))) | exact .cons (.cons (.cons (.cons (.cons (.cons (.cons (.cons (.cons (.cons (.cons .nil)))))))))) | exact .cons (.cons (.cons (.cons (.cons (.cons (.cons (.cons (.cons (.cons (.cons (.cons .nil))))))))))) | exact .cons (.cons (.cons (.cons (.cons (.cons (.cons (.cons (.cons (.cons (.cons (.cons (.cons .nil)))))))))))) | exact .cons (.cons (.cons (.cons (.cons (.cons (.cons (.cons (.cons (.cons (.cons (.cons (.cons (.cons .nil))))))))))))) | exact .cons (.cons (.cons (.cons (.cons (.cons (.cons (.cons (.cons (.cons (.cons (.cons (.cons (.cons (.cons .nil)))))))))))))) | exact .cons (.cons (.cons (.cons (.cons (.cons (.cons (.cons (.cons (.cons (.cons (.cons (.cons (.cons (.cons (.cons .nil))))))))))))))) | exact .cons (.cons (.cons (.cons (.cons (.cons (.cons (.cons (.cons (.cons (.cons (.cons (.cons (.cons (.cons (.cons (.cons .nil)))))))))))))))) | exact .cons (.cons (.cons (.cons (.cons (.cons (.cons (.cons (.cons (.cons (.cons (.cons (.cons (.cons (.cons (.cons (.cons (.cons .nil)))))))))))))))))); (case vb => with_unfolding_all exact Nat.le_of_ble_eq_true rfl))
    | (refine ⟨_, rfl, fun _ => ?vx, ?no⟩; (case no => (intro z; with_unfolding_all cases z; done))) | (refine ⟨_, rfl, ?no, fun _ => ?vx⟩; (case no => (intro z; with_unfolding_all cases z; done))) | (refine ⟨?no, fun _ => ?vx⟩; (case no => (intro z; with_unfolding_all cases z; done))) | (refine ⟨fun _ => ?vx, ?no⟩; (case no => (intro z; with_unfolding_all cases z; done))) | (refine ⟨_, rfl, fun hb => ?_, fun hb => ?_⟩) | (refine ⟨_, rfl, ?_⟩))
local macro_rules
  | `(tactic| o_readsAll) => `(tactic| repeat o_reads)
variable {P : Program} {w : World} {K : PySem.W.Frag} {mg : Str → Option Value} {base : Heap} {a : Ad}

/-! ### sets by their values -/
theorem has_iff {ps : List (Int × Int)} {v : Int} : has ps v = true ↔ ∃ p ∈ ps, p.1 ≤ v ∧ v ≤ p.2 := by
  rw [has_vals, decide_eq_true_iff]; exact mem_vals
theorem has_no {ps : List (Int × Int)} {v : Int} : has ps v = false ↔ ∀ p ∈ ps, ¬ (p.1 ≤ v ∧ v ≤ p.2) := by
  rw [← Bool.not_eq_true, has_iff]
  exact ⟨fun h p hp q => h ⟨p, hp, q⟩, fun h ⟨p, hp, q⟩ => h p hp q⟩
/-- where a stretch begins -/
def strt (ps : List (Int × Int)) (v : Int) : Prop := has ps v = true ∧ has ps (v - 1) = false
theorem strt_iff {n : Int} {ps : List (Int × Int)} (h : OkR n ps) {v : Int} : v ∈ ps.map (·.1) ↔ strt ps v := by
  constructor
  · intro hv
    obtain ⟨p, hp, rfl⟩ := List.mem_map.mp hv
    have b := h.bd p hp
    refine ⟨has_iff.mpr ⟨p, hp, Int.le_refl _, b.2.1⟩, has_no.mpr fun q hq ⟨z1, z2⟩ => ?_⟩
    have bq := h.bd q hq
    rcases pw2 h.ap p hp q hq with e | e | e
    · subst e; omega
    · have e' : p.2 + 1 < q.1 := e
      omega
    · have e' : q.2 + 1 < p.1 := e
      omega
  · rintro ⟨h1, h2⟩
    obtain ⟨p, hp, z1, z2⟩ := has_iff.mp h1
    have := has_no.mp h2 p hp
    exact List.mem_map.mpr ⟨p, hp, by show p.1 = v; omega⟩
theorem fst_asc {n : Int} {ps : List (Int × Int)} (h : OkR n ps) : (ps.map (·.1)).Pairwise (· < ·) := by
  rw [List.pairwise_map]
  refine List.Pairwise.imp_of_mem (fun {p q} hp hq e => ?_) h.ap
  have := h.bd p hp
  have e' : p.2 + 1 < q.1 := e
  omega
theorem snd_asc {n : Int} {ps : List (Int × Int)} (h : OkR n ps) : (ps.map (·.2)).Pairwise (· < ·) := by
  rw [List.pairwise_map]
  refine List.Pairwise.imp_of_mem (fun {p q} hp hq e => ?_) h.ap
  have := h.bd q hq
  have e' : p.2 + 1 < q.1 := e
  omega
theorem len_strt {n : Int} {rs : List (Int × Int)} (h : OkR n rs) (l : List Int) (sub : ∀ v, strt rs v → v ∈ l) : rs.length ≤ l.length := by
  have nd : (rs.map (·.1)).Nodup := (fst_asc h).imp fun e => by omega
  have := nd.length_le_of_subset fun v hv => sub v ((strt_iff h).mp hv)
  rwa [List.length_map] at this
theorem vals_asc {n : Int} : ∀ {ps : List (Int × Int)}, OkR n ps → (vals ps).Pairwise (· < ·)
  | [], _ => .nil
  | p :: ps, h => by
    obtain ⟨h1, h2⟩ := List.pairwise_cons.mp h.ap
    rw [vals_cons, List.pairwise_append]
    refine ⟨?_, vals_asc ⟨fun q hq => h.bd q (List.mem_cons_of_mem _ hq), h2⟩, fun a ha b hb => ?_⟩
    · unfold blk
      rw [List.pairwise_map]
      exact List.pairwise_lt_range.imp fun e => by omega
    · obtain ⟨q, hq, z1, z2⟩ := mem_vals.mp hb
      have := mem_blk.mp ha
      have e := h1 q hq
      omega
theorem vals_in {n : Int} {ps : List (Int × Int)} (h : OkR n ps) : SetIn n (vals ps) := ⟨vals_asc h, fun v hv => by
  obtain ⟨p, hp, h1, h2⟩ := mem_vals.mp hv
  have := h.bd p hp
  omega⟩
theorem has_bd {n : Int} {ps : List (Int × Int)} (h : OkR n ps) {v : Int} (hv : has ps v = true) : 0 ≤ v ∧ v < n := by
  obtain ⟨p, hp, h1, h2⟩ := has_iff.mp hv
  have := h.bd p hp
  omega
theorem stl_self {n : Int} {ps : List (Int × Int)} (h : OkR n ps) : stl (vals ps) = ps := by
  have := stl_of ps.length h (Nat.le_refl _)
  rwa [List.take_length] at this
/-- a set is told by its values -/
theorem okR_ext {n m : Int} {ps qs : List (Int × Int)} (h : OkR n ps) (h' : OkR m qs) (e : ∀ v, has ps v = has qs v) : ps = qs := by
  have e2 : vals ps = vals qs := asc_ext (vals_asc h) (vals_asc h') fun v => by
    have := e v
    rw [has_vals, has_vals] at this
    exact decide_eq_decide.mp this
  rw [← stl_self h, ← stl_self h', e2]
/-- the stretches of ascending values -/
theorem okR_stl {n m : Int} {ps : List (Int × Int)} {vs : List Int} (h : OkR n ps) (hv : SetIn m vs) (e : ∀ v, has ps v = true ↔ v ∈ vs) : stl vs = ps := by
  obtain ⟨h1, h2⟩ := stl_ok hv
  refine okR_ext h1 h fun v => ?_
  rw [has_vals, h2, Bool.eq_iff_iff, decide_eq_true_iff]
  exact (e v).symm
/-! all others -/
def othGo (n : Int) : Int → List (Int × Int) → List (Int × Int)
  | s, [] => if s < n then [(s, n - 1)] else []
  | s, p :: ps => (if s < p.1 then [(s, p.1 - 1)] else []) ++ othGo n (p.2 + 1) ps
def oth (n : Int) (ps : List (Int × Int)) : List (Int × Int) := othGo n 0 ps
theorem othGo_ok {n : Int} : ∀ {ps : List (Int × Int)} {s : Int}, OkR n ps → 0 ≤ s → s ≤ n → (∀ p ∈ ps, s ≤ p.1) →
    OkR n (othGo n s ps) ∧ (∀ q ∈ othGo n s ps, s ≤ q.1) ∧ ∀ v, has (othGo n s ps) v = (decide (s ≤ v) && decide (v < n) && !has ps v)
  | [], s, _, h0, h1, _ => by
    unfold othGo
    split
    · refine ⟨⟨fun q hq => ?_, List.pairwise_singleton _ _⟩, fun q hq => ?_, fun v => ?_⟩
      · rw [List.mem_singleton.mp hq]
        show 0 ≤ s ∧ s ≤ n - 1 ∧ n - 1 < n
        omega
      · rw [List.mem_singleton.mp hq]; exact Int.le_refl _
      · show ((decide (s ≤ v) && decide (v ≤ n - 1)) || false) = (decide (s ≤ v) && decide (v < n) && !false)
        rw [Bool.or_false, Bool.not_false, Bool.and_true, show decide (v ≤ n - 1) = decide (v < n) from decide_eq_decide.mpr (by omega)]
    · refine ⟨⟨(fun _ z => nomatch z), .nil⟩, (fun _ z => nomatch z), fun v => ?_⟩
      show false = (decide (s ≤ v) && decide (v < n) && !false)
      by_cases a : s ≤ v
      · rw [decide_eq_false (show ¬ v < n by omega), Bool.and_false]; rfl
      · rw [decide_eq_false a]; rfl
  | p :: ps, s, h, h0, h1, h2 => by
    have b := h.bd p List.mem_cons_self
    obtain ⟨a1, a2⟩ := List.pairwise_cons.mp h.ap
    have sp := h2 p List.mem_cons_self
    have h' : OkR n ps := ⟨fun q hq => h.bd q (List.mem_cons_of_mem _ hq), a2⟩
    obtain ⟨i1, i2, i3⟩ := othGo_ok (s := p.2 + 1) h' (by omega) (by omega) fun q hq => by have := a1 q hq; omega
    have e : othGo n s (p :: ps) = (if s < p.1 then [(s, p.1 - 1)] else []) ++ othGo n (p.2 + 1) ps := rfl
    have hh : ∀ v, has (p :: ps) v = ((decide (p.1 ≤ v) && decide (v ≤ p.2)) || has ps v) := fun _ => rfl
    have low : ∀ v, v ≤ p.2 → has ps v = false := fun v hv => has_no.mpr fun q hq z => by have := a1 q hq; omega
    rw [e]
    split
    · refine ⟨⟨fun q hq => ?_, ?_⟩, fun q hq => ?_, fun v => ?_⟩
      · rcases List.mem_append.mp hq with hq | hq
        · rw [List.mem_singleton.mp hq]
          show 0 ≤ s ∧ s ≤ p.1 - 1 ∧ p.1 - 1 < n
          omega
        · exact i1.bd q hq
      · refine List.pairwise_append.mpr ⟨List.pairwise_singleton _ _, i1.ap, fun q hq r hr' => ?_⟩
        rw [List.mem_singleton.mp hq]
        have := i2 r hr'
        show p.1 - 1 + 1 < r.1
        omega
      · rcases List.mem_append.mp hq with hq | hq
        · rw [List.mem_singleton.mp hq]; exact Int.le_refl _
        · have := i2 q hq
          omega
      · have : has ([(s, p.1 - 1)] ++ othGo n (p.2 + 1) ps) v = ((decide (s ≤ v) && decide (v ≤ p.1 - 1)) || has (othGo n (p.2 + 1) ps) v) := rfl
        rw [this, i3, hh, Bool.eq_iff_iff]
        simp only [Bool.or_eq_true, Bool.and_eq_true, decide_eq_true_eq, Bool.not_eq_true', Bool.or_eq_false_iff, Bool.and_eq_false_iff, decide_eq_false_iff_not]
        constructor
        · rintro (⟨z1, z2⟩ | ⟨⟨z1, z2⟩, z3⟩)
          · exact ⟨⟨z1, by omega⟩, .inl (by omega), low v (by omega)⟩
          · exact ⟨⟨by omega, z2⟩, .inr (by omega), z3⟩
        · rintro ⟨⟨z1, z2⟩, z3, z4⟩
          by_cases z : v ≤ p.1 - 1
          · exact .inl ⟨z1, z⟩
          · exact .inr ⟨⟨by omega, z2⟩, z4⟩
    · refine ⟨i1, fun q hq => by have := i2 q hq; omega, fun v => ?_⟩
      rw [List.nil_append, i3, hh, Bool.eq_iff_iff]
      simp only [Bool.and_eq_true, decide_eq_true_eq, Bool.not_eq_true', Bool.or_eq_false_iff, Bool.and_eq_false_iff, decide_eq_false_iff_not]
      constructor
      · rintro ⟨⟨z1, z2⟩, z3⟩
        exact ⟨⟨by omega, z2⟩, .inr (by omega), z3⟩
      · rintro ⟨⟨z1, z2⟩, z3, z4⟩
        exact ⟨⟨by omega, z2⟩, z4⟩
theorem oth_ok {n : Int} {ps : List (Int × Int)} (h : OkR n ps) (hn : 0 ≤ n) : OkR n (oth n ps) := (othGo_ok h (Int.le_refl 0) hn fun p hp => (h.bd p hp).1).1
theorem oth_has {n : Int} {ps : List (Int × Int)} (h : OkR n ps) (hn : 0 ≤ n) (v : Int) : has (oth n ps) v = (decide (0 ≤ v) && decide (v < n) && !has ps v) := (othGo_ok h (Int.le_refl 0) hn fun p hp => (h.bd p hp).1).2.2 v
/-! the common ones -/
def com1 (p q : Int × Int) : Option (Int × Int) := if p.1 ≤ q.2 ∧ q.1 ≤ p.2 then some (if q.1 > p.1 then q.1 else p.1, if q.2 < p.2 then q.2 else p.2) else none
def com (ps qs : List (Int × Int)) : List (Int × Int) := ps.flatMap fun p => qs.filterMap (com1 p)
theorem com_mem {ps qs : List (Int × Int)} {r : Int × Int} : r ∈ com ps qs ↔ ∃ p ∈ ps, ∃ q ∈ qs, com1 p q = some r := by
  unfold com
  rw [List.mem_flatMap]
  exact ⟨fun ⟨p, hp, h⟩ => ⟨p, hp, List.mem_filterMap.mp h⟩, fun ⟨p, hp, h⟩ => ⟨p, hp, List.mem_filterMap.mpr h⟩⟩
theorem com1_some {p q r : Int × Int} (h : com1 p q = some r) : p.1 ≤ r.1 ∧ q.1 ≤ r.1 ∧ r.2 ≤ p.2 ∧ r.2 ≤ q.2 ∧ (r.1 = p.1 ∨ r.1 = q.1) ∧ (r.2 = p.2 ∨ r.2 = q.2) ∧ p.1 ≤ q.2 ∧ q.1 ≤ p.2 := by
  unfold com1 at h
  split at h
  · rename_i z
    have e := Option.some.inj h
    subst e
    show p.1 ≤ (if q.1 > p.1 then q.1 else p.1) ∧ q.1 ≤ (if q.1 > p.1 then q.1 else p.1) ∧ (if q.2 < p.2 then q.2 else p.2) ≤ p.2 ∧ (if q.2 < p.2 then q.2 else p.2) ≤ q.2 ∧ ((if q.1 > p.1 then q.1 else p.1) = p.1 ∨ (if q.1 > p.1 then q.1 else p.1) = q.1) ∧ ((if q.2 < p.2 then q.2 else p.2) = p.2 ∨ (if q.2 < p.2 then q.2 else p.2) = q.2) ∧ p.1 ≤ q.2 ∧ q.1 ≤ p.2
    split <;> split <;> omega
  · cases h
theorem com_has {ps qs : List (Int × Int)} (v : Int) : has (com ps qs) v = (has ps v && has qs v) := by
  rw [Bool.eq_iff_iff, Bool.and_eq_true, has_iff, has_iff, has_iff]
  constructor
  · rintro ⟨r, hr, h1, h2⟩
    obtain ⟨p, hp, q, hq, e⟩ := com_mem.mp hr
    obtain ⟨z1, z2, z3, z4, _⟩ := com1_some e
    exact ⟨⟨p, hp, by omega, by omega⟩, ⟨q, hq, by omega, by omega⟩⟩
  · rintro ⟨⟨p, hp, h1, h2⟩, ⟨q, hq, h3, h4⟩⟩
    refine ⟨_, com_mem.mpr ⟨p, hp, q, hq, if_pos ⟨by omega, by omega⟩⟩, ?_, ?_⟩
    · show (if q.1 > p.1 then q.1 else p.1) ≤ v
      split <;> omega
    · show v ≤ (if q.2 < p.2 then q.2 else p.2)
      split <;> omega
theorem com_ok {n m : Int} {ps qs : List (Int × Int)} (h : OkR n ps) (h' : OkR m qs) : OkR n (com ps qs) := by
  refine ⟨fun r hr => ?_, ?_⟩
  · obtain ⟨p, hp, q, hq, e⟩ := com_mem.mp hr
    obtain ⟨z1, z2, z3, z4, z5, z6, z7, z8⟩ := com1_some e
    have := h.bd p hp
    have := h'.bd q hq
    omega
  · unfold com
    rw [List.pairwise_flatMap]
    refine ⟨fun p hp => ?_, ?_⟩
    · rw [List.pairwise_filterMap]
      refine h'.ap.imp fun {q q'} e r hr r' hr' => ?_
      obtain ⟨z1, z2, z3, z4, z5, z6, _⟩ := com1_some hr
      obtain ⟨y1, y2, y3, y4, y5, y6, _⟩ := com1_some hr'
      have e' : q.2 + 1 < q'.1 := e
      omega
    · refine h.ap.imp fun {p p'} e r hr r' hr' => ?_
      obtain ⟨q, hq, e1⟩ := List.mem_filterMap.mp hr
      obtain ⟨q', hq', e2⟩ := List.mem_filterMap.mp hr'
      obtain ⟨z1, z2, z3, z4, z5, z6, _⟩ := com1_some e1
      obtain ⟨y1, y2, y3, y4, y5, y6, _⟩ := com1_some e2
      have e' : p.2 + 1 < p'.1 := e
      omega
/-! turned -/
def trn (n : Int) (ps : List (Int × Int)) : List (Int × Int) := ps.reverse.map fun p => (n - 1 - p.2, n - 1 - p.1)
theorem trn_ok {n : Int} {ps : List (Int × Int)} (h : OkR n ps) : OkR n (trn n ps) := by
  refine ⟨fun r hr => ?_, ?_⟩
  · obtain ⟨p, hp, rfl⟩ := List.mem_map.mp hr
    have := h.bd p (List.mem_reverse.mp hp)
    show 0 ≤ n - 1 - p.2 ∧ n - 1 - p.2 ≤ n - 1 - p.1 ∧ n - 1 - p.1 < n
    omega
  · unfold trn
    rw [List.pairwise_map, List.pairwise_reverse]
    refine h.ap.imp fun {p q} e => ?_
    have e' : p.2 + 1 < q.1 := e
    show n - 1 - q.1 + 1 < n - 1 - p.2
    omega
theorem trn_has {n : Int} {ps : List (Int × Int)} (v : Int) : has (trn n ps) v = has ps (n - 1 - v) := by
  rw [Bool.eq_iff_iff, has_iff, has_iff]
  constructor
  · rintro ⟨r, hr, h1, h2⟩
    obtain ⟨p, hp, rfl⟩ := List.mem_map.mp hr
    have h1' : n - 1 - p.2 ≤ v := h1
    have h2' : v ≤ n - 1 - p.1 := h2
    exact ⟨p, List.mem_reverse.mp hp, by omega, by omega⟩
  · rintro ⟨p, hp, h1, h2⟩
    refine ⟨_, List.mem_map.mpr ⟨p, List.mem_reverse.mpr hp, rfl⟩, ?_, ?_⟩
    · show n - 1 - p.2 ≤ v
      omega
    · show v ≤ n - 1 - p.1
      omega
/-- a valid set -/
structure Vs1 (n : Int) (ps : List (Int × Int)) : Prop where
  lo : 1 ≤ n
  hi : n ≤ 10 ^ 30
  ok : OkR n ps
  le : ps.length ≤ 12
/-- 0 .. n-1 -/
def upto (n : Nat) : List Int := (List.range n).map fun (i : Nat) => (i : Int)
theorem upto_in (n : Nat) : SetIn n (upto n) := ⟨by
  unfold upto
  rw [List.pairwise_map]
  exact List.pairwise_lt_range.imp fun e => by omega, fun v hv => by
  obtain ⟨i, hi, rfl⟩ := List.mem_map.mp hv
  have := List.mem_range.mp hi
  omega⟩
theorem mem_upto {n : Nat} {v : Int} : v ∈ upto n ↔ 0 ≤ v ∧ v < n := ⟨(upto_in n).bd v, fun h => List.mem_map.mpr ⟨v.toNat, List.mem_range.mpr (by omega), by omega⟩⟩
theorem irs_upto (n : Nat) : irs 0 n = (upto n).map D.int := by
  unfold irs upto
  rw [List.map_map]
  exact List.map_congr_left fun i _ => by show D.int (0 + (i : Int)) = D.int (i : Int); rw [Int.zero_add]
theorem upto_len (n : Nat) : (upto n).length = n := by
  unfold upto
  rw [List.length_map, List.length_range]
end
end TL
set_option Elab.async false
set_option linter.all false
set_option maxRecDepth 100000
namespace TL
open PySem PySem.Spec L2
section
local macro_rules
  | `(tactic| o_reads) => `(tactic| with_reducible first
    | refine s_seq ?_ | refine s_asg ?_ | refine s_ret ?_ | refine s_next ?_ | refine s_if ?_ | refine t_test ?_ | refine t_B ?_ | refine t_and ?_ | refine t_or ?_ | refine t_not ?_
    | refine e_op ?_ | refine e_int ?_ | refine e_bl ?_ | refine e_str ?_ | refine e_cb ?_ | refine a_cons ?_ | refine a_nil ?_ | refine p_I0i ?_ | refine p_I0b ?_ | refine c_int ?_
    | refine e_call ?_ | refine e_make ?_ | refine e_prop ?_ | refine e_un ?_ | refine p_Ui ?_ | refine e_non ?_ | refine p_eqI ?_ | refine p_neI ?_ | refine p_addI ?_ | refine e_raw ?_ | refine e_lst ?_ | refine e_tup ?_ | refine e_andV ?_ | refine e_orV ?_ | refine e_if ?_ | refine e_notV ?_ | refine e_sl ?_ | refine o_some ?_ | refine o_no ?_ | refine e_revL ?_ | (refine Or.inl ⟨_, LstOf.v, ?_⟩)
    | (refine e_var (r := ?vr) ?va ?vb; case va => with_unfolding_all exact rfl) | (refine e_varO (ds := ?vr) ?va ?vb; case va => with_unfolding_all exact rfl) | (refine e_varT (p := ?vr) ?va ?vb; case va => with_unfolding_all exact rfl)
    | (refine p_Ii ?pa ?pb; case pa => first | exact wide_mul (a := 64) (b := 64) (by first | decide | omega) (by first | decide | omega) (by decide) (by decide) (by decide) | exact pow_ok (n := 64) (by decide) (by decide) (by decide) (by decide) (by decide) | decide | omega)
    | (refine ⟨?vd, (?va : Vs _ _), ?vb, ?vc⟩; (case va => first | exact .nil | exact .cons .nil | exact .cons (.cons .nil) | exact .cons (.cons (.cons .nil)) | exact .cons (.cons (.cons (.cons .nil))) | exact .cons (.cons (.cons (.cons (.cons .nil)))) | exact .cons (.cons (.cons (.cons (.cons (.cons .nil))))) | exact .cons (.cons (.cons (.cons (.cons (.cons (.cons .nil)))))) | exact .cons (.cons (.cons (.cons (.cons (.cons (.cons (.cons .nil))))))) | exact .cons (.cons (.cons (.cons (.cons (.cons (.cons (.cons (.cons .nil)))))))) | exact .cons (.cons (.cons (.cons (.cons (.cons (.cons (.cons (.cons (.cons .nil))))))))) | exact .cons (.cons (.cons (.cons (.cons (.cons (.cons (.cons (.cons (.cons (.cons .nil)))))))))) | exact .cons (.cons (.cons (.cons (.cons (.cons (.cons (.cons (.cons (.cons (.cons (.cons .nil))))))))))) | exact .cons (.cons (.cons (.cons (.cons (.cons (.cons (.cons (.cons (.cons (.cons (.cons (.cons .nil)))))))))))) | exact .cons (.cons (.cons (.cons (.cons (.cons (.cons (.cons (.cons (.cons (.cons (.cons (.cons (.cons .nil))))))))))))) | exact .cons (.cons (.cons (.cons (.cons (.cons (.cons (.cons (.cons (.cons (.cons (.cons (.cons (.cons (.cons .nil)))))))))))))) | exact .cons (.cons (.cons (.cons (.cons (.cons (.cons (.cons (.cons (.cons (.cons (.cons (.cons (.cons (.cons (.cons .nil))))))))))))))) | exact .cons (.cons (.cons (.cons (.cons (.cons (.cons (.cons (.cons (.cons (.cons (.cons (.cons (.cons (.cons (.cons (.cons .nil)))))))))))))))) | exact .cons (.cons (.cons (.cons (.cons (.cons (.cons (.cons (.cons (.cons (.cons (.cons (.cons (.cons (.cons (.cons (.cons (.cons .nil)))))))))))))))))); (case vb => with_unfolding_all exact Nat.le_of_ble_eq_true rfl))
    | (refine ⟨_, rfl, fun _ => ?vx, ?no⟩; (case no => (intro z; with_unfolding_all cases z; done))) | (refine ⟨_, rfl, ?no, fun _ => ?vx⟩; (case no => (intro z; with_unfolding_all cases z; done))) | (refine ⟨?no, fun _ => ?vx⟩; (case no => (intro z; with_unfolding_all cases z; done))) | (refine ⟨fun _ => ?vx, ?no⟩; (case no => (intro z; with_unfolding_all cases z; done))) | (refine ⟨_, rfl, fun hb => ?_, fun hb => ?_⟩) | (refine ⟨_, rfl, ?_⟩))
local macro_rules
  | `(tactic| o_readsAll) => `(tactic| repeat o_reads)
variable {P : Program} {w : World} {K : PySem.W.Frag} {mg : Str → Option Value} {base : Heap} {a : Ad}

/-! ### the program's sets put together -/
def commonC : Ct Nat := fun _ g rs k _ => ∃ ps qs : List (Int × Int), rs = [.v (.lst (prs ps)), .v (.lst (prs qs))] ∧ ps.length ≤ 100 ∧ qs.length ≤ 100 ∧ k (.lst (prs (com ps qs))) g
theorem filterMap_len {α β : Type} (f : α → Option β) (l : List α) : (l.filterMap f).length ≤ l.length := List.length_filterMap_le ..
theorem com_len (qs : List (Int × Int)) : ∀ ps : List (Int × Int), (com ps qs).length ≤ ps.length * qs.length
  | [] => Nat.zero_le _
  | p :: ps => by
    have e : com (p :: ps) qs = qs.filterMap (com1 p) ++ com ps qs := rfl
    rw [e, List.length_append, List.length_cons, Nat.succ_mul]
    have := filterMap_len (com1 p) qs
    have := com_len qs ps
    omega
theorem prs_get {ps : List (Int × Int)} {i : Nat} {d : D} (h : (prs ps)[i]? = some d) : ∃ p, ps[i]? = some p ∧ d = .tup [.int p.1, .int p.2] := by
  unfold prs at h
  rw [List.getElem?_map] at h
  cases hp : ps[i]? with
  | none => rw [hp] at h; cases h
  | some p => rw [hp] at h; cases h; exact ⟨p, rfl, rfl⟩
theorem prs_len' (ps : List (Int × Int)) : (prs ps).length = ps.length := List.length_map _
theorem ok_common (T : Tx K mg a) : FnOk P w K mg base CX0 1 a.f__common a.d__common ["mine", "theirs"] (mkSp commonC) := by
  refine Fun_t T.F__common sc__common (fun W g rs k x ⟨ps, qs, e, _⟩ => by rw [e]; rfl) fun cdv A outer s H E W g rs kd x hr ⟨ps, qs, e, hp, hq, k⟩ => ?_
  subst e
  refine ⟨_, (pss_cons (ps_set (i := 2) sc__common.nd rfl (Or.inl rfl) (pe_lst pa_nil))
      (pss_cons (ps_for PassesOwn.never rfl (pi_listK (K := K) rfl (pv 0)) (pg_tupK (K := K) (n := 2) rfl rfl (pgs_cons (pg_name (i := 3) (x := "low") sc__common.nd rfl (Or.inl rfl)) (pgs_cons (pg_name (i := 4) (x := "high") sc__common.nd rfl (Or.inl rfl)) pgs_nil))) (pss_one (ps_for PassesOwn.never rfl (pi_listK (K := K) rfl (pv 1)) (pg_tupK (K := K) (n := 2) rfl rfl (pgs_cons (pg_name (i := 5) (x := "first") sc__common.nd rfl (Or.inl rfl)) (pgs_cons (pg_name (i := 6) (x := "last") sc__common.nd rfl (Or.inl rfl)) pgs_nil))) (pss_one (ps_if (PW.pt (pw_and (pt_cmpR op_le (pv 3) (pv 6) (nomark _)) (pw_and1 (pt_cmpR op_le (pv 5) (pv 4) (nomark _))))) (pss_one (ps_expr (pe_bm PySem.F.plainAttrs_list PySem.F.slot_list_append PySem.F.type_list_append mt_append (pv 2) (pa_cons (pe_tup (pa_cons (pe_callB (cr_max2 rfl) rfl T.n_max (by decide +kernel) (pa_cons (pv 3) (pa_cons (pv 5) pa_nil))) (pa_cons (pe_callB (cr_min2 rfl) rfl T.n_min (by decide +kernel) (pa_cons (pv 4) (pa_cons (pv 6) pa_nil))) pa_nil))) pa_nil)))) pss_nil)))))
      (pss_one (ps_ret (pv 2))))), ?_⟩
  refine s_seq (s_new (n_lst (a_nil ⟨[], .nil, by decide, s_seq ?_⟩)))
  refine s_for (i_list (e_var rfl ⟨prs ps, rfl, fun i ρ' g' => g' = g ∧ ∃ s3 s4 s5 s6 : Sl, ρ' = [.v (.lst (prs ps)), .v (.lst (prs qs)), .ow (prs (com (ps.take i) qs)), s3, s4, s5, s6], ⟨rfl, .un, .un, .un, .un, rfl⟩, ?_, ?_⟩))
  · rintro i d ρ' g' hi ⟨rfl, s3, s4, s5, s6, rfl⟩
    obtain ⟨p, hpi, rfl⟩ := prs_get hi
    have hil : i < ps.length := (List.getElem?_eq_some_iff.mp hpi).1
    refine g_tup2 ?_
    refine s_for (i_list (e_var rfl ⟨prs qs, rfl, fun j ρ' g'' => g'' = g' ∧ ∃ s5 s6 : Sl, ρ' = [.v (.lst (prs ps)), .v (.lst (prs qs)), .ow (prs (com (ps.take i) qs ++ (qs.take j).filterMap (com1 p))), .v (.int p.1), .v (.int p.2), s5, s6], ⟨rfl, _, _, by rw [List.take_zero, List.filterMap_nil, List.append_nil]; rfl⟩, ?_, ?_⟩))
    · rintro j d ρ' g'' hj ⟨rfl, s5, s6, rfl⟩
      obtain ⟨q, hqj, rfl⟩ := prs_get hj
      have hjl : j < qs.length := (List.getElem?_eq_some_iff.mp hqj).1
      have nxt : (qs.take (j + 1)).filterMap (com1 p) = (qs.take j).filterMap (com1 p) ++ (match com1 p q with | some r => [r] | none => []) := by
        rw [TL.take_next hqj, List.filterMap_append]
        cases h : com1 p q <;> simp [h]
      have ll : (com (ps.take i) qs ++ (qs.take j).filterMap (com1 p)).length ≤ 20000 := by
        rw [List.length_append]
        have h1 := com_len qs (ps.take i)
        have h2 := filterMap_len (com1 p) (qs.take j)
        have h3 : (ps.take i).length ≤ 100 := by rw [List.length_take]; omega
        have h4 : (qs.take j).length ≤ 100 := by rw [List.length_take]; omega
        have : (ps.take i).length * qs.length ≤ 100 * 100 := Nat.mul_le_mul h3 hq
        omega
      have no : ¬ (p.1 ≤ q.2 ∧ q.1 ≤ p.2) → (qs.take (j + 1)).filterMap (com1 p) = (qs.take j).filterMap (com1 p) := fun z => by
        rw [nxt, show com1 p q = none from if_neg z, List.append_nil]
      refine g_tup2 (s_if ?_)
      o_readsAll
      · rename_i b1 b2
        refine s_app (i := 2) (ds := prs (com (ps.take i) qs ++ (qs.take j).filterMap (com1 p))) rfl (by rw [prs_len']; omega) (e_tup ?_)
        o_readsAll
        refine c_max2 ?_
        o_readsAll
        refine c_min2 ?_
        o_readsAll
        refine ⟨rfl, .v (.int q.1), .v (.int q.2), ?_⟩
        rw [nxt, show com1 p q = some _ from if_pos ⟨of_decide_eq_true b1, of_decide_eq_true b2⟩, ← List.append_assoc, prs_app (com (ps.take i) qs ++ _)]
        rfl
      · rename_i b1 b2
        o_readsAll
        refine ⟨rfl, .v (.int q.1), .v (.int q.2), ?_⟩
        rw [no fun z => of_decide_eq_false b2 z.2]
        rfl
      · rename_i b1
        o_readsAll
        refine ⟨rfl, .v (.int q.1), .v (.int q.2), ?_⟩
        rw [no fun z => of_decide_eq_false b1 z.1]
        rfl
    · rintro ρ' g'' ⟨rfl, s5, s6, rfl⟩
      refine ⟨rfl, .v (.int p.1), .v (.int p.2), s5, s6, ?_⟩
      rw [prs_len', List.take_length]
      have e : com (ps.take (i + 1)) qs = com (ps.take i) qs ++ qs.filterMap (com1 p) := by
        rw [TL.take_next hpi]
        unfold com
        rw [List.flatMap_append]; simp
      rw [e]
  · rintro ρ' g' ⟨rfl, s3, s4, s5, s6, rfl⟩
    rw [prs_len', List.take_length]
    exact s_shr 2 (ds := prs (com ps qs)) rfl (s_ret (e_var rfl ⟨_, rfl, k⟩))
def othersC : Ct Nat := fun _ g rs k _ => ∃ (n : Int) (ps : List (Int × Int)), rs = [.v (.int n), .v (.lst (prs ps))] ∧ ps.length ≤ 100 ∧ k (.lst (prs (oth n ps))) g
end
end TL
set_option Elab.async false
set_option linter.all false
set_option maxRecDepth 100000
namespace TL
open PySem PySem.Spec L2
section
local macro_rules
  | `(tactic| o_reads) => `(tactic| with_reducible first
    | refine s_seq ?_ | refine s_asg ?_ | refine s_ret ?_ | refine s_next ?_ | refine s_if ?_ | refine t_test ?_ | refine t_B ?_ | refine t_and ?_ | refine t_or ?_ | refine t_not ?_
    | refine e_op ?_ | refine e_int ?_ | refine e_bl ?_ | refine e_str ?_ | refine e_cb ?_ | refine a_cons ?_ | refine a_nil ?_ | refine p_I0i ?_ | refine p_I0b ?_ | refine c_int ?_
    | refine e_call ?_ | refine e_make ?_ | refine e_prop ?_ | refine e_un ?_ | refine p_Ui ?_ | refine e_non ?_ | refine p_eqI ?_ | refine p_neI ?_ | refine p_addI ?_ | refine e_raw ?_ | refine e_lst ?_ | refine e_tup ?_ | refine e_andV ?_ | refine e_orV ?_ | refine e_if ?_ | refine e_notV ?_ | refine e_sl ?_ | refine o_some ?_ | refine o_no ?_ | refine e_revL ?_ | (refine Or.inl ⟨_, LstOf.v, ?_⟩)
    | (refine e_var (r := ?vr) ?va ?vb; case va => with_unfolding_all exact rfl) | (refine e_varO (ds := ?vr) ?va ?vb; case va => with_unfolding_all exact rfl) | (refine e_varT (p := ?vr) ?va ?vb; case va => with_unfolding_all exact rfl)
    | (refine p_Ii ?pa ?pb; case pa => first | exact wide_mul (a := 64) (b := 64) (by first | decide | omega) (by first | decide | omega) (by decide) (by decide) (by decide) | exact pow_ok (n := 64) (by decide) (by decide) (by decide) (by decide) (by decide) | decide | omega)
    | (refine ⟨?vd, (?va : Vs _ _), ?vb, ?vc⟩; (case va => first | exact .nil | exact .cons .nil | exact .cons (.cons .nil) | exact .cons (.cons (.cons .nil)) | exact .cons (.cons (.cons (.cons .nil))) | exact .cons (.cons (.cons (.cons (.cons .nil)))) | exact .cons (.cons (.cons (.cons (.cons (.cons .nil))))) | exact .cons (.cons (.cons (.cons (.cons (.cons (.cons .nil)))))) | exact .cons (.cons (.cons (.cons (.cons (.cons (.cons (.cons .nil))))))) | exact .cons (.cons (.cons (.cons (.cons (.cons (.cons (.cons (.cons .nil)))))))) | exact .cons (.cons (.cons (.cons (.cons (.cons (.cons (.cons (.cons (.cons .nil))))))))) | exact .cons (.cons (.cons (.cons (.cons (.cons (.cons (.cons (.cons (.cons (.cons .nil)))))))))) | exact .cons (.cons (.cons (.cons (.cons (.cons (.cons (.cons (.cons (.cons (.cons (.cons .nil))))))))))) | exact .cons (.cons (.cons (.cons (.cons (.cons (.cons (.cons (.cons (.cons (.cons (.cons (.cons .nil)))))))))))) | exact .cons (.cons (.cons (.cons (.cons (.cons (.cons (.cons (.cons (.cons (.cons (.cons (.cons (.cons .nil))))))))))))) | exact .cons (.cons (.cons (.cons (.cons (.cons (.cons (.cons (.cons (.cons (.cons (.cons (.cons (.cons (.cons .nil)))))))))))))) | exact .cons (.cons (.cons (.cons (.cons (.cons (.cons (.cons (.cons (.cons (.cons (.cons (.cons (.cons (.cons (.cons .nil))))))))))))))) | exact .cons (.cons (.cons (.cons (.cons (.cons (.cons (.cons (.cons (.cons (.cons (.cons (.cons (.cons (.cons (.cons (.cons .nil)))))))))))))))) | exact .cons (.cons (.cons (.cons (.cons (.cons (.cons (.cons (.cons (.cons (.cons (.cons (.cons (.cons (.cons (.cons (.cons (.cons .nil)))))))))))))))))); (case vb => with_unfolding_all exact Nat.le_of_ble_eq_true rfl))
    | (refine ⟨_, rfl, fun _ => ?vx, ?no⟩; (case no => (intro z; with_unfolding_all cases z; done))) | (refine ⟨_, rfl, ?no, fun _ => ?vx⟩; (case no => (intro z; with_unfolding_all cases z; done))) | (refine ⟨?no, fun _ => ?vx⟩; (case no => (intro z; with_unfolding_all cases z; done))) | (refine ⟨fun _ => ?vx, ?no⟩; (case no => (intro z; with_unfolding_all cases z; done))) | (refine ⟨_, rfl, fun hb => ?_, fun hb => ?_⟩) | (refine ⟨_, rfl, ?_⟩))
local macro_rules
  | `(tactic| o_readsAll) => `(tactic| repeat o_reads)
variable {P : Program} {w : World} {K : PySem.W.Frag} {mg : Str → Option Value} {base : Heap} {a : Ad}

def limitedC (a : Ad) : Ct Nat := fun _ g rs k x => ∃ (n : Int) (ps : List (Int × Int)), rs = [.v (.int n), .v (.lst (prs ps))] ∧ 1 ≤ n ∧ n ≤ 10 ^ 30 ∧ OkR n ps ∧ (ps.length ≤ 12 → k (.ins a.C_ValueSet (vsF n (prs ps))) g) ∧ (12 < ps.length → x (.ref a.C_TooMany) g)
theorem ok_limited (T : Tx K mg a) : FnOk P w K mg base (L2N.CX P w) 6 a.f__limited a.d__limited ["size", "stretches"] (mkSp (limitedC a)) := by
  have G_ValueSetU_initU : FnOk P w K mg base (L2N.CX P w) 4 a.f_ValueSetU_initU a.d_ValueSetU_initU ["self", "size", "stretches"] (inSp a.C_ValueSet (initC (K := K) a)) := ok_init T
  refine Fun_tXN T.F__limited sc__limited (fun W g rs k x ⟨n, ps, e, _⟩ => by rw [e]; rfl) fun cdv A outer s H E W g rs kd x hr ⟨n, ps, e, n1, n2, ho, k, kx⟩ hx => ?_
  subst e
  refine ⟨_, (pss_cons (ps_if (pt_cmpR op_gt (pe_callB (cr_lenK (K := K) rfl) rfl T.n_len (by decide +kernel) (pa_cons (pv 1) pa_nil)) (pe_globI rfl T.c_MOST_STRETCHES) (nomark _)) (pss_one (L2N.ps_raise rfl (L2N.takes_of rfl rfl rfl rfl) (L2N.pmk_own PySem.F.excBase_ValueError T.x_TooMany T.g_TooMany T.k_TooMany (raises_own T.xb_TooMany T.xt_TooMany) rfl))) pss_nil)
      (pss_one (ps_ret (pe_make T.m_ValueSet G_ValueSetU_initU (hr.mono (by decide)) rfl T.g_ValueSet T.b_ValueSetU_initU .nil (L2N.passes_call (L2N.takes_of rfl rfl rfl rfl) (fun _ _ _ _ h => h)) (pa_cons (pv 0) (pa_cons (pv 1) pa_nil)))))), ?_⟩
  refine s_seq (s_if ?_)
  o_readsAll
  refine c_len .v ?_
  o_readsAll
  · rename_i b
    have := of_decide_eq_true b
    rw [prs_len'] at this
    exact s_raise fun H' e => hx _ g H' (kx (by omega)) e
  · rename_i b
    have := of_decide_eq_false b
    rw [prs_len'] at this
    have hl : ps.length ≤ 12 := by omega
    refine s_next (s_ret (e_makeX (x := fun _ _ => False) (fun _ _ _ z => z.elim) ?_))
    o_readsAll
    refine fun W' I => init_ok .v n1 n2 ho hl ⟨_, rfl, k hl⟩
/-- no ValueSet, whatever it is -/
def NotI (K : PySem.W.Frag) (C : Addr) (y : Rs) : Prop := ∀ k : Rs → Prop, k (.v (.bl false)) → wpC (rIsi K) [y, .v (.raw (.ref C))] k
def checkC (K : PySem.W.Frag) (a : Ad) : Ct Nat := fun _ g rs k x => ∃ (n : Int) (ds : List D) (y : Rs), rs = [.v (.ins a.C_ValueSet (vsF n ds)), y] ∧
  ((∃ m es, y = .v (.ins a.C_ValueSet (vsF m es)) ∧ (n = m → k .non g) ∧ (n ≠ m → x (.ref a.C_OtherSizes) g)) ∨ (NotI K a.C_ValueSet y ∧ x (.ref a.C_InvalidSet) g))
theorem ok_check (T : Tx K mg a) : FnOk P w K mg base (L2N.CX P w) 1 a.f_ValueSetUcheck a.d_ValueSetUcheck ["self", "other"] (mkSp (checkC K a)) := by
  refine Fun_tXN T.F_ValueSetUcheck sc_ValueSetUcheck (fun W g rs k x ⟨n, ds, y, e, _⟩ => by rw [e]; rfl) fun cdv A outer s H E W g rs kd x hr ⟨n, ds, y, e, h⟩ hx => ?_
  subst e
  refine ⟨_, (pss_cons (ps_if (pt_not (pt_val (pe_callB (call_isiK (K := K) rfl) rfl T.n_isinstance (by decide +kernel) (pa_cons (pv 1) (pa_cons (pe_glob (v := .ref a.C_ValueSet) rfl T.g_ValueSet rfl) pa_nil))))) (pss_one (L2N.ps_raise rfl (L2N.takes_of rfl rfl rfl rfl) (L2N.pmk_own PySem.F.excBase_ValueError T.x_InvalidSet T.g_InvalidSet T.k_InvalidSet (raises_own T.xb_InvalidSet T.xt_InvalidSet) rfl))) pss_nil)
      (pss_one (ps_if (pt_cmpR (op_neK (K := K) rfl (hu64 hr)) (pe_fldK (K := K) rfl (pv 0) rfl) (pe_fldK (K := K) rfl (pv 1) rfl) (nomark _)) (pss_one (L2N.ps_raise rfl (L2N.takes_of rfl rfl rfl rfl) (L2N.pmk_own PySem.F.excBase_ValueError T.x_OtherSizes T.g_OtherSizes T.k_OtherSizes (raises_own T.xb_OtherSizes T.xt_OtherSizes) rfl))) pss_nil))), ?_⟩
  refine s_seq (s_if (t_not (t_B ?_)))
  o_readsAll
  rcases h with ⟨m, es, rfl, k1, k2⟩ | ⟨hn, kx⟩
  · refine c_isiSame T.it_ValueSet ?_
    o_readsAll
    refine e_fld (e_var rfl ⟨_, _, _, rfl, T.cl_ValueSet, T.na_ValueSet__size, rfl, ?_⟩)
    o_readsAll
    refine e_fld (e_var rfl ⟨_, _, _, rfl, T.cl_ValueSet, T.na_ValueSet__size, rfl, p_neI ⟨_, rfl, fun b => ?_, fun b => ?_⟩⟩)
    · exact s_raise fun H' e => hx _ g H' (k2 (by simpa using b)) e
    · exact s_next (k1 (by simpa using b))
  · refine hn _ ?_
    o_readsAll
    exact s_raise fun H' e => hx _ g H' kx e
/-- one op other: the same sizes, other sizes, no set -/
def binC (K : PySem.W.Frag) (a : Ad) (f : Int → List (Int × Int) → List (Int × Int) → List (Int × Int)) : Ct Nat := fun _ g rs k x => ∃ (n : Int) (ps : List (Int × Int)) (y : Rs), rs = [.v (.ins a.C_ValueSet (vsF n (prs ps))), y] ∧ Vs1 n ps ∧
  ((∃ qs, y = .v (.ins a.C_ValueSet (vsF n (prs qs))) ∧ Vs1 n qs ∧ ((f n ps qs).length ≤ 12 → k (.ins a.C_ValueSet (vsF n (prs (f n ps qs)))) g) ∧ (12 < (f n ps qs).length → x (.ref a.C_TooMany) g)) ∨
   (∃ m es, y = .v (.ins a.C_ValueSet (vsF m es)) ∧ n ≠ m ∧ x (.ref a.C_OtherSizes) g) ∨ (NotI K a.C_ValueSet y ∧ x (.ref a.C_InvalidSet) g))
def uni (n : Int) (ps qs : List (Int × Int)) : List (Int × Int) := oth n (com (oth n ps) (oth n qs))
theorem oth_len {n : Int} {ps : List (Int × Int)} (h : OkR n ps) (hn : 0 ≤ n) : (oth n ps).length ≤ ps.length + 1 := by
  have := len_strt (oth_ok h hn) (0 :: ps.map (·.2 + 1)) fun v ⟨h1, h2⟩ => by
    rw [oth_has h hn] at h1 h2
    simp only [Bool.and_eq_true, decide_eq_true_eq, Bool.not_eq_true', Bool.and_eq_false_iff, decide_eq_false_iff_not, Bool.not_eq_false'] at h1 h2
    by_cases z : v = 0
    · rw [z]; exact List.mem_cons_self
    · have h3 : has ps (v - 1) = true := by
        rcases h2 with (z | z) | z
        · omega
        · omega
        · exact z
      obtain ⟨p, hp, z1, z2⟩ := has_iff.mp h3
      have := has_no.mp h1.2 p hp
      exact List.mem_cons_of_mem _ (List.mem_map.mpr ⟨p, hp, by show p.2 + 1 = v; omega⟩)
  simpa using this
theorem uni_ok {n m : Int} {ps qs : List (Int × Int)} (h : OkR n ps) (h' : OkR n qs) (hn : 0 ≤ n) : OkR n (uni n ps qs) := oth_ok (com_ok (oth_ok h hn) (oth_ok h' hn)) hn
theorem uni_has {n : Int} {ps qs : List (Int × Int)} (h : OkR n ps) (h' : OkR n qs) (hn : 0 ≤ n) (v : Int) : has (uni n ps qs) v = (has ps v || has qs v) := by
  unfold uni
  rw [oth_has (com_ok (oth_ok h hn) (oth_ok h' hn)) hn, com_has, oth_has h hn, oth_has h' hn]
  by_cases z : 0 ≤ v ∧ v < n
  · rw [decide_eq_true z.1, decide_eq_true z.2]
    cases has ps v <;> cases has qs v <;> rfl
  · have a1 : has ps v = false := Bool.eq_false_iff.mpr fun q => z (has_bd h q)
    have a2 : has qs v = false := Bool.eq_false_iff.mpr fun q => z (has_bd h' q)
    rw [a1, a2]
    have : (decide (0 ≤ v) && decide (v < n)) = false := by
      rw [← Bool.not_eq_true, Bool.and_eq_true, decide_eq_true_eq, decide_eq_true_eq]; exact z
    rw [this]; rfl
theorem com_len2 {n : Int} {ps qs : List (Int × Int)} (h : OkR n ps) (h' : OkR n qs) : (com ps qs).length ≤ ps.length + qs.length := by
  have := len_strt (com_ok h h') (ps.map (·.1) ++ qs.map (·.1)) fun v ⟨h1, h2⟩ => by
    rw [com_has] at h1 h2
    obtain ⟨a1, a2⟩ := Bool.and_eq_true_iff.mp h1
    rcases Bool.and_eq_false_iff.mp h2 with z | z
    · exact List.mem_append_left _ ((strt_iff h).mpr ⟨a1, z⟩)
    · exact List.mem_append_right _ ((strt_iff h').mpr ⟨a2, z⟩)
  simpa using this
theorem uni_len {n : Int} {ps qs : List (Int × Int)} (h : OkR n ps) (h' : OkR n qs) (hn : 0 ≤ n) : (uni n ps qs).length ≤ ps.length + qs.length := by
  have := len_strt (uni_ok (m := n) h h' hn) (ps.map (·.1) ++ qs.map (·.1)) fun v ⟨h1, h2⟩ => by
    rw [uni_has h h' hn] at h1 h2
    obtain ⟨b1, b2⟩ := Bool.or_eq_false_iff.mp h2
    rcases Bool.or_eq_true_iff.mp h1 with z | z
    · exact List.mem_append_left _ ((strt_iff h).mpr ⟨z, b1⟩)
    · exact List.mem_append_right _ ((strt_iff h').mpr ⟨z, b2⟩)
  simpa using this
theorem mem_len {ps qs : List (Int × Int)} {n : Int} (h : OkR n ps) (h' : OkR n qs) (hp : ps.length ≤ 100) (hq : qs.length ≤ 100) : True := trivial
theorem ok_and (T : Tx K mg a) : FnOk P w K mg base (L2N.CX P w) 7 a.f_ValueSetU_andU a.d_ValueSetU_andU ["self", "other"] (mkSp (binC K a fun _ ps qs => com ps qs)) := by
  have G_ValueSetUcheck : FnOk P w K mg base (L2N.CX P w) 1 a.f_ValueSetUcheck a.d_ValueSetUcheck ["self", "other"] (mkSp (checkC K a)) := ok_check T
  have G__common : FnOk P w K mg base CX0 1 a.f__common a.d__common ["mine", "theirs"] (mkSp commonC) := ok_common T
  have G__limited : FnOk P w K mg base (L2N.CX P w) 6 a.f__limited a.d__limited ["size", "stretches"] (mkSp (limitedC a)) := ok_limited T
  refine Fun_tXN T.F_ValueSetU_andU sc_ValueSetU_andU (fun W g rs k x ⟨n, ps, y, e, _⟩ => by rw [e]; rfl) fun cdv A outer s H E W g rs kd x hr ⟨n, ps, y, e, v1, h⟩ hx => ?_
  subst e
  refine ⟨_, (pss_cons (ps_expr (pe_meth (pv 0) T.cl_ValueSet T.e_ValueSetUcheck G_ValueSetUcheck (hr.mono (by decide)) T.b_ValueSetUcheck .nil (L2N.passes_call (L2N.takes_of rfl rfl rfl rfl) (fun _ _ _ _ h => h)) (pa_cons (pv 1) pa_nil)))
      (pss_one (ps_ret (pe_call G__limited (hr.mono (by decide)) rfl T.g__limited T.F__limited.kp T.b__limited .nil (L2N.passes_call (L2N.takes_of rfl rfl rfl rfl) (fun _ _ _ _ h => h)) (pa_cons (pe_fldK (K := K) rfl (pv 0) rfl) (pa_cons (pe_call G__common (hr.mono (by decide)) rfl T.g__common T.F__common.kp T.b__common .nil pass0 (pa_cons (pe_fldK (K := K) rfl (pv 0) rfl) (pa_cons (pe_fldK (K := K) rfl (pv 1) rfl) pa_nil))) pa_nil)))))), ?_⟩
  refine s_seq (s_drop (e_methX (x := fun c g' => x c g') hx (e_var rfl ⟨_, rfl, rfl, a_cons (e_var rfl (a_nil fun W' I => ⟨n, prs ps, y, rfl, ?_⟩))⟩)))
  rcases h with ⟨qs, rfl, v2, k, kx⟩ | ⟨m, es, rfl, hne, kx⟩ | ⟨hn, kx⟩
  · refine .inl ⟨n, _, rfl, fun _ => ?_, fun z => absurd rfl z⟩
    have ho := com_ok v1.ok v2.ok
    refine s_ret (e_callX (x := fun c g' => x c g') hx (a_cons (e_fld (e_var rfl ⟨_, _, _, rfl, T.cl_ValueSet, T.na_ValueSet__size, rfl, ?_⟩))))
    refine a_cons (e_call (a_cons (e_fld (e_var rfl ⟨_, _, _, rfl, T.cl_ValueSet, T.na_ValueSet__stretches, rfl, a_cons (e_fld (e_var rfl ⟨_, _, _, rfl, T.cl_ValueSet, T.na_ValueSet__stretches, rfl, a_nil fun W' I => ⟨ps, qs, rfl, by have := v1.le; omega, by have := v2.le; omega, ?_⟩⟩))⟩))))
    exact a_nil fun W' I => ⟨n, _, rfl, v1.lo, v1.hi, ho, fun z => ⟨_, rfl, k z⟩, kx⟩
  · exact .inl ⟨m, _, rfl, fun z => absurd z hne, fun _ => kx⟩
  · exact .inr ⟨hn, kx⟩
def turnedC (a : Ad) : Ct Nat := fun _ g rs k _ => ∃ (n : Int) (ps : List (Int × Int)), rs = [.v (.ins a.C_ValueSet (vsF n (prs ps)))] ∧ Vs1 n ps ∧ k (.ins a.C_ValueSet (vsF n (prs (trn n ps)))) g
theorem trn_len (n : Int) (ps : List (Int × Int)) : (trn n ps).length = ps.length := by
  unfold trn
  rw [List.length_map, List.length_reverse]
end
end TL
set_option Elab.async false
set_option linter.all false
set_option maxRecDepth 100000
namespace TL
open PySem PySem.Spec L2
section
local macro_rules
  | `(tactic| o_reads) => `(tactic| with_reducible first
    | refine s_seq ?_ | refine s_asg ?_ | refine s_ret ?_ | refine s_next ?_ | refine s_if ?_ | refine t_test ?_ | refine t_B ?_ | refine t_and ?_ | refine t_or ?_ | refine t_not ?_
    | refine e_op ?_ | refine e_int ?_ | refine e_bl ?_ | refine e_str ?_ | refine e_cb ?_ | refine a_cons ?_ | refine a_nil ?_ | refine p_I0i ?_ | refine p_I0b ?_ | refine c_int ?_
    | refine e_call ?_ | refine e_make ?_ | refine e_prop ?_ | refine e_un ?_ | refine p_Ui ?_ | refine e_non ?_ | refine p_eqI ?_ | refine p_neI ?_ | refine p_addI ?_ | refine e_raw ?_ | refine e_lst ?_ | refine e_tup ?_ | refine e_andV ?_ | refine e_orV ?_ | refine e_if ?_ | refine e_notV ?_ | refine e_sl ?_ | refine o_some ?_ | refine o_no ?_ | refine e_revL ?_ | (refine Or.inl ⟨_, LstOf.v, ?_⟩)
    | (refine e_var (r := ?vr) ?va ?vb; case va => with_unfolding_all exact rfl) | (refine e_varO (ds := ?vr) ?va ?vb; case va => with_unfolding_all exact rfl) | (refine e_varT (p := ?vr) ?va ?vb; case va => with_unfolding_all exact rfl)
    | (refine p_Ii ?pa ?pb; case pa => first | exact wide_mul (a := 64) (b := 64) (by first | decide | omega) (by first | decide | omega) (by decide) (by decide) (by decide) | exact pow_ok (n := 64) (by decide) (by decide) (by decide) (by decide) (by decide) | decide | omega)
    | (refine ⟨?vd, (?va : Vs _ _), ?vb, ?vc⟩; (case va => first | exact .nil | exact .cons .nil | exact .cons (.cons .nil) | exact .cons (.cons (.cons .nil)) | exact .cons (.cons (.cons (.cons .nil))) | exact .cons (.cons (.cons (.cons (.cons .nil)))) | exact .cons (.cons (.cons (.cons (.cons (.cons .nil))))) | exact .cons (.cons (.cons (.cons (.cons (.cons (.cons .nil)))))) | exact .cons (.cons (.cons (.cons (.cons (.cons (.cons (.cons .nil))))))) | exact .cons (.cons (.cons (.cons (.cons (.cons (.cons (.cons (.cons .nil)))))))) | exact .cons (.cons (.cons (.cons (.cons (.cons (.cons (.cons (.cons (.cons .nil))))))))) | exact .cons (.cons (.cons (.cons (.cons (.cons (.cons (.cons (.cons (.cons (.cons .nil)))))))))) | exact .cons (.cons (.cons (.cons (.cons (.cons (.cons (.cons (.cons (.cons (.cons (.cons .nil))))))))))) | exact .cons (.cons (.cons (.cons (.cons (.cons (.cons (.cons (.cons (.cons (.cons (.cons (.cons .nil)))))))))))) | exact .cons (.cons (.cons (.cons (.cons (.cons (.cons (.cons (.cons (.cons (.cons (.cons (.cons (.cons .nil))))))))))))) | exact .cons (.cons (.cons (.cons (.cons (.cons (.cons (.cons (.cons (.cons (.cons (.cons (.cons (.cons (.cons .nil)))))))))))))) | exact .cons (.cons (.cons (.cons (.cons (.cons (.cons (.cons (.cons (.cons (.cons (.cons (.cons (.cons (.cons (.cons .nil))))))))))))))) | exact .cons (.cons (.cons (.cons (.cons (.cons (.cons (.cons (.cons (.cons (.cons (.cons (.cons (.cons (.cons (.cons (.cons .nil)))))))))))))))) | exact .cons (.cons (.cons (.cons (.cons (.cons (.cons (.cons (.cons (.cons (.cons (.cons (.cons (.cons (.cons (.cons (.cons (.cons .nil)))))))))))))))))); (case vb => with_unfolding_all exact Nat.le_of_ble_eq_true rfl))
    | (refine ⟨_, rfl, fun _ => ?vx, ?no⟩; (case no => (intro z; with_unfolding_all cases z; done))) | (refine ⟨_, rfl, ?no, fun _ => ?vx⟩; (case no => (intro z; with_unfolding_all cases z; done))) | (refine ⟨?no, fun _ => ?vx⟩; (case no => (intro z; with_unfolding_all cases z; done))) | (refine ⟨fun _ => ?vx, ?no⟩; (case no => (intro z; with_unfolding_all cases z; done))) | (refine ⟨_, rfl, fun hb => ?_, fun hb => ?_⟩) | (refine ⟨_, rfl, ?_⟩))
local macro_rules
  | `(tactic| o_readsAll) => `(tactic| repeat o_reads)
variable {P : Program} {w : World} {K : PySem.W.Frag} {mg : Str → Option Value} {base : Heap} {a : Ad}

/-! ### sets in readings -/
section
variable {W : Wd Nat} {g : Nat} {H0 : Hp} {ρ : Rho} {ta tb : TE} {k : Rs → Nat → Prop} {E : XK} {ES : L2.St → XK}
abbrev VD (a : Ad) (n : Int) (ps : List (Int × Int)) : D := .ins a.C_ValueSet (vsF n (prs ps))
abbrev VS (a : Ad) (n : Int) (ps : List (Int × Int)) : Rs := .v (VD a n ps)
theorem e_bin {f : Int → List (Int × Int) → List (Int × Int) → List (Int × Int)} {op : Operator} (h : wpE W H0 g ρ ta fun r g1 => ∃ n ps, r = VS a n ps ∧ Vs1 n ps ∧ wpE W H0 g1 ρ tb fun y g2 => ∃ qs, y = VS a n qs ∧ Vs1 n qs ∧ (f n ps qs).length ≤ 12 ∧ k (VS a n (f n ps qs)) g2) :
    wpE W H0 g ρ (tBinS K a.C_ValueSet op (mkSp (binC K a f)) ES ta tb) k :=
  e_binS (x := fun _ _ => False) (fun _ _ _ _ _ z => z.elim) (h.mono fun r g1 ⟨n, ps, e, v1, h2⟩ => h2.mono fun y g2 ⟨qs, e2, v2, hl, q⟩ => ⟨_, .ref a.C_ValueSet, e, by rw [e2]; rfl, .inl rfl, fun W' I => ⟨n, ps, y, by rw [e], v1, .inl ⟨qs, e2, v2, fun _ => q, fun z => absurd z (by omega)⟩⟩⟩)
theorem e_turn (h : wpE W H0 g ρ ta fun r g1 => ∃ n ps, r = VS a n ps ∧ Vs1 n ps ∧ k (VS a n (trn n ps)) g1) : wpE W H0 g ρ (tMeth a.C_ValueSet "turned" (mkSp (turnedC a)) [] E ta tNil) k :=
  e_meth (h.mono fun r g1 ⟨n, ps, e, v1, q⟩ => ⟨_, e, rfl, a_nil fun W' I => ⟨n, ps, by rw [e], v1, q⟩⟩)
theorem n_stre {kn : List D → Nat → Prop} (h : wpE W H0 g ρ ta fun r g1 => ∃ n ps, r = VS a n ps ∧ kn (prs ps) g1) : wpN W H0 g ρ (tProp a.C_ValueSet (mkSpN (stretchesC a)) [] E ta) kn :=
  n_prop (h.mono fun r g1 ⟨n, ps, e, q⟩ => ⟨_, e, fun W' I => ⟨n, prs ps, by rw [e], q⟩⟩)
theorem e_stre (h : wpE W H0 g ρ ta fun r g1 => ∃ n ps, r = VS a n ps ∧ k (.v (.lst (prs ps))) g1) : wpE W H0 g ρ (tProp a.C_ValueSet (mkSpN (stretchesC a)) [] E ta) k := e_new (n_stre h)
theorem e_size (h : wpE W H0 g ρ ta fun r g1 => ∃ n ps, r = VS a n ps ∧ k (.v (.int n)) g1) : wpE W H0 g ρ (tProp a.C_ValueSet (mkSp (sizeC a)) [] E ta) k :=
  e_prop (h.mono fun r g1 ⟨n, ps, e, q⟩ => ⟨_, e, fun W' I => ⟨n, prs ps, by rw [e], q⟩⟩)
theorem e_total (h : wpE W H0 g ρ ta fun r g1 => ∃ n ps, r = VS a n ps ∧ Vs1 n ps ∧ k (.v (.int ((vals ps).length : Int))) g1) : wpE W H0 g ρ (tProp a.C_ValueSet (mkSp (totalC a)) [] E ta) k :=
  e_prop (h.mono fun r g1 ⟨n, ps, e, v1, q⟩ => ⟨_, e, fun W' I => ⟨n, ps, by rw [e], v1.le, by rw [sum_vals fun p hp => (v1.ok.bd p hp).2.1]; exact q⟩⟩)
theorem e_hasV (h : wpE W H0 g ρ ta fun x g1 => ∃ i : Int, x = .v (.int i) ∧ wpE W H0 g1 ρ tb fun y g2 => ∃ n ps, y = VS a n ps ∧ ps.length ≤ 12 ∧ k (.v (.bl (has ps i))) g2) : wpE W H0 g ρ (tOp (rInOwn a.C_ValueSet (mkSp (containsC (K := K) a)) E) ta tb) k :=
  e_inOwn (h.mono fun x g1 ⟨i, e, h2⟩ => h2.mono fun y g2 ⟨n, ps, e2, hl, q⟩ => ⟨_, e2, fun W' I => ⟨n, ps, x, by rw [e2], hl, by rw [e]; exact kn_int, _, rfl, by rw [e]; exact q⟩⟩)
theorem e_hasN (h : wpE W H0 g ρ ta fun x g1 => ∃ i : Int, x = .v (.int i) ∧ wpE W H0 g1 ρ tb fun y g2 => ∃ n ps, y = VS a n ps ∧ ps.length ≤ 12 ∧ k (.v (.bl (!has ps i))) g2) : wpE W H0 g ρ (tOp (rNotInOwn a.C_ValueSet (mkSp (containsC (K := K) a)) E) ta tb) k :=
  e_notInOwn (h.mono fun x g1 ⟨i, e, h2⟩ => h2.mono fun y g2 ⟨n, ps, e2, hl, q⟩ => ⟨_, e2, fun W' I => ⟨n, ps, x, by rw [e2], hl, by rw [e]; exact kn_int, _, rfl, by rw [e]; exact q⟩⟩)
theorem vs_notFirst : PySem.W.notFirst K a.C_ValueSet (.ref a.C_ValueSet) = true := by unfold PySem.W.notFirst; rw [beq_self_eq_true]; rfl
theorem decide_refl' {α : Type} [DecidableEq α] (x : α) : decide (x = x) = true := decide_eq_true rfl
theorem e_eqV {neg : Bool} (h : wpE W H0 g ρ ta fun r g1 => ∃ n ps, r = VS a n ps ∧ wpE W H0 g1 ρ tb fun y g2 => ∃ qs, y = VS a n qs ∧ k (.v (.bl (xor neg (decide (ps = qs))))) g2) : wpE W H0 g ρ (tOp (rEqOwn K a.C_ValueSet (mkSp (eqC a)) neg E) ta tb) k :=
  e_eqOwn (h.mono fun r g1 ⟨n, ps, e, h2⟩ => h2.mono fun y g2 ⟨qs, e2, q⟩ => ⟨_, .ref a.C_ValueSet, e, by rw [e2]; rfl, vs_notFirst, fun W' I => ⟨n, ps, y, by rw [e], .inl ⟨n, qs, e2, _, rfl, by rw [decide_refl', Bool.true_and]; exact q⟩⟩⟩)
theorem e_neS (h : wpE W H0 g ρ ta fun r g1 => ∃ n ps, r = VS a n ps ∧ wpE W H0 g1 ρ tb fun y g2 => ∃ qs, y = VS a n qs ∧ ps = qs ∧ k (.v (.bl false)) g2) : wpE W H0 g ρ (tOp (rEqOwn K a.C_ValueSet (mkSp (eqC a)) true E) ta tb) k :=
  e_eqV (h.mono fun r g1 ⟨n, ps, e, h2⟩ => ⟨n, ps, e, h2.mono fun y g2 ⟨qs, e2, e3, q⟩ => ⟨qs, e2, by rw [decide_eq_true e3]; exact q⟩⟩)
theorem e_eqS (h : wpE W H0 g ρ ta fun r g1 => ∃ n ps, r = VS a n ps ∧ wpE W H0 g1 ρ tb fun y g2 => ∃ qs, y = VS a n qs ∧ ps = qs ∧ k (.v (.bl true)) g2) : wpE W H0 g ρ (tOp (rEqOwn K a.C_ValueSet (mkSp (eqC a)) false E) ta tb) k :=
  e_eqV (h.mono fun r g1 ⟨n, ps, e, h2⟩ => ⟨n, ps, e, h2.mono fun y g2 ⟨qs, e2, e3, q⟩ => ⟨qs, e2, by rw [decide_eq_true e3]; exact q⟩⟩)
end
/-! repr of lists of stretches -/
theorem rp_prs {n : Int} {ps : List (Int × Int)} (h : OkR n ps) (hn : n ≤ 10 ^ 30) (hl : ps.length ≤ 12) : Rp 4 6100 (.lst (prs ps)) := by
  refine Rp.lst (n := 3) (w := 500) (fun d hd => ?_) (by rw [show (prs ps).length = ps.length from List.length_map _]; omega)
  obtain ⟨q, hq, rfl⟩ := List.mem_map.mp hd
  have := h.bd q hq
  have big : (10 : Int) ^ 30 = 1000000000000000000000000000000 := by decide
  have : (10 : Nat) ^ 62 = 100000000000000000000000000000000000000000000000000000000000000 := by decide
  exact Rp.tup (n := 2) (w := 211) (fun e he => by
    simp at he
    rcases he with rfl | rfl
    · exact .int (by omega) (by decide)
    · exact .int (by omega) (by decide)) (by show 212 * 2 ≤ 500; decide)
theorem rp_rows {n : Int} {L : List (List (Int × Int))} (h : ∀ ps ∈ L, OkR n ps ∧ ps.length ≤ 12) (hn : n ≤ 10 ^ 30) (hl : L.length ≤ 20) : Rp 5 160000 (.lst (L.map fun ps => .lst (prs ps))) := by
  refine Rp.lst (n := 4) (w := 6100) (fun d hd => ?_) (by rw [List.length_map]; omega)
  obtain ⟨ps, hp, rfl⟩ := List.mem_map.mp hd
  exact rp_prs (h ps hp).1 hn (h ps hp).2
theorem prs_len (ps : List (Int × Int)) : (prs ps).length = ps.length := List.length_map _
theorem nx_p {W W' : Wd Nat} {ρ : Rho} {p : Addr} {g : Nat} {many : Int} {kk : D → Nat → Prop} (I : In W W' ρ) (hu : Up W) (ht : Tp W p) (h1 : 1 ≤ many) (h2 : many ≤ 2 ^ 200) (h3 : g < 2 ^ 60) (h : ∀ r, 0 ≤ r → r < many → kk (.int r) (g + 1)) : nextC W' g [.v (.raw (.ref p)), .v (.int many)] kk noX := ⟨p, _, rfl, I.sub.up hu, I.sub.tp ht, h1, h2, h3, h⟩
theorem nx_o {W W' : Wd Nat} {ρ : Rho} {p : Addr} {g : Nat} {many : Int} {kk : D → Nat → Prop} {i : Nat} (I : In W W' ρ) (hu : Up W) (ht : ρ[i]? = some (.tp p)) (h1 : 1 ≤ many) (h2 : many ≤ 2 ^ 200) (h3 : g < 2 ^ 60) (h : ∀ r, 0 ≤ r → r < many → kk (.int r) (g + 1)) : nextC W' g [.v (.raw (.ref p)), .v (.int many)] kk noX := ⟨p, _, rfl, I.sub.up hu, I.tp p (List.mem_of_getElem? ht), h1, h2, h3, h⟩
theorem cutN (m : Nat) (ds : List D) : TL.cut ds none (some (m : Int)) = ds.take m := by
  unfold TL.cut
  have e : HT.sIx ds.length ds.length (some (m : Int)) = min m ds.length := HT.sIx_nat ds.length ds.length m
  have e0 : HT.sIx ds.length 0 none = 0 := rfl
  rw [e, e0, List.drop_zero, Nat.sub_zero]
  rcases Nat.le_total m ds.length with h | h
  · rw [Nat.min_eq_left h]
  · rw [Nat.min_eq_right h, List.take_length, List.take_of_length_le h]
theorem okR_take {n : Int} {ps : List (Int × Int)} (h : OkR n ps) (m : Nat) : OkR n (ps.take m) := ⟨fun q hq => h.bd q (List.mem_of_mem_take hq), h.ap.sublist (List.take_sublist _ _)⟩
end
end TL
set_option Elab.async false
set_option linter.all false
set_option maxRecDepth 100000
namespace TL
open PySem PySem.Spec L2
section
local macro_rules
  | `(tactic| o_reads) => `(tactic| with_reducible first
    | refine s_seq ?_ | refine s_asg ?_ | refine s_ret ?_ | refine s_next ?_ | refine s_if ?_ | refine t_test ?_ | refine t_B ?_ | refine t_and ?_ | refine t_or ?_ | refine t_not ?_
    | refine e_op ?_ | refine e_int ?_ | refine e_bl ?_ | refine e_str ?_ | refine e_cb ?_ | refine a_cons ?_ | refine a_nil ?_ | refine p_I0i ?_ | refine p_I0b ?_ | refine c_int ?_
    | refine e_call ?_ | refine e_make ?_ | refine e_prop ?_ | refine e_un ?_ | refine p_Ui ?_ | refine e_non ?_ | refine p_eqI ?_ | refine p_neI ?_ | refine p_addI ?_ | refine e_raw ?_ | refine e_lst ?_ | refine e_tup ?_ | refine e_andV ?_ | refine e_orV ?_ | refine e_if ?_ | refine e_notV ?_ | refine e_sl ?_ | refine o_some ?_ | refine o_no ?_ | refine e_revL ?_ | (refine Or.inl ⟨_, LstOf.v, ?_⟩)
    | (refine e_var (r := ?vr) ?va ?vb; case va => with_unfolding_all exact rfl) | (refine e_varO (ds := ?vr) ?va ?vb; case va => with_unfolding_all exact rfl) | (refine e_varT (p := ?vr) ?va ?vb; case va => with_unfolding_all exact rfl)
    | (refine p_Ii ?pa ?pb; case pa => first | exact wide_mul (a := 64) (b := 64) (by first | decide | omega) (by first | decide | omega) (by decide) (by decide) (by decide) | exact pow_ok (n := 64) (by decide) (by decide) (by decide) (by decide) (by decide) | decide | omega)
    | (refine ⟨?vd, (?va : Vs _ _), ?vb, ?vc⟩; (case va => first | exact .nil | exact .cons .nil | exact .cons (.cons .nil) | exact .cons (.cons (.cons .nil)) | exact .cons (.cons (.cons (.cons .nil))) | exact .cons (.cons (.cons (.cons (.cons .nil)))) | exact .cons (.cons (.cons (.cons (.cons (.cons .nil))))) | exact .cons (.cons (.cons (.cons (.cons (.cons (.cons .nil)))))) | exact .cons (.cons (.cons (.cons (.cons (.cons (.cons (.cons .nil))))))) | exact .cons (.cons (.cons (.cons (.cons (.cons (.cons (.cons (.cons .nil)))))))) | exact .cons (.cons (.cons (.cons (.cons (.cons (.cons (.cons (.cons (.cons .nil))))))))) | exact .cons (.cons (.cons (.cons (.cons (.cons (.cons (.cons (.cons (.cons (.cons .nil)))))))))) | exact .cons (.cons (.cons (.cons (.cons (.cons (.cons (.cons (.cons (.cons (.cons (.cons .nil))))))))))) | exact .cons (.cons (.cons (.cons (.cons (.cons (.cons (.cons (.cons (.cons (.cons (.cons (.cons .nil)))))))))))) | exact .cons (.cons (.cons (.cons (.cons (.cons (.cons (.cons (.cons (.cons (.cons (.cons (.cons (.cons .nil))))))))))))) | exact .cons (.cons (.cons (.cons (.cons (.cons (.cons (.cons (.cons (.cons (.cons (.cons (.cons (.cons (.cons .nil)))))))))))))) | exact .cons (.cons (.cons (.cons (.cons (.cons (.cons (.cons (.cons (.cons (.cons (.cons (.cons (.cons (.cons (.cons .nil))))))))))))))) | exact .cons (.cons (.cons (.cons (.cons (.cons (.cons (.cons (.cons (.cons (.cons (.cons (.cons (.cons (.cons (.cons (.cons .nil)))))))))))))))) | exact .cons (.cons (.cons (.cons (.cons (.cons (.cons (.cons (.cons (.cons (.cons (.cons (.cons (.cons (.cons (.cons (.cons (.cons .nil)))))))))))))))))); (case vb => with_unfolding_all exact Nat.le_of_ble_eq_true rfl))
    | (refine ⟨_, rfl, fun _ => ?vx, ?no⟩; (case no => (intro z; with_unfolding_all cases z; done))) | (refine ⟨_, rfl, ?no, fun _ => ?vx⟩; (case no => (intro z; with_unfolding_all cases z; done))) | (refine ⟨?no, fun _ => ?vx⟩; (case no => (intro z; with_unfolding_all cases z; done))) | (refine ⟨fun _ => ?vx, ?no⟩; (case no => (intro z; with_unfolding_all cases z; done))) | (refine ⟨_, rfl, fun hb => ?_, fun hb => ?_⟩) | (refine ⟨_, rfl, ?_⟩))
local macro_rules
  | `(tactic| o_readsAll) => `(tactic| repeat o_reads)
variable {P : Program} {w : World} {K : PySem.W.Frag} {mg : Str → Option Value} {base : Heap} {a : Ad}

/-- which classes the raised one belongs to -/
structure KF (K : PySem.W.Frag) (a : Ad) (D : Addr) (b1 b2 b3 b4 b5 b6 b7 b8 b9 : Bool) : Prop where
  ec : ExcC K D
  v : PySem.W.kitOne K (.ref D) (.type "ValueError") = some true
  k1 : PySem.W.kitOne K (.ref D) (.ref a.C_InvalidSizes) = some b1
  k2 : PySem.W.kitOne K (.ref D) (.ref a.C_InvalidSet) = some b2
  k3 : PySem.W.kitOne K (.ref D) (.ref a.C_InvalidBox) = some b3
  k4 : PySem.W.kitOne K (.ref D) (.ref a.C_InvalidOrder) = some b4
  k5 : PySem.W.kitOne K (.ref D) (.ref a.C_InvalidKey) = some b5
  k6 : PySem.W.kitOne K (.ref D) (.ref a.C_InvalidNumber) = some b6
  k7 : PySem.W.kitOne K (.ref D) (.ref a.C_OtherSizes) = some b7
  k8 : PySem.W.kitOne K (.ref D) (.ref a.C_EmptyBox) = some b8
  k9 : PySem.W.kitOne K (.ref D) (.ref a.C_TooMany) = some b9
  o1 : PySem.W.kitOne K (.ref D) (.ref a.C_InvalidCondition) = some false
  o2 : PySem.W.kitOne K (.ref D) (.ref a.C_InvalidTable) = some false
  o3 : PySem.W.kitOne K (.ref D) (.ref a.C_InvalidWish) = some false
  o4 : PySem.W.kitOne K (.ref D) (.ref a.C_InvalidBoxes) = some false
  o5 : PySem.W.kitOne K (.ref D) (.ref a.C_InvalidText) = some false
  o6 : PySem.W.kitOne K (.ref D) (.ref a.C_AlreadyThere) = some false
  o7 : PySem.W.kitOne K (.ref D) (.ref a.C_NotThere) = some false
  o8 : PySem.W.kitOne K (.ref D) (.ref a.C_NothingToUndo) = some false
theorem kit_none {K : PySem.W.Frag} {t : Value} : ∀ {l : List Value}, (∀ c ∈ l, PySem.W.kitOne K t c = some false) → PySem.W.kitAny K t l = some false
  | [], _ => rfl
  | c :: r, h => by
    show (match PySem.W.kitOne K t c with | some true => some true | some false => PySem.W.kitAny K t r | none => none) = some false
    rw [h c List.mem_cons_self]
    exact kit_none fun d hd => h d (List.mem_cons_of_mem _ hd)
def wordsK (b1 b2 b3 b4 b5 b6 b7 b8 b9 : Bool) : List (Str × Bool) := [("sizes", b1), ("set", b2), ("box", b3), ("order", b4), ("key", b5), ("number", b6), ("other", b7), ("empty", b8), ("many", b9)]
def kindW (l : List (Str × Bool)) : Str := Str.join " " ((l.filter (·.2)).map (·.1)) ++ Str.empty
def kindC (K : PySem.W.Frag) (a : Ad) : Addr → Addr → Ct Nat := fun D e _ g rs k _ => ∃ b1 b2 b3 b4 b5 b6 b7 b8 b9 : Bool, rs = [.v (.raw (.ref e))] ∧ KF K a D b1 b2 b3 b4 b5 b6 b7 b8 b9 ∧ k (.str (kindW (wordsK b1 b2 b3 b4 b5 b6 b7 b8 b9))) g
def wd (p : Str × Bool) : D := .tup [.str p.1, .bl p.2]
theorem wd_join {l : List (Str × Bool)} : ((l.map wd).filter fun d => match d with | .tup [.str _, .bl b] => b | _ => false).map (fun d => match d with | .tup [.str w, .bl _] => D.str w | _ => .non) = ((l.filter (·.2)).map (·.1)).map D.str := by
  induction l with
  | nil => rfl
  | cons p l ih =>
    obtain ⟨w, b⟩ := p
    cases b with
    | true =>
      show D.str w :: _ = D.str w :: _
      rw [← ih]
    | false => exact ih
theorem words_len {l : List (Str × Bool)} {n : Nat} (h : ∀ p ∈ l, p.1.length ≤ n) : (((l.filter (·.2)).map (·.1)).map (·.length)).sum ≤ n * l.length ∧ ((l.filter (·.2)).map (·.1)).length ≤ l.length := by
  induction l with
  | nil => exact ⟨Nat.le_refl _, Nat.le_refl _⟩
  | cons p l ih =>
    obtain ⟨i1, i2⟩ := ih fun q hq => h q (List.mem_cons_of_mem _ hq)
    have hp := h p List.mem_cons_self
    obtain ⟨w, b⟩ := p
    have e : n * (l.length + 1) = n * l.length + n := Nat.mul_succ _ _
    cases b with
    | true =>
      have a1 : w.length ≤ n := hp
      exact ⟨Nat.le_trans (Nat.add_le_add a1 i1) (by show n + n * l.length ≤ n * (l.length + 1); omega), Nat.succ_le_succ i2⟩
    | false => exact ⟨Nat.le_trans i1 (by show _ ≤ n * (l.length + 1); omega), Nat.le_succ_of_le i2⟩
theorem join_len (a : Str) : ∀ ys : List Str, (Str.join a ys).length ≤ (ys.map (·.length)).sum + ys.length * a.length
  | [] => Nat.zero_le _
  | [y] => by show y.length ≤ y.length + 0 + 1 * a.length; omega
  | y :: z :: r => by
    have h := join_len a (z :: r)
    have e : (Str.join a (y :: z :: r)).length = y.length + a.length + (Str.join a (z :: r)).length := by
      show (y ++ a ++ Str.join a (z :: r)).length = _
      show ((y.cps ++ a.cps) ++ (Str.join a (z :: r)).cps).size = y.cps.size + a.cps.size + (Str.join a (z :: r)).cps.size
      rw [Array.size_append, Array.size_append]
    have e2 : ((y :: z :: r).map (·.length)).sum = y.length + ((z :: r).map (·.length)).sum := rfl
    have e3 : (y :: z :: r).length * a.length = (z :: r).length * a.length + a.length := Nat.succ_mul _ _
    rw [e, e2, e3]
    omega
theorem ok_law_kind (T : Tx K mg a) : FnE P w K mg base CX0 1 a.f__law_kind a.d__law_kind ["e"] (fun D e => mkSp (kindC K a D e)) := by
  refine Fun_e T.F__law_kind sc__law_kind (fun D e W g rs k x ⟨b1, b2, b3, b4, b5, b6, b7, b8, b9, e, _⟩ => by rw [e]; rfl) fun cdv A outer s H E p D W g rs kd x hot hz hr ⟨b1, b2, b3, b4, b5, b6, b7, b8, b9, e, h, k⟩ => ?_
  subst e
  have hE := h.ec
  have hot1 : L2H.HotC (L2H.cxH CX0 P w K mg base ["e", "found", "odd", "word", "flag"] "_law_kind" (defScope s__law_kind) a.f__law_kind cdv A outer s H E p) := ⟨p, hot, List.mem_singleton_self _⟩
  refine ⟨_, (pss_cons (ps_if (pt_not (pt_val (pe_callB (call_isP (K := K) rfl hE (List.mem_singleton_self _) hz (hot_data hot)) rfl T.n_isinstance (by decide +kernel) (pa_cons (pv 0) (pa_cons (pe_bltn (v := .ty "ValueError") rfl T.n_ValueError (by decide +kernel) rfl) pa_nil))))) (pss_one (ps_ret pe_str)) pss_nil)
      (pss_cons (ps_set (i := 1) sc__law_kind.nd rfl (Or.inl rfl) (pe_lst (pa_cons (pe_tup (pa_cons pe_str (pa_cons (pe_callB (call_isP (K := K) rfl hE (List.mem_singleton_self _) hz (hot_data hot)) rfl T.n_isinstance (by decide +kernel) (pa_cons (pv 0) (pa_cons (pe_glob (v := .ref a.C_InvalidSizes) rfl T.g_InvalidSizes rfl) pa_nil))) pa_nil))) (pa_cons (pe_tup (pa_cons pe_str (pa_cons (pe_callB (call_isP (K := K) rfl hE (List.mem_singleton_self _) hz (hot_data hot)) rfl T.n_isinstance (by decide +kernel) (pa_cons (pv 0) (pa_cons (pe_glob (v := .ref a.C_InvalidSet) rfl T.g_InvalidSet rfl) pa_nil))) pa_nil))) pa_nil))))
      (pss_cons (ps_expr (pe_bm PySem.F.plainAttrs_list PySem.F.slot_list_append PySem.F.type_list_append mt_append (pv 1) (pa_cons (pe_tup (pa_cons pe_str (pa_cons (pe_callB (call_isP (K := K) rfl hE (List.mem_singleton_self _) hz (hot_data hot)) rfl T.n_isinstance (by decide +kernel) (pa_cons (pv 0) (pa_cons (pe_glob (v := .ref a.C_InvalidBox) rfl T.g_InvalidBox rfl) pa_nil))) pa_nil))) pa_nil)))
      (pss_cons (ps_set (i := 1) sc__law_kind.nd rfl (Or.inl rfl) (pe_op (op_plusK (K := K) rfl) (pv 1) (pe_lst (pa_cons (pe_tup (pa_cons pe_str (pa_cons (pe_callB (call_isP (K := K) rfl hE (List.mem_singleton_self _) hz (hot_data hot)) rfl T.n_isinstance (by decide +kernel) (pa_cons (pv 0) (pa_cons (pe_glob (v := .ref a.C_InvalidOrder) rfl T.g_InvalidOrder rfl) pa_nil))) pa_nil))) (pa_cons (pe_tup (pa_cons pe_str (pa_cons (pe_callB (call_isP (K := K) rfl hE (List.mem_singleton_self _) hz (hot_data hot)) rfl T.n_isinstance (by decide +kernel) (pa_cons (pv 0) (pa_cons (pe_glob (v := .ref a.C_InvalidKey) rfl T.g_InvalidKey rfl) pa_nil))) pa_nil))) pa_nil)))))
      (pss_cons (ps_set (i := 1) sc__law_kind.nd rfl (Or.inl rfl) (pe_op (op_plusK (K := K) rfl) (pv 1) (pe_lst (pa_cons (pe_tup (pa_cons pe_str (pa_cons (pe_callB (call_isP (K := K) rfl hE (List.mem_singleton_self _) hz (hot_data hot)) rfl T.n_isinstance (by decide +kernel) (pa_cons (pv 0) (pa_cons (pe_glob (v := .ref a.C_InvalidNumber) rfl T.g_InvalidNumber rfl) pa_nil))) pa_nil))) (pa_cons (pe_tup (pa_cons pe_str (pa_cons (pe_callB (call_isP (K := K) rfl hE (List.mem_singleton_self _) hz (hot_data hot)) rfl T.n_isinstance (by decide +kernel) (pa_cons (pv 0) (pa_cons (pe_glob (v := .ref a.C_OtherSizes) rfl T.g_OtherSizes rfl) pa_nil))) pa_nil))) pa_nil)))))
      (pss_cons (ps_set (i := 1) sc__law_kind.nd rfl (Or.inl rfl) (pe_op (op_plusK (K := K) rfl) (pv 1) (pe_lst (pa_cons (pe_tup (pa_cons pe_str (pa_cons (pe_callB (call_isP (K := K) rfl hE (List.mem_singleton_self _) hz (hot_data hot)) rfl T.n_isinstance (by decide +kernel) (pa_cons (pv 0) (pa_cons (pe_glob (v := .ref a.C_EmptyBox) rfl T.g_EmptyBox rfl) pa_nil))) pa_nil))) (pa_cons (pe_tup (pa_cons pe_str (pa_cons (pe_callB (call_isP (K := K) rfl hE (List.mem_singleton_self _) hz (hot_data hot)) rfl T.n_isinstance (by decide +kernel) (pa_cons (pv 0) (pa_cons (pe_glob (v := .ref a.C_TooMany) rfl T.g_TooMany rfl) pa_nil))) pa_nil))) pa_nil)))))
      (pss_cons (ps_set (i := 2) sc__law_kind.nd rfl (Or.inl rfl) (pe_callB (call_isP (K := K) rfl hE (List.mem_singleton_self _) hz (hot_data hot)) rfl T.n_isinstance (by decide +kernel) (pa_cons (pv 0) (pa_cons (pe_tup (pa_cons (pe_glob (v := .ref a.C_InvalidCondition) rfl T.g_InvalidCondition rfl) (pa_cons (pe_glob (v := .ref a.C_InvalidTable) rfl T.g_InvalidTable rfl) (pa_cons (pe_glob (v := .ref a.C_InvalidWish) rfl T.g_InvalidWish rfl) (pa_cons (pe_glob (v := .ref a.C_InvalidBoxes) rfl T.g_InvalidBoxes rfl) (pa_cons (pe_glob (v := .ref a.C_InvalidText) rfl T.g_InvalidText rfl) (pa_cons (pe_glob (v := .ref a.C_AlreadyThere) rfl T.g_AlreadyThere rfl) pa_nil))))))) pa_nil))))
      (pss_cons (ps_set (i := 2) sc__law_kind.nd rfl (Or.inl rfl) (pe_or (pv 2) (pe_one (pe_callB (call_isP (K := K) rfl hE (List.mem_singleton_self _) hz (hot_data hot)) rfl T.n_isinstance (by decide +kernel) (pa_cons (pv 0) (pa_cons (pe_tup (pa_cons (pe_glob (v := .ref a.C_NotThere) rfl T.g_NotThere rfl) (pa_cons (pe_glob (v := .ref a.C_NothingToUndo) rfl T.g_NothingToUndo rfl) pa_nil))) pa_nil))))))
      (pss_one (ps_ret (pe_op (op_plusK (K := K) rfl) (pe_joinK (K := K) rfl pe_str (TLH.pe_lcP (own := [("word", 3), ("flag", 4)]) hot1 sc__law_kind.nd  (TLH.pi_listP (F := K) rfl (pv 1)) (blkOk_by (N := ["e", "found", "odd", "word", "flag"]) (sc := defScope s__law_kind) (by decide +kernel)) (fun _ _ _ _ _ hB => (TLH.pg_tupP (K := K) (n := 2) rfl hB.at (pgs_cons (pg_name (i := 3) (x := "word") sc__law_kind.nd rfl (Or.inl rfl)) (pgs_cons (pg_name (i := 4) (x := "flag") sc__law_kind.nd rfl (Or.inl rfl)) pgs_nil)))) (fun _ _ _ _ _ => (pts_one (pt_val (pv 4)))) (fun _ _ _ _ _ => (pv 3)))) (pe_op op_srep pe_str (pe_callTy cr_int rfl T.n_int PyProof.Rows.boot_int (pa_cons (pv 2) pa_nil)))))))))))))), ?_⟩
  o_readsAll
  refine c_isPT h.v ?_
  refine ⟨true, rfl, (fun z => nomatch z), fun _ => ?_⟩
  refine s_next ?_
  show wpS W H g [.v (.raw (.ref p.1)), .un, .un, .un, .un] _ _
  refine s_seq (s_new (n_lst ?_))
  o_readsAll
  refine c_isP h.k1 ?_
  o_readsAll
  refine c_isP h.k2 ?_
  o_readsAll
  show wpS W H g [.v (.raw (.ref p.1)), .ow [wd ("sizes", b1), wd ("set", b2)], .un, .un, .un] _ _
  refine s_seq (s_app (i := 1) (ds := [wd ("sizes", b1), wd ("set", b2)]) rfl (by show 2 ≤ 1000000; decide) ?_)
  o_readsAll
  refine c_isP h.k3 ?_
  o_readsAll
  show wpS W H g [.v (.raw (.ref p.1)), .ow [wd ("sizes", b1), wd ("set", b2), wd ("box", b3)], .un, .un, .un] _ _
  refine s_shr 1 rfl ?_
  refine s_next ?_
  show wpS W H g [.v (.raw (.ref p.1)), .v (.lst [wd ("sizes", b1), wd ("set", b2), wd ("box", b3)]), .un, .un, .un] _ _
  o_readsAll
  refine c_isP h.k4 ?_
  o_readsAll
  refine c_isP h.k5 ?_
  o_readsAll
  refine p_cat .v .v (by show 3 + 2 ≤ 1000000; decide) ⟨_, rfl, ?_⟩
  show wpS W H g [.v (.raw (.ref p.1)), .v (.lst [wd ("sizes", b1), wd ("set", b2), wd ("box", b3), wd ("order", b4), wd ("key", b5)]), .un, .un, .un] _ _
  o_readsAll
  refine c_isP h.k6 ?_
  o_readsAll
  refine c_isP h.k7 ?_
  o_readsAll
  refine p_cat .v .v (by show 5 + 2 ≤ 1000000; decide) ⟨_, rfl, ?_⟩
  show wpS W H g [.v (.raw (.ref p.1)), .v (.lst [wd ("sizes", b1), wd ("set", b2), wd ("box", b3), wd ("order", b4), wd ("key", b5), wd ("number", b6), wd ("other", b7)]), .un, .un, .un] _ _
  o_readsAll
  refine c_isP h.k8 ?_
  o_readsAll
  refine c_isP h.k9 ?_
  o_readsAll
  refine p_cat .v .v (by show 7 + 2 ≤ 1000000; decide) ⟨_, rfl, ?_⟩
  show wpS W H g [.v (.raw (.ref p.1)), .v (.lst ((wordsK b1 b2 b3 b4 b5 b6 b7 b8 b9).map wd)), .un, .un, .un] _ _
  o_readsAll
  refine c_isPs (Cs := [a.C_InvalidCondition, a.C_InvalidTable, a.C_InvalidWish, a.C_InvalidBoxes, a.C_InvalidText, a.C_AlreadyThere]) (kit_none ?_) ?_
  · intro c hc
    simp only [List.map_cons, List.map_nil, List.mem_cons, List.not_mem_nil, or_false] at hc
    rcases hc with rfl | rfl | rfl | rfl | rfl | rfl
    · exact h.o1
    · exact h.o2
    · exact h.o3
    · exact h.o4
    · exact h.o5
    · exact h.o6
  refine ⟨_, rfl, ?_⟩
  show wpS W H g [.v (.raw (.ref p.1)), .v (.lst ((wordsK b1 b2 b3 b4 b5 b6 b7 b8 b9).map wd)), .v (.bl false), .un, .un] _ _
  o_readsAll
  refine c_isPs (Cs := [a.C_NotThere, a.C_NothingToUndo]) (kit_none ?_) ?_
  · intro c hc
    simp only [List.map_cons, List.map_nil, List.mem_cons, List.not_mem_nil, or_false] at hc
    rcases hc with rfl | rfl
    · exact h.o7
    · exact h.o8
  refine ⟨_, rfl, ?_⟩
  show wpS W H g [.v (.raw (.ref p.1)), .v (.lst ((wordsK b1 b2 b3 b4 b5 b6 b7 b8 b9).map wd)), .v (.bl false), .un, .un] _ _
  have hw : ∀ q ∈ wordsK b1 b2 b3 b4 b5 b6 b7 b8 b9, q.1.length ≤ 10 := fun q hq => by
    simp only [wordsK, List.mem_cons, List.not_mem_nil, or_false] at hq
    rcases hq with rfl | rfl | rfl | rfl | rfl | rfl | rfl | rfl | rfl <;> exact Nat.le_of_ble_eq_true rfl
  obtain ⟨w1, w2⟩ := words_len hw
  have w1 : _ ≤ 90 := w1
  have w2 : _ ≤ 9 := w2
  refine s_ret (e_op (e_join (e_str ⟨_, rfl, e_new (n_filter (i_list (e_var rfl ⟨(wordsK b1 b2 b3 b4 b5 b6 b7 b8 b9).map wd, rfl, (by show 9 ≤ 1000000; decide), (fun d => match d with | .tup [.str _, .bl b] => b | _ => false), (fun d => match d with | .tup [.str w, .bl _] => TL.D.str w | _ => .non), fun d hd => ?_, ?_⟩)))⟩)))
  · obtain ⟨q, _, rfl⟩ := List.mem_map.mp hd
    refine ⟨_, gt_tup2 (by decide), ?_⟩
    o_readsAll
    exact ⟨rfl, rfl, fun _ => e_var rfl ⟨rfl, rfl⟩⟩
  · refine ⟨((wordsK b1 b2 b3 b4 b5 b6 b7 b8 b9).filter (·.2)).map (·.1), by rw [wd_join]; exact .v, by show _ + _ * 1 ≤ 16777216; omega, ?_⟩
    o_readsAll
    have jl := join_len " " (((wordsK b1 b2 b3 b4 b5 b6 b7 b8 b9).filter (·.2)).map (·.1))
    have jl : _ ≤ _ + _ * 1 := jl
    exact c_intB (p_srep (b := false) (p_catS (by show _ + 0 ≤ 1000000; omega) ⟨_, rfl, k⟩))
end
end TL
set_option Elab.async false
set_option linter.all false
set_option maxRecDepth 100000
namespace TL
open PySem PySem.Spec L2
section
local macro_rules
  | `(tactic| o_reads) => `(tactic| with_reducible first
    | refine s_seq ?_ | refine s_asg ?_ | refine s_ret ?_ | refine s_next ?_ | refine s_if ?_ | refine t_test ?_ | refine t_B ?_ | refine t_and ?_ | refine t_or ?_ | refine t_not ?_
    | refine e_op ?_ | refine e_int ?_ | refine e_bl ?_ | refine e_str ?_ | refine e_cb ?_ | refine a_cons ?_ | refine a_nil ?_ | refine p_I0i ?_ | refine p_I0b ?_ | refine c_int ?_
    | refine e_call ?_ | refine e_make ?_ | refine e_prop ?_ | refine e_un ?_ | refine p_Ui ?_ | refine e_non ?_ | refine p_eqI ?_ | refine p_neI ?_ | refine p_addI ?_ | refine e_raw ?_ | refine e_lst ?_ | refine e_tup ?_ | refine e_andV ?_ | refine e_orV ?_ | refine e_if ?_ | refine e_notV ?_ | refine e_sl ?_ | refine o_some ?_ | refine o_no ?_ | refine e_revL ?_ | (refine Or.inl ⟨_, LstOf.v, ?_⟩)
    | (refine e_var (r := ?vr) ?va ?vb; case va => with_unfolding_all exact rfl) | (refine e_varO (ds := ?vr) ?va ?vb; case va => with_unfolding_all exact rfl) | (refine e_varT (p := ?vr) ?va ?vb; case va => with_unfolding_all exact rfl)
    | (refine p_Ii ?pa ?pb; case pa => first | exact wide_mul (a := 64) (b := 64) (by first | decide | omega) (by first | decide | omega) (by decide) (by decide) (by decide) | exact pow_ok (n := 64) (by decide) (by decide) (by decide) (by decide) (by decide) | decide | omega)
    | (refine ⟨?vd, (?va : Vs _ _), ?vb, ?vc⟩; (case va => first | exact .nil | exact .cons .nil | exact .cons (.cons .nil) | exact .cons (.cons (.cons .nil)) | exact .cons (.cons (.cons (.cons .nil))) | exact .cons (.cons (.cons (.cons (.cons .nil)))) | exact .cons (.cons (.cons (.cons (.cons (.cons .nil))))) | exact .cons (.cons (.cons (.cons (.cons (.cons (.cons .nil)))))) | exact .cons (.cons (.cons (.cons (.cons (.cons (.cons (.cons .nil))))))) | exact .cons (.cons (.cons (.cons (.cons (.cons (.cons (.cons (.cons .nil)))))))) | exact .cons (.cons (.cons (.cons (.cons (.cons (.cons (.cons (.cons (.cons .nil))))))))) | exact .cons (.cons (.cons (.cons (.cons (.cons (.cons (.cons (.cons (.cons (.cons .nil)))))))))) | exact .cons (.cons (.cons (.cons (.cons (.cons (.cons (.cons (.cons (.cons (.cons (.cons .nil))))))))))) | exact .cons (.cons (.cons (.cons (.cons (.cons (.cons (.cons (.cons (.cons (.cons (.cons (.cons .nil)))))))))))) | exact .cons (.cons (.cons (.cons (.cons (.cons (.cons (.cons (.cons (.cons (.cons (.cons (.cons (.cons .nil))))))))))))) | exact .cons (.cons (.cons (.cons (.cons (.cons (.cons (.cons (.cons (.cons (.cons (.cons (.cons (.cons (.cons .nil)))))))))))))) | exact .cons (.cons (.cons (.cons (.cons (.cons (.cons (.cons (.cons (.cons (.cons (.cons (.cons (.cons (.cons (.cons .nil))))))))))))))) | exact .cons (.cons (.cons (.cons (.cons (.cons (.cons (.cons (.cons (.cons (.cons (.cons (.cons (.cons (.cons (.cons (.cons .nil)))))))))))))))) | exact .cons (.cons (.cons (.cons (.cons (.cons (.cons (.cons (.cons (.cons (.cons (.cons (.cons (.cons (.cons (.cons (.cons (.cons .nil)))))))))))))))))); (case vb => with_unfolding_all exact Nat.le_of_ble_eq_true rfl))
    | (refine ⟨_, rfl, fun _ => ?vx, ?no⟩; (case no => (intro z; with_unfolding_all cases z; done))) | (refine ⟨_, rfl, ?no, fun _ => ?vx⟩; (case no => (intro z; with_unfolding_all cases z; done))) | (refine ⟨?no, fun _ => ?vx⟩; (case no => (intro z; with_unfolding_all cases z; done))) | (refine ⟨fun _ => ?vx, ?no⟩; (case no => (intro z; with_unfolding_all cases z; done))) | (refine ⟨_, rfl, fun hb => ?_, fun hb => ?_⟩) | (refine ⟨_, rfl, ?_⟩))
local macro_rules
  | `(tactic| o_readsAll) => `(tactic| repeat o_reads)
variable {P : Program} {w : World} {K : PySem.W.Frag} {mg : Str → Option Value} {base : Heap} {a : Ad}

/-! ### boxes -/
/-- a set: its size and its stretches -/
abbrev VSt := Int × List (Int × Int)
abbrev vD (a : Ad) (v : VSt) : D := .ins a.C_ValueSet (vsF v.1 (prs v.2))
abbrev bxF (a : Ad) (L : List VSt) : List (Str × D) := [("_sets", .lst (L.map (vD a)))]
abbrev bxD (a : Ad) (L : List VSt) : D := .ins a.C_Box (bxF a L)
def isV (a : Ad) : D → Bool
  | .ins C _ => decide (C = a.C_ValueSet)
  | _ => false
/-- a thing of which isinstance tells whether it is a set -/
def Kv (K : PySem.W.Frag) (a : Ad) (d : D) : Prop := (∃ fs, d = .ins a.C_ValueSet fs) ∨ (isV a d = false ∧ ∀ k : Rs → Prop, k (.v (.bl false)) → wpC (rIsi K) [.v d, .v (.raw (.ref a.C_ValueSet))] k)
def setsOk (a : Ad) (ds : List D) : Bool := decide (1 ≤ ds.length) && decide (ds.length ≤ 8) && ds.all (isV a)
def _are_setsC (K : PySem.W.Frag) (a : Ad) : Ct Nat := fun _ g rs k _ => ∃ r, rs = [r] ∧ ((Kn K r ∧ r.isT "list" = false ∧ k (.bl false) g) ∨ (∃ ds, LstOf r ds ∧ ds.length ≤ 100000 ∧ (∀ d ∈ ds, Kv K a d) ∧ k (.bl (setsOk a ds)) g))
theorem kn_lst {r : Rs} {ds : List D} (l : LstOf r ds) : Kn K r := by
  cases l
  · exact .t rfl (by decide)
  · exact .t rfl (by decide)
theorem isT_lst {r : Rs} {ds : List D} (l : LstOf r ds) : r.isT "list" = true := by
  cases l <;> rfl
theorem kv_set {v : VSt} : Kv K a (vD a v) := .inl ⟨_, rfl⟩
theorem setsOk_map {L : List VSt} (h1 : 1 ≤ L.length) (h2 : L.length ≤ 8) : setsOk a (L.map (vD a)) = true := by
  unfold setsOk
  rw [List.length_map, decide_eq_true h1, decide_eq_true h2, List.all_map]
  show L.all (fun v => isV a (vD a v)) = true
  exact List.all_eq_true.mpr fun v _ => decide_eq_true rfl
theorem ok__are_sets (T : Tx K mg a) : FnOk P w K mg base CX0 1 a.f__are_sets a.d__are_sets ["thing"] (mkSp (_are_setsC K a)) := by
  refine Fun_t T.F__are_sets sc__are_sets (fun W g rs k x ⟨r, e, _⟩ => by rw [e]; rfl) fun cdv A outer s H E W g rs kd x hr ⟨r, e, h⟩ => ?_
  subst e
  refine ⟨_, (pss_cons (ps_if (PW.pt (pw_or (pt_not (pt_val (pe_callB (call_isiK (K := K) rfl) rfl T.n_isinstance (by decide +kernel) (pa_cons (pv 0) (pa_cons (pe_bltn (v := .ty "list") rfl T.n_list (by decide +kernel) rfl) pa_nil))))) (pw_or1 (pt_not (pt_chain op_le op_le pe_int (pe_callB (cr_lenK (K := K) rfl) rfl T.n_len (by decide +kernel) (pa_cons (pv 0) pa_nil)) (pe_globI rfl T.c_MOST_COLUMNS)))))) (pss_one (ps_ret pe_bl)) pss_nil)
      (pss_one (ps_ret (pe_callB (cr_allK (K := K) rfl rfl) rfl T.n_all (by decide +kernel) (pa_cons (pe_lc (own := [("one", 1)]) rfl sc__are_sets.nd  (pi_listK (K := K) rfl (pv 0)) (blkOk_by (N := ["thing", "one"]) (sc := defScope s__are_sets) (by decide +kernel)) (fun _ _ _ _ _ => (pg_name (i := 1) (x := "one") sc__are_sets.nd rfl (Or.inl rfl))) (fun _ _ _ _ _ => pts_nil) (fun _ _ _ _ _ => (pe_callB (call_isiK (K := K) rfl) rfl T.n_isinstance (by decide +kernel) (pa_cons (pv 1) (pa_cons (pe_glob (v := .ref a.C_ValueSet) rfl T.g_ValueSet rfl) pa_nil))))) pa_nil))))), ?_⟩
  refine s_seq (s_if (t_or (t_not (t_B ?_))))
  o_readsAll
  rcases h with ⟨hk, hT, k⟩ | ⟨ds, l, hz, hv, k⟩
  · refine hk.isi (by decide) ?_
    rw [hT]
    refine ⟨_, rfl, fun _ => ⟨fun _ => s_ret (e_bl ⟨_, rfl, k⟩), (fun z => nomatch z)⟩, (fun z => nomatch z)⟩
  · refine (kn_lst l).isi (by decide) ?_
    rw [isT_lst l]
    refine ⟨_, rfl, (fun z => nomatch z), fun _ => ?_⟩
    have sq : SeqOf r ds := by cases l; exact .v; exact .b
    have rt : ∀ g' : Nat, ∀ b : Bool, setsOk a ds = b → kd (.bl b) g := fun g' b e => e ▸ k
    have no : (decide (1 ≤ ds.length) && decide (ds.length ≤ 8)) = false → kd (.bl false) g := fun e => by
      unfold setsOk at k
      rw [e] at k; exact k
    refine t_not (t_test (e_chain (e_int ?_)))
    refine e_cb (a_cons (e_var rfl (a_nil (c_len sq ?_))))
    refine p_I0b ⟨_, rfl, fun b1 => ?_, fun b1 => ?_⟩
    · refine e_int (p_I0b ?_)
      o_readsAll
      · rename_i b2
        exact no (by rw [decide_eq_false (show ¬ ds.length ≤ 8 by have b2 := of_decide_eq_false (show decide ((ds.length : Int) ≤ 8) = false by simpa using b2); omega), Bool.and_false])
      · rename_i b2
        refine s_next (s_ret (e_cb (a_cons (e_new (n_map (i_listR rfl l ⟨by omega, fun d => .bl (isV a d), fun d hd => ?_, ?_⟩))))))
        · refine ⟨_, gt_name, e_cb (a_cons (e_var rfl (a_cons (e_raw (a_nil ?_)))))⟩
          rcases hv d hd with ⟨fs, rfl⟩ | ⟨h1, h2⟩
          · refine c_isiSame T.it_ValueSet ⟨rfl, ?_⟩
            show Rs.v (.bl true) = .v (.bl (decide (a.C_ValueSet = a.C_ValueSet)))
            rw [decide_eq_true rfl]
          · refine h2 _ ⟨rfl, ?_⟩
            show Rs.v (.bl false) = .v (.bl (isV a d))
            rw [h1]
        · rw [show ds.map (fun d => D.bl (isV a d)) = (ds.map (isV a)).map D.bl by rw [List.map_map]; rfl]
          refine a_nil (c_all .v ⟨_, rfl, ?_⟩)
          rw [List.all_map]
          unfold setsOk at k
          rw [decide_eq_true (show 1 ≤ ds.length by have := of_decide_eq_true b1; omega), decide_eq_true (show ds.length ≤ 8 by have b2 := of_decide_eq_true (show decide ((ds.length : Int) ≤ 8) = true by simpa using b2); omega)] at k
          exact k
    · refine ⟨_, rfl, fun _ => ?_, (fun z => nomatch z)⟩
      exact s_ret (e_bl ⟨_, rfl, no (by rw [decide_eq_false (show ¬ 1 ≤ ds.length by have := of_decide_eq_false b1; omega), Bool.false_and])⟩)
/-- no list of one to eight sets -/
def BadSets (K : PySem.W.Frag) (a : Ad) (r : Rs) : Prop := (Kn K r ∧ r.isT "list" = false) ∨ ∃ ds, LstOf r ds ∧ ds.length ≤ 100000 ∧ (∀ d ∈ ds, Kv K a d) ∧ setsOk a ds = false
def box_initC (K : PySem.W.Frag) (a : Ad) : Ci Nat := fun _ g rs k x => ∃ r, rs = [r] ∧ ((∃ L : List VSt, LstOf r (L.map (vD a)) ∧ 1 ≤ L.length ∧ L.length ≤ 8 ∧ k (bxF a L) g) ∨ (BadSets K a r ∧ x (.ref a.C_InvalidBox) g))
theorem ok_box_init (T : Tx K mg a) : FnOk P w K mg base (L2N.CX P w) 2 a.f_BoxU_initU a.d_BoxU_initU ["self", "sets"] (inSp a.C_Box (box_initC K a)) := by
  have G__are_sets : FnOk P w K mg base CX0 1 a.f__are_sets a.d__are_sets ["thing"] (mkSp (_are_setsC K a)) := ok__are_sets T
  refine Fun_initN T.F_BoxU_initU sc_BoxU_initU (fun W g rs k x ⟨r, e, _⟩ => by rw [e]; rfl) fun cdv A outer s H E W g p rs kd x hr ⟨r, e, h⟩ hx => ?_
  subst e
  refine ⟨_, (pss_cons (ps_if (pt_not (pt_val (pe_call G__are_sets (hr.mono (by decide)) rfl T.g__are_sets T.F__are_sets.kp T.b__are_sets .nil pass0 (pa_cons (pv 1) pa_nil)))) (pss_one (L2N.ps_raise rfl (L2N.takes_of rfl rfl rfl rfl) (L2N.pmk_own PySem.F.excBase_ValueError T.x_InvalidBox T.g_InvalidBox T.k_InvalidBox (raises_own T.xb_InvalidBox T.xt_InvalidBox) rfl))) pss_nil)
      (pss_one (ps_fld (pv 0) (pe_callTy (cr_listK (K := K) rfl) rfl T.n_list (by decide +kernel) (pa_cons (pv 1) pa_nil)) rfl))), ?_⟩
  refine s_seq (s_if (t_not (t_B ?_)))
  rcases h with ⟨L, l, n1, n8, k⟩ | ⟨hb, kx⟩
  · refine e_call (a_cons (e_var rfl (a_nil fun W' I => ⟨r, rfl, .inr ⟨_, l, by rw [List.length_map]; omega, fun d hd => ?_, _, rfl, ?_⟩⟩)))
    · obtain ⟨v, _, rfl⟩ := List.mem_map.mp hd
      exact kv_set
    rw [setsOk_map n1 n8]
    refine ⟨(fun z => nomatch z), fun _ => s_next ?_⟩
    refine s_fld (i := 0) rfl T.cl_Box T.na_Box__sets (by decide) (e_cb (a_cons (e_var rfl (a_nil (c_list (ds := L.map (vD a)) (by cases l; exact .v; exact .b) ⟨_, rfl, _, rfl, ?_⟩)))))
    exact k
  · refine e_call (a_cons (e_var rfl (a_nil fun W' I => ⟨r, rfl, ?_⟩)))
    rcases hb with ⟨hk, hT⟩ | ⟨ds, l, hz, hv, hf⟩
    · exact .inl ⟨hk, hT, _, rfl, fun _ => s_raise fun H' e => hx _ g H' kx e, fun z => nomatch z⟩
    · refine .inr ⟨ds, l, hz, hv, ?_⟩
      rw [hf]
      exact ⟨_, rfl, fun _ => s_raise fun H' e => hx _ g H' kx e, fun z => nomatch z⟩
def box_setsC (a : Ad) : Cn Nat := fun _ g rs k => ∃ L : List VSt, rs = [.v (bxD a L)] ∧ k (L.map (vD a)) g
theorem ok_box_sets (T : Tx K mg a) : FnOk P w K mg base CX0 1 a.f_Box_sets a.d_Box_sets ["self"] (mkSpN (box_setsC a)) := by
  refine Fun_tN1 T.F_Box_sets sc_Box_sets (fun W g rs k ⟨L, e, _⟩ => by rw [e]; rfl) fun cdv A outer s H E W g rs kd hr ⟨L, e, k⟩ => ?_
  subst e
  exact ⟨_, (pss_one (ps_ret (pe_callTy (cr_listK (K := K) rfl) rfl T.n_list (by decide +kernel) (pa_cons (pe_fldK (K := K) rfl (pv 0) rfl) pa_nil)))), n_list (a_cons (e_fld (e_var rfl ⟨_, _, _, rfl, T.cl_Box, T.na_Box__sets, rfl, a_nil ⟨_, _, rfl, .v, k⟩⟩)))⟩
def box_sizesC (a : Ad) : Cn Nat := fun _ g rs k => ∃ L : List VSt, rs = [.v (bxD a L)] ∧ L.length ≤ 8 ∧ k ((L.map (·.1)).map D.int) g
theorem ok_box_sizes (T : Tx K mg a) : FnOk P w K mg base CX0 3 a.f_Box_sizes a.d_Box_sizes ["self"] (mkSpN (box_sizesC a)) := by
  have G_ValueSet_size : FnOk P w K mg base CX0 1 a.f_ValueSet_size a.d_ValueSet_size ["self"] (mkSp (sizeC a)) := ok_size T
  refine Fun_tN1 T.F_Box_sizes sc_Box_sizes (fun W g rs k ⟨L, e, _⟩ => by rw [e]; rfl) fun cdv A outer s H E W g rs kd hr ⟨L, e, hl, k⟩ => ?_
  subst e
  refine ⟨_, (pss_one (ps_ret (pe_lc (own := [("valueset", 1)]) rfl sc_Box_sizes.nd  (pi_listK (K := K) rfl (pe_fldK (K := K) rfl (pv 0) rfl)) (blkOk_by (N := ["self", "valueset"]) (sc := defScope s_Box_sizes) (by decide +kernel)) (fun _ _ _ _ _ => (pg_name (i := 1) (x := "valueset") sc_Box_sizes.nd rfl (Or.inl rfl))) (fun _ _ _ _ _ => pts_nil) (fun _ _ _ _ _ => (pe_prop (pv 1) T.cl_ValueSet T.p_ValueSet_size G_ValueSet_size (hr.mono (by decide)) T.b_ValueSet_size .nil pass0 rfl))))), ?_⟩
  refine n_map (i_list (e_fld (e_var rfl ⟨_, _, _, rfl, T.cl_Box, T.na_Box__sets, rfl, _, rfl, by rw [List.length_map]; omega, fun d => match d with | .ins _ ((_, .int n) :: _) => .int n | _ => .non, fun d hd => ?_, ?_⟩)))
  · obtain ⟨v, _, rfl⟩ := List.mem_map.mp hd
    refine ⟨_, gt_name, e_prop (e_var rfl ⟨_, rfl, fun W' I => ⟨_, _, rfl, rfl, rfl⟩⟩)⟩
  · rw [show ((L.map (vD a)).map fun d => match d with | .ins _ ((_, .int n) :: _) => D.int n | _ => .non) = (L.map (·.1)).map D.int by rw [List.map_map, List.map_map]; rfl]
    exact k
/-! how many keys -/
abbrev VOk (v : VSt) : Prop := Vs1 v.1 v.2
def prodT : List VSt → Int
  | [] => 1
  | v :: L => ((vals v.2).length : Int) * prodT L
theorem vals_le {v : VSt} (h : VOk v) : ((vals v.2).length : Int) ≤ v.1 := by
  have := asc_len v.1.toNat 0 (vals v.2) (vals_asc h.ok) fun u hu => by
    have := (vals_in h.ok).bd u hu
    omega
  have := h.lo
  omega
theorem mulw {i j : Int} (h1 : i.natAbs < 2 ^ 4000) (h2 : j.natAbs < 2 ^ 4000) : CMulW i j := by
  have lg : ∀ n : Nat, n < 2 ^ 4000 → n.log2 < 4000 := fun n h => by
    by_cases z : n = 0
    · rw [z]; decide
    · exact (Nat.log2_lt z).mpr h
  have := lg _ h1
  have := lg _ h2
  unfold CMulW
  omega
theorem prodT_app (L : List VSt) (v : VSt) : prodT (L ++ [v]) = prodT L * ((vals v.2).length : Int) := by
  induction L with
  | nil => show _ * (1 : Int) = 1 * _; omega
  | cons u L ih =>
    show _ * prodT (L ++ [v]) = _ * prodT L * _
    rw [ih, Int.mul_assoc]
theorem prodT_bd : ∀ {L : List VSt}, (∀ v ∈ L, VOk v) → 0 ≤ prodT L ∧ prodT L ≤ (10 ^ 30) ^ L.length
  | [], _ => ⟨by decide, by decide⟩
  | v :: L, h => by
    obtain ⟨a1, a2⟩ := prodT_bd (L := L) fun u hu => h u (List.mem_cons_of_mem _ hu)
    have hv := h v List.mem_cons_self
    have b := vals_le hv
    have b2 := hv.hi
    have b0 : (0 : Int) ≤ ((vals v.2).length : Int) := by omega
    refine ⟨Int.mul_nonneg b0 a1, ?_⟩
    rw [List.length_cons, Int.pow_succ, Int.mul_comm ((10 ^ 30) ^ L.length)]
    exact Int.mul_le_mul (by omega) a2 a1 (by decide)
theorem prodT_w {L : List VSt} (h : ∀ v ∈ L, VOk v) (hl : L.length ≤ 8) : (prodT L).natAbs < 2 ^ 4000 := by
  obtain ⟨a1, a2⟩ := prodT_bd h
  have e : ((10 : Int) ^ 30) ^ L.length ≤ (10 ^ 30) ^ 8 := by
    have : ∀ n : Fin 9, ((10 : Int) ^ 30) ^ n.val ≤ (10 ^ 30) ^ 8 := by decide +kernel
    exact this ⟨L.length, by omega⟩
  have e2 : ((10 : Int) ^ 30) ^ 8 < 2 ^ 4000 := by decide +kernel
  have e3 : (prodT L).natAbs = (prodT L).toNat := by omega
  have e4 : prodT L < 2 ^ 4000 := by omega
  have e5 : ((2 ^ 4000 : Nat) : Int) = 2 ^ 4000 := by decide +kernel
  omega
theorem cnt_w {v : VSt} (h : VOk v) : ((vals v.2).length : Int).natAbs < 2 ^ 4000 := by
  have := prodT_w (L := [v]) (fun u hu => by rw [List.mem_singleton.mp hu]; exact h) (by show 1 ≤ 8; decide)
  have e : prodT [v] = ((vals v.2).length : Int) := Int.mul_one _
  rwa [e] at this
def box_totalC (a : Ad) : Ct Nat := fun _ g rs k _ => ∃ L : List VSt, rs = [.v (bxD a L)] ∧ L.length ≤ 8 ∧ (∀ v ∈ L, VOk v) ∧ k (.int (prodT L)) g
/-! boxes are equal by their sets -/
theorem two_uniq {M : Addr → Prop} {H : Hp} {p q : Int × Int} {v : V} (h : Dt M H (.tup [.int p.1, .int p.2]) v) (h' : Dt M H (.tup [.int q.1, .int q.2]) v) : p = q := by
  obtain ⟨p1, p2⟩ := p
  obtain ⟨q1, q2⟩ := q
  cases h with
  | tup _ e t =>
    cases h' with
    | tup _ e' t' =>
      rw [e] at e'
      cases e'
      cases t with
      | cons a t =>
        cases t with
        | cons b t =>
          cases t' with
          | cons a' t' =>
            cases t' with
            | cons b' t' =>
              cases a
              cases b
              cases a'
              cases b'
              rfl
theorem prs_uniq {M : Addr → Prop} {H : Hp} : ∀ {ps qs : List (Int × Int)} {xs : List V}, DtL M H (prs ps) xs → DtL M H (prs qs) xs → ps = qs
  | [], [], _, _, _ => rfl
  | [], _ :: _, _, h, h' => by cases h; cases h'
  | _ :: _, [], _, h, h' => by cases h'; cases h
  | p :: ps, q :: qs, _, h, h' => by
    cases h with
    | cons a t =>
      cases h' with
      | cons a' t' => rw [two_uniq a a', prs_uniq t t']
theorem vD_uniq {M : Addr → Prop} {H : Hp} {u v : VSt} {p : V} (h : Dt M H (vD a u) p) (h' : Dt M H (vD a v) p) : u = v := by
  obtain ⟨n, ps⟩ := u
  obtain ⟨m, qs⟩ := v
  cases h with
  | ins _ e t =>
    cases h' with
    | ins _ e' t' =>
      rw [e] at e'
      cases e'
      cases t with
      | cons a1 t =>
        cases t with
        | cons a2 t =>
          cases t' with
          | cons b1 t' =>
            cases t' with
            | cons b2 t' =>
              cases a1
              cases b1
              cases a2 with
              | lst _ e1 t1 =>
                cases b2 with
                | lst _ e2 t2 =>
                  rw [e1] at e2
                  cases e2
                  exact congrArg (Prod.mk n) (prs_uniq t1 t2)
theorem vD_inj {u v : VSt} (h : vD a u = vD a v) : u = v := by
  obtain ⟨n, ps⟩ := u
  obtain ⟨m, qs⟩ := v
  have e1 : (D.int n, D.lst (prs ps)) = (D.int m, D.lst (prs qs)) := by
    injection h with _ h
    injection h with h1 h2
    injection h2 with h3 _
    rw [Prod.mk.injEq] at h1 h3
    rw [h1.2, h3.2]
  injection e1 with e1 e2
  cases e1
  have e3 : prs ps = prs qs := by injection e2
  have inj : ∀ ps qs : List (Int × Int), prs ps = prs qs → ps = qs := by
    intro ps
    induction ps with
    | nil =>
      intro qs h
      cases qs with
      | nil => rfl
      | cons q qs => cases h
    | cons p ps ih =>
      intro qs h
      cases qs with
      | nil => cases h
      | cons q qs =>
        have h' : D.tup [.int p.1, .int p.2] :: prs ps = D.tup [.int q.1, .int q.2] :: prs qs := h
        injection h' with h1 h2
        have hh : p = q := by
          obtain ⟨p1, p2⟩ := p
          obtain ⟨q1, q2⟩ := q
          injection h1 with h1
          injection h1 with h3 h4
          injection h4 with h5 _
          injection h3 with h3
          injection h5 with h5
          have e1 : p1 = q1 := h3
          have e2 : p2 = q2 := h5
          rw [e1, e2]
        rw [hh, ih qs h2]
  exact congrArg (Prod.mk n) (inj ps qs e3)
open Classical in
/-- whether two things are the same set -/
noncomputable def sameD (d e : D) : Bool := decide (d = e)
open Classical in
theorem same_vD (u v : VSt) : sameD (vD a u) (vD a v) = (decide (u.1 = v.1) && decide (u.2 = v.2)) := by
  unfold sameD
  rw [Bool.eq_iff_iff, decide_eq_true_iff, Bool.and_eq_true, decide_eq_true_iff, decide_eq_true_iff]
  constructor
  · intro h
    rw [vD_inj h]; exact ⟨rfl, rfl⟩
  · rintro ⟨h1, h2⟩
    have : u = v := Prod.ext h1 h2
    rw [this]
theorem same_all : ∀ L N : List VSt, (decide ((L.map (vD a)).length = (N.map (vD a)).length) && (List.zipWith sameD (L.map (vD a)) (N.map (vD a))).all id) = decide (L = N)
  | [], [] => rfl
  | [], _ :: _ => rfl
  | _ :: _, [] => rfl
  | u :: L, v :: N => by
    have ih := same_all L N
    rw [List.length_map, List.length_map] at ih
    show (decide ((L.map (vD a)).length + 1 = (N.map (vD a)).length + 1) && (sameD (vD a u) (vD a v) && (List.zipWith sameD (L.map (vD a)) (N.map (vD a))).all id)) = _
    rw [same_vD, List.length_map, List.length_map, show decide (L.length + 1 = N.length + 1) = decide (L.length = N.length) from decide_eq_decide.mpr (by omega), Bool.and_left_comm, ih]
    rw [Bool.eq_iff_iff]
    simp only [Bool.and_eq_true, decide_eq_true_eq]
    constructor
    · rintro ⟨⟨h1, h2⟩, h3⟩
      rw [Prod.ext h1 h2, h3]
    · intro h
      injection h with h1 h2
      rw [h1, h2]
      exact ⟨⟨rfl, rfl⟩, rfl⟩
def box_eqC (a : Ad) : Ct Nat := fun _ g rs k _ => ∃ (L : List VSt) (y : Rs), rs = [.v (bxD a L), y] ∧ ((∃ N, y = .v (bxD a N) ∧ k (.bl (decide (L = N))) g) ∨ (Noi a.C_Box y ∧ k (.bl false) g))
theorem e_eqSets {W : Wd Nat} {g : Nat} {H0 : Hp} {ρ : Rho} {ta tb : TE} {k : Rs → Nat → Prop} {E : XK} {neg : Bool} (h : wpE W H0 g ρ ta fun r g1 => wpE W H0 g1 ρ tb fun y g2 => ∃ L N : List VSt, r = .v (.lst (L.map (vD a))) ∧ y = .v (.lst (N.map (vD a))) ∧ k (.v (.bl (xor neg (decide (L = N))))) g2) :
    wpE W H0 g ρ (tOp (rEqL a.C_ValueSet (mkSp (eqC a)) neg E) ta tb) k :=
  e_eqL (f := sameD) (h.mono fun r g1 h2 => h2.mono fun y g2 ⟨L, N, e1, e2, q⟩ => ⟨_, _, e1, e2, (fun d hd => by obtain ⟨v, _, rfl⟩ := List.mem_map.mp hd; exact ⟨_, rfl⟩), (fun d hd => by obtain ⟨v, _, rfl⟩ := List.mem_map.mp hd; exact ⟨_, rfl⟩),
    (fun d hd e he M H p h1 h2 => by
      obtain ⟨u, _, rfl⟩ := List.mem_map.mp hd
      obtain ⟨v, _, rfl⟩ := List.mem_map.mp he
      have e := vD_uniq h1 h2
      subst e
      rw [same_vD]
      simp),
    (fun d hd e he W' I kk hk => by
      obtain ⟨u, _, rfl⟩ := List.mem_map.mp hd
      obtain ⟨v, _, rfl⟩ := List.mem_map.mp he
      rw [same_vD] at hk
      exact ⟨u.1, u.2, _, rfl, .inl ⟨v.1, v.2, rfl, hk⟩⟩), by rw [same_all]; exact q⟩)
theorem ok_box_eq (T : Tx K mg a) : FnOk P w K mg base CX0 3 a.f_BoxU_eqU a.d_BoxU_eqU ["self", "other"] (mkSp (box_eqC a)) := by
  have G_ValueSetU_eqU : FnOk P w K mg base CX0 1 a.f_ValueSetU_eqU a.d_ValueSetU_eqU ["self", "other"] (mkSp (eqC a)) := ok_eq T
  refine Fun_t T.F_BoxU_eqU sc_BoxU_eqU (fun W g rs k x ⟨L, y, e, _⟩ => by rw [e]; rfl) fun cdv A outer s H E W g rs kd x hr ⟨L, y, e, h⟩ => ?_
  subst e
  refine ⟨_, (pss_one (ps_ret (pe_and (pe_callB (call_isiK (K := K) rfl) rfl T.n_isinstance (by decide +kernel) (pa_cons (pv 1) (pa_cons (pe_glob (v := .ref a.C_Box) rfl T.g_Box rfl) pa_nil))) (pe_one (pe_cmpR (op_eqL0 T.o_ValueSetU_eqU G_ValueSetU_eqU T.b_ValueSetU_eqU (hr.mono (by decide)) pass0) (pe_fldK (K := K) rfl (pv 0) rfl) (pe_fldK (K := K) rfl (pv 1) rfl) (nomark _)))))), ?_⟩
  refine s_ret (e_andV (e_cb (a_cons (e_var rfl (a_cons (e_raw (a_nil ?_)))))))
  rcases h with ⟨N, rfl, k⟩ | ⟨⟨t, ht, hm⟩, k⟩
  · refine c_isiSame T.it_Box ⟨_, rfl, fun _ => ?_, fun z => nomatch z⟩
    refine e_eqSets (e_fld (e_var rfl ⟨_, _, _, rfl, T.cl_Box, T.na_Box__sets, rfl, e_fld (e_var rfl ⟨_, _, _, rfl, T.cl_Box, T.na_Box__sets, rfl, L, N, rfl, rfl, _, rfl, ?_⟩)⟩))
    rw [Bool.false_xor]; exact k
  · exact c_isiB ⟨T.cl_Box.hd, T.ty_Box⟩ ht hm ⟨_, rfl, (fun z => nomatch z), fun _ => ⟨_, rfl, k⟩⟩
def cnt (v : VSt) : Int := ((vals v.2).length : Int)
def wrp (v : VSt) : Bool := has v.2 0 && has v.2 (v.1 - 1)
theorem atI_lastP {ps : List (Int × Int)} {p : Int × Int} (h : ps.getLast? = some p) : L2.atI (prs ps) (-1) = some (.tup [.int p.1, .int p.2]) := by
  have hn : ps ≠ [] := fun z => by rw [z] at h; cases h
  have hl : 0 < ps.length := List.length_pos_iff.mpr hn
  have e : (prs ps)[ps.length - 1]? = some (.tup [.int p.1, .int p.2]) := by
    unfold prs
    rw [List.getElem?_map, ← List.getLast?_eq_getElem?, h]; rfl
  unfold L2.atI
  rw [show (prs ps).length = (ps.length - 1) + 1 by rw [show (prs ps).length = ps.length from List.length_map _]; omega, ixN_last]
  exact e
end
end TL
set_option Elab.async false
set_option linter.all false
set_option maxRecDepth 100000
namespace TL
open PySem PySem.Spec L2
section
local macro_rules
  | `(tactic| o_reads) => `(tactic| with_reducible first
    | refine s_seq ?_ | refine s_asg ?_ | refine s_ret ?_ | refine s_next ?_ | refine s_if ?_ | refine t_test ?_ | refine t_B ?_ | refine t_and ?_ | refine t_or ?_ | refine t_not ?_
    | refine e_op ?_ | refine e_int ?_ | refine e_bl ?_ | refine e_str ?_ | refine e_cb ?_ | refine a_cons ?_ | refine a_nil ?_ | refine p_I0i ?_ | refine p_I0b ?_ | refine c_int ?_
    | refine e_call ?_ | refine e_make ?_ | refine e_prop ?_ | refine e_un ?_ | refine p_Ui ?_ | refine e_non ?_ | refine p_eqI ?_ | refine p_neI ?_ | refine p_addI ?_ | refine e_raw ?_ | refine e_lst ?_ | refine e_tup ?_ | refine e_andV ?_ | refine e_orV ?_ | refine e_if ?_ | refine e_notV ?_ | refine e_sl ?_ | refine o_some ?_ | refine o_no ?_ | refine e_revL ?_ | (refine Or.inl ⟨_, LstOf.v, ?_⟩)
    | (refine e_var (r := ?vr) ?va ?vb; case va => with_unfolding_all exact rfl) | (refine e_varO (ds := ?vr) ?va ?vb; case va => with_unfolding_all exact rfl) | (refine e_varT (p := ?vr) ?va ?vb; case va => with_unfolding_all exact rfl)
    | (refine p_Ii ?pa ?pb; case pa => first | exact wide_mul (a := 64) (b := 64) (by first | decide | omega) (by first | decide | omega) (by decide) (by decide) (by decide) | exact pow_ok (n := 64) (by decide) (by decide) (by decide) (by decide) (by decide) | decide | omega)
    | (refine ⟨?vd, (?va : Vs _ _), ?vb, ?vc⟩; (case va => first | exact .nil | exact .cons .nil | exact .cons (.cons .nil) | exact .cons (.cons (.cons .nil)) | exact .cons (.cons (.cons (.cons .nil))) | exact .cons (.cons (.cons (.cons (.cons .nil)))) | exact .cons (.cons (.cons (.cons (.cons (.cons .nil))))) | exact .cons (.cons (.cons (.cons (.cons (.cons (.cons .nil)))))) | exact .cons (.cons (.cons (.cons (.cons (.cons (.cons (.cons .nil))))))) | exact .cons (.cons (.cons (.cons (.cons (.cons (.cons (.cons (.cons .nil)))))))) | exact .cons (.cons (.cons (.cons (.cons (.cons (.cons (.cons (.cons (.cons .nil))))))))) | exact .cons (.cons (.cons (.cons (.cons (.cons (.cons (.cons (.cons (.cons (.cons .nil)))))))))) | exact .cons (.cons (.cons (.cons (.cons (.cons (.cons (.cons (.cons (.cons (.cons (.cons .nil))))))))))) | exact .cons (.cons (.cons (.cons (.cons (.cons (.cons (.cons (.cons (.cons (.cons (.cons (.cons .nil)))))))))))) | exact .cons (.cons (.cons (.cons (.cons (.cons (.cons (.cons (.cons (.cons (.cons (.cons (.cons (.cons .nil))))))))))))) | exact .cons (.cons (.cons (.cons (.cons (.cons (.cons (.cons (.cons (.cons (.cons (.cons (.cons (.cons (.cons .nil)))))))))))))) | exact .cons (.cons (.cons (.cons (.cons (.cons (.cons (.cons (.cons (.cons (.cons (.cons (.cons (.cons (.cons (.cons .nil))))))))))))))) | exact .cons (.cons (.cons (.cons (.cons (.cons (.cons (.cons (.cons (.cons (.cons (.cons (.cons (.cons (.cons (.cons (.cons .nil)))))))))))))))) | exact .cons (.cons (.cons (.cons (.cons (.cons (.cons (.cons (.cons (.cons (.cons (.cons (.cons (.cons (.cons (.cons (.cons (.cons .nil)))))))))))))))))); (case vb => with_unfolding_all exact Nat.le_of_ble_eq_true rfl))
    | (refine ⟨_, rfl, fun _ => ?vx, ?no⟩; (case no => (intro z; with_unfolding_all cases z; done))) | (refine ⟨_, rfl, ?no, fun _ => ?vx⟩; (case no => (intro z; with_unfolding_all cases z; done))) | (refine ⟨?no, fun _ => ?vx⟩; (case no => (intro z; with_unfolding_all cases z; done))) | (refine ⟨fun _ => ?vx, ?no⟩; (case no => (intro z; with_unfolding_all cases z; done))) | (refine ⟨_, rfl, fun hb => ?_, fun hb => ?_⟩) | (refine ⟨_, rfl, ?_⟩))
local macro_rules
  | `(tactic| o_readsAll) => `(tactic| repeat o_reads)
variable {P : Program} {w : World} {K : PySem.W.Frag} {mg : Str → Option Value} {base : Heap} {a : Ad}

/-! ### keys in a box; boxes in readings -/
/-- whether a thing is a key of the box -/
def keyIn (L : List VSt) : Rs → Bool
  | .v (.tup ds) => decide (ds.length = L.length) && ((ds.zip L).map fun p => inR p.2.2 (.v p.1)).all id
  | _ => false
theorem keyIn_no {L : List VSt} {r : Rs} (h : r.isT "tuple" = false) : keyIn L r = false := by
  cases r with
  | b ds => rfl
  | v d => cases d <;> first | rfl | cases h
def box_containsC (K : PySem.W.Frag) (a : Ad) : Ct Nat := fun _ g rs k _ => ∃ (L : List VSt) (r : Rs), rs = [.v (bxD a L), r] ∧ L.length ≤ 8 ∧ (∀ v ∈ L, v.2.length ≤ 12) ∧ Kn K r ∧ (∀ ds, r = .v (.tup ds) → ∀ d ∈ ds, Kn K (.v d)) ∧ k (.bl (keyIn L r)) g
theorem pairs_zip {L : List VSt} : ∀ ds : List D, pairs ds (L.map (vD a)) = (ds.zip L).map fun p => .tup [p.1, vD a p.2]
  | [] => by simp [pairs]
  | d :: ds => by
    cases L with
    | nil => simp [pairs]
    | cons v L =>
      show .tup [d, vD a v] :: pairs ds (L.map (vD a)) = _
      rw [pairs_zip ds]; rfl
theorem ok_box_contains (T : Tx K mg a) : FnOk P w K mg base CX0 3 a.f_BoxU_containsU a.d_BoxU_containsU ["self", "key"] (mkSp (box_containsC K a)) := by
  have G_ValueSetU_containsU : FnOk P w K mg base CX0 2 a.f_ValueSetU_containsU a.d_ValueSetU_containsU ["self", "value"] (mkSp (containsC (K := K) a)) := ok_contains T
  refine Fun_t T.F_BoxU_containsU sc_BoxU_containsU (fun W g rs k x ⟨L, r, e, _⟩ => by rw [e]; rfl) fun cdv A outer s H E W g rs kd x hr ⟨L, r, e, hl, hp, hk, ht, k⟩ => ?_
  subst e
  refine ⟨_, (pss_cons (ps_if (PW.pt (pw_or (pt_not (pt_val (pe_callB (call_isiK (K := K) rfl) rfl T.n_isinstance (by decide +kernel) (pa_cons (pv 1) (pa_cons (pe_bltn (v := .ty "tuple") rfl T.n_tuple (by decide +kernel) rfl) pa_nil))))) (pw_or1 (pt_cmpR (op_neK (K := K) rfl (hu64 hr)) (pe_callB (cr_lenK (K := K) rfl) rfl T.n_len (by decide +kernel) (pa_cons (pv 1) pa_nil)) (pe_callB (cr_lenK (K := K) rfl) rfl T.n_len (by decide +kernel) (pa_cons (pe_fldK (K := K) rfl (pv 0) rfl) pa_nil)) (nomark _))))) (pss_one (ps_ret pe_bl)) pss_nil)
      (pss_one (ps_ret (pe_callB (cr_allK (K := K) rfl rfl) rfl T.n_all (by decide +kernel) (pa_cons (pe_lc (own := [("value", 2), ("valueset", 3)]) rfl sc_BoxU_containsU.nd  (pi_zipM rfl rfl T.n_zip (pa_cons (pv 1) (pa_cons (pe_fldK (K := K) rfl (pv 0) rfl) pa_nil))) (blkOk_by (N := ["self", "key", "value", "valueset"]) (sc := defScope s_BoxU_containsU) (by decide +kernel)) (fun _ _ _ _ _ => (pg_tupK (K := K) (n := 2) rfl rfl (pgs_cons (pg_name (i := 2) (x := "value") sc_BoxU_containsU.nd rfl (Or.inl rfl)) (pgs_cons (pg_name (i := 3) (x := "valueset") sc_BoxU_containsU.nd rfl (Or.inl rfl)) pgs_nil)))) (fun _ _ _ _ _ => pts_nil) (fun _ _ _ _ _ => (pe_cmpR (op_inOwn T.o_ValueSetU_containsU G_ValueSetU_containsU T.b_ValueSetU_containsU (hr.mono (by decide)) pass0) (pv 2) (pv 3) rfl))) pa_nil))))), ?_⟩
  refine s_seq (s_if (t_or (t_not (t_B (e_cb (a_cons (e_var rfl (a_cons (e_raw (a_nil (hk.isi (by decide) ⟨_, rfl, ?_⟩)))))))))))
  cases hT : r.isT "tuple" with
  | false =>
    refine ⟨fun _ => ⟨fun _ => s_ret (e_bl ⟨_, rfl, ?_⟩), (fun z => nomatch z)⟩, (fun z => nomatch z)⟩
    rw [keyIn_no hT] at k
    exact k
  | true =>
    obtain ⟨ds, rfl⟩ := isT_tup hT
    refine ⟨(fun z => nomatch z), fun _ => t_test (e_op (e_cb (a_cons (e_var rfl (a_nil (c_len .t ?_))))))⟩
    refine e_cb (a_cons (e_fld (e_var rfl ⟨_, _, _, rfl, T.cl_Box, T.na_Box__sets, rfl, a_nil (c_len .v (p_neI ⟨_, rfl, fun b => ?_, fun b => ?_⟩))⟩)))
    · refine s_ret (e_bl ⟨_, rfl, ?_⟩)
      have b := of_decide_eq_true b
      rw [List.length_map] at b
      have z : keyIn L (.v (.tup ds)) = false := by
        show (decide (ds.length = L.length) && _) = false
        rw [decide_eq_false (by omega), Bool.false_and]
      rw [z] at k
      exact k
    · have b := of_decide_eq_false b
      rw [List.length_map] at b
      have hlen : ds.length = L.length := by omega
      refine s_next (s_ret (e_cb (a_cons (e_new (n_lc (i_zipM (a_cons (e_var rfl (a_cons (e_fld (e_var rfl ⟨_, _, _, rfl, T.cl_Box, T.na_Box__sets, rfl, a_nil ?_⟩)))))))))))
      refine ⟨ds, L.map (vD a), rfl, ?_⟩
      rw [pairs_zip]
      have zl : (ds.zip L).length = L.length := by rw [List.length_zip, hlen, Nat.min_self]
      refine ⟨by rw [List.length_map, zl]; omega, fun i acc g' => g' = g ∧ acc = (((ds.zip L).take i).map fun p => inR p.2.2 (.v p.1)).map D.bl, ⟨rfl, rfl⟩, ?_, ?_⟩
      · rintro i d acc g' hi ⟨rfl, rfl⟩
        rw [List.getElem?_map] at hi
        cases hq : (ds.zip L)[i]? with
        | none => rw [hq] at hi; cases hi
        | some q =>
          rw [hq] at hi
          cases hi
          have m := List.of_mem_zip (List.mem_of_getElem? hq)
          refine ⟨_, gt_tup2 (by decide), t_yes ⟨fun _ => ?_, fun z => nomatch z⟩⟩
          refine e_inOwn (e_var rfl (e_var rfl ⟨_, rfl, fun W' I => ⟨q.2.1, q.2.2, .v q.1, rfl, hp _ m.2, ht ds rfl _ m.1, _, rfl, _, rfl, rfl, ?_⟩⟩))
          rw [TL.take_next hq, List.map_append, List.map_append]; rfl
      · rintro acc g' ⟨rfl, rfl⟩
        rw [List.length_map, List.take_length]
        refine a_nil (c_all .v ⟨_, rfl, ?_⟩)
        have z : keyIn L (.v (.tup ds)) = ((ds.zip L).map fun p => inR p.2.2 (.v p.1)).all id := by
          show (decide (ds.length = L.length) && _) = _
          rw [decide_eq_true hlen, Bool.true_and]
        rw [z] at k
        exact k
section
variable {W : Wd Nat} {g : Nat} {H0 : Hp} {ρ : Rho} {ta tb : TE} {tg : TA} {k : Rs → Nat → Prop} {E : XK} {ES : L2.St → XK}
theorem e_boxHas (h : wpE W H0 g ρ ta fun x g1 => wpE W H0 g1 ρ tb fun y g2 => ∃ L, y = .v (bxD a L) ∧ L.length ≤ 8 ∧ (∀ v ∈ L, v.2.length ≤ 12) ∧ Kn K x ∧ (∀ ds, x = .v (.tup ds) → ∀ d ∈ ds, Kn K (.v d)) ∧ k (.v (.bl (keyIn L x))) g2) : wpE W H0 g ρ (tOp (rInOwn a.C_Box (mkSp (box_containsC K a)) E) ta tb) k :=
  e_inOwn (h.mono fun x g1 h2 => h2.mono fun y g2 ⟨L, e2, hl, hp, hk, ht, q⟩ => ⟨_, e2, fun W' I => ⟨L, x, by rw [e2], hl, hp, hk, ht, _, rfl, q⟩⟩)
end
section
variable {W : Wd Nat} {g : Nat} {H0 : Hp} {ρ : Rho} {ta tb : TE} {tg : TA} {k : Rs → Nat → Prop} {kn : List D → Nat → Prop} {E : XK} {ES : L2.St → XK}
theorem n_sets (h : wpE W H0 g ρ ta fun r g1 => ∃ L, r = .v (bxD a L) ∧ kn (L.map (vD a)) g1) : wpN W H0 g ρ (tProp a.C_Box (mkSpN (box_setsC a)) [] E ta) kn :=
  n_prop (h.mono fun r g1 ⟨L, e, q⟩ => ⟨_, e, fun W' I => ⟨L, by rw [e], q⟩⟩)
theorem e_sets (h : wpE W H0 g ρ ta fun r g1 => ∃ L, r = .v (bxD a L) ∧ k (.v (.lst (L.map (vD a)))) g1) : wpE W H0 g ρ (tProp a.C_Box (mkSpN (box_setsC a)) [] E ta) k := e_new (n_sets h)
theorem n_sizes (h : wpE W H0 g ρ ta fun r g1 => ∃ L, r = .v (bxD a L) ∧ L.length ≤ 8 ∧ kn ((L.map (·.1)).map D.int) g1) : wpN W H0 g ρ (tProp a.C_Box (mkSpN (box_sizesC a)) [] E ta) kn :=
  n_prop (h.mono fun r g1 ⟨L, e, hl, q⟩ => ⟨_, e, fun W' I => ⟨L, by rw [e], hl, q⟩⟩)
theorem e_sizes (h : wpE W H0 g ρ ta fun r g1 => ∃ L, r = .v (bxD a L) ∧ L.length ≤ 8 ∧ k (.v (.lst ((L.map (·.1)).map D.int))) g1) : wpE W H0 g ρ (tProp a.C_Box (mkSpN (box_sizesC a)) [] E ta) k := e_new (n_sizes h)
theorem e_btotal (h : wpE W H0 g ρ ta fun r g1 => ∃ L, r = .v (bxD a L) ∧ L.length ≤ 8 ∧ (∀ v ∈ L, VOk v) ∧ k (.v (.int (prodT L))) g1) : wpE W H0 g ρ (tProp a.C_Box (mkSp (box_totalC a)) [] E ta) k :=
  e_prop (h.mono fun r g1 ⟨L, e, hl, hv, q⟩ => ⟨_, e, fun W' I => ⟨L, by rw [e], hl, hv, q⟩⟩)
theorem e_mkBox (h : wpA W H0 g ρ tg fun rs g1 => ∃ (r : Rs) (L : List VSt), rs = [r] ∧ LstOf r (L.map (vD a)) ∧ 1 ≤ L.length ∧ L.length ≤ 8 ∧ k (.v (bxD a L)) g1) : wpE W H0 g ρ (tMake a.C_Box (inSp a.C_Box (box_initC K a)) [] E tg) k :=
  e_make fun ps H σ S Q hq => h ps H σ S Q fun rs vs g1 H1 ⟨r, L, e, l, n1, n8, q⟩ e1 o => hq rs vs g1 H1 (fun W' I => ⟨r, e, .inl ⟨L, l, n1, n8, q⟩⟩) e1 o
theorem e_mkSet (h : wpA W H0 g ρ tg fun rs g1 => ∃ (r : Rs) (v : VSt), rs = [.v (.int v.1), r] ∧ LstOf r (prs v.2) ∧ VOk v ∧ k (.v (vD a v)) g1) : wpE W H0 g ρ (tMake a.C_ValueSet (inSp a.C_ValueSet (initC (K := K) a)) [] E tg) k :=
  e_make fun ps H σ S Q hq => h ps H σ S Q fun rs vs g1 H1 ⟨r, v, e, l, hv, q⟩ e1 o => hq rs vs g1 H1 (fun W' I => by rw [e]; exact init_ok l hv.lo hv.hi hv.ok hv.le q) e1 o
theorem bx_notFirst : PySem.W.notFirst K a.C_Box (.ref a.C_Box) = true := by unfold PySem.W.notFirst; rw [beq_self_eq_true]; rfl
/-- == and != of boxes -/
theorem e_eqBox {neg : Bool} (h : wpE W H0 g ρ ta fun r g1 => ∃ L, r = .v (bxD a L) ∧ wpE W H0 g1 ρ tb fun y g2 => ∃ N, y = .v (bxD a N) ∧ k (.v (.bl (xor neg (decide (L = N))))) g2) : wpE W H0 g ρ (tOp (rEqOwn K a.C_Box (mkSp (box_eqC a)) neg E) ta tb) k :=
  e_eqOwn (h.mono fun r g1 ⟨L, e, h2⟩ => h2.mono fun y g2 ⟨N, e2, q⟩ => ⟨_, .ref a.C_Box, e, by rw [e2]; rfl, bx_notFirst, fun W' I => ⟨L, y, by rw [e], .inl ⟨N, e2, _, rfl, q⟩⟩⟩)
theorem e_eqBoxNo {neg : Bool} (h : wpE W H0 g ρ ta fun r g1 => ∃ L, r = .v (bxD a L) ∧ wpE W H0 g1 ρ tb fun y g2 => ∃ n : String, y.ty = some n ∧ n ∈ ["NoneType", "bool", "int", "str", "list", "tuple", "dict"] ∧ y.tyR = some (.type n) ∧ PySem.W.notFirst K a.C_Box (.type n) = true ∧ k (.v (.bl neg)) g2) : wpE W H0 g ρ (tOp (rEqOwn K a.C_Box (mkSp (box_eqC a)) neg E) ta tb) k :=
  e_eqOwn (h.mono fun r g1 ⟨L, e, h2⟩ => h2.mono fun y g2 ⟨n, ht, hm, hr, hf, q⟩ => ⟨_, .type n, e, hr, hf, fun W' I => ⟨L, y, by rw [e], .inr ⟨⟨n, ht, hm⟩, _, rfl, by rw [Bool.xor_false]; exact q⟩⟩⟩)
end
end
end TL
set_option Elab.async false
set_option linter.all false
set_option maxRecDepth 100000
namespace TL
open PySem PySem.Spec L2
section
local macro_rules
  | `(tactic| o_reads) => `(tactic| with_reducible first
    | refine s_seq ?_ | refine s_asg ?_ | refine s_ret ?_ | refine s_next ?_ | refine s_if ?_ | refine t_test ?_ | refine t_B ?_ | refine t_and ?_ | refine t_or ?_ | refine t_not ?_
    | refine e_op ?_ | refine e_int ?_ | refine e_bl ?_ | refine e_str ?_ | refine e_cb ?_ | refine a_cons ?_ | refine a_nil ?_ | refine p_I0i ?_ | refine p_I0b ?_ | refine c_int ?_
    | refine e_call ?_ | refine e_make ?_ | refine e_prop ?_ | refine e_un ?_ | refine p_Ui ?_ | refine e_non ?_ | refine p_eqI ?_ | refine p_neI ?_ | refine p_addI ?_ | refine e_raw ?_ | refine e_lst ?_ | refine e_tup ?_ | refine e_andV ?_ | refine e_orV ?_ | refine e_if ?_ | refine e_notV ?_ | refine e_sl ?_ | refine o_some ?_ | refine o_no ?_ | refine e_revL ?_ | (refine Or.inl ⟨_, LstOf.v, ?_⟩)
    | (refine e_var (r := ?vr) ?va ?vb; case va => with_unfolding_all exact rfl) | (refine e_varO (ds := ?vr) ?va ?vb; case va => with_unfolding_all exact rfl) | (refine e_varT (p := ?vr) ?va ?vb; case va => with_unfolding_all exact rfl)
    | (refine p_Ii ?pa ?pb; case pa => first | exact wide_mul (a := 64) (b := 64) (by first | decide | omega) (by first | decide | omega) (by decide) (by decide) (by decide) | exact pow_ok (n := 64) (by decide) (by decide) (by decide) (by decide) (by decide) | decide | omega)
    | (refine ⟨?vd, (?va : Vs _ _), ?vb, ?vc⟩; (case va => first | exact .nil | exact .cons .nil | exact .cons (.cons .nil) | exact .cons (.cons (.cons .nil)) | exact .cons (.cons (.cons (.cons .nil))) | exact .cons (.cons (.cons (.cons (.cons .nil)))) | exact .cons (.cons (.cons (.cons (.cons (.cons .nil))))) | exact .cons (.cons (.cons (.cons (.cons (.cons (.cons .nil)))))) | exact .cons (.cons (.cons (.cons (.cons (.cons (.cons (.cons .nil))))))) | exact .cons (.cons (.cons (.cons (.cons (.cons (.cons (.cons (.cons .nil)))))))) | exact .cons (.cons (.cons (.cons (.cons (.cons (.cons (.cons (.cons (.cons .nil))))))))) | exact .cons (.cons (.cons (.cons (.cons (.cons (.cons (.cons (.cons (.cons (.cons .nil)))))))))) | exact .cons (.cons (.cons (.cons (.cons (.cons (.cons (.cons (.cons (.cons (.cons (.cons .nil))))))))))) | exact .cons (.cons (.cons (.cons (.cons (.cons (.cons (.cons (.cons (.cons (.cons (.cons (.cons .nil)))))))))))) | exact .cons (.cons (.cons (.cons (.cons (.cons (.cons (.cons (.cons (.cons (.cons (.cons (.cons (.cons .nil))))))))))))) | exact .cons (.cons (.cons (.cons (.cons (.cons (.cons (.cons (.cons (.cons (.cons (.cons (.cons (.cons (.cons .nil)))))))))))))) | exact .cons (.cons (.cons (.cons (.cons (.cons (.cons (.cons (.cons (.cons (.cons (.cons (.cons (.cons (.cons (.cons .nil))))))))))))))) | exact .cons (.cons (.cons (.cons (.cons (.cons (.cons (.cons (.cons (.cons (.cons (.cons (.cons (.cons (.cons (.cons (.cons .nil)))))))))))))))) | exact .cons (.cons (.cons (.cons (.cons (.cons (.cons (.cons (.cons (.cons (.cons (.cons (.cons (.cons (.cons (.cons (.cons (.cons .nil)))))))))))))))))); (case vb => with_unfolding_all exact Nat.le_of_ble_eq_true rfl))
    | (refine ⟨_, rfl, fun _ => ?vx, ?no⟩; (case no => (intro z; with_unfolding_all cases z; done))) | (refine ⟨_, rfl, ?no, fun _ => ?vx⟩; (case no => (intro z; with_unfolding_all cases z; done))) | (refine ⟨?no, fun _ => ?vx⟩; (case no => (intro z; with_unfolding_all cases z; done))) | (refine ⟨fun _ => ?vx, ?no⟩; (case no => (intro z; with_unfolding_all cases z; done))) | (refine ⟨_, rfl, fun hb => ?_, fun hb => ?_⟩) | (refine ⟨_, rfl, ?_⟩))
local macro_rules
  | `(tactic| o_readsAll) => `(tactic| repeat o_reads)
variable {P : Program} {w : World} {K : PySem.W.Frag} {mg : Str → Option Value} {base : Heap} {a : Ad}

/-! ### boxes put together -/
def bothB (L N : List VSt) : List VSt := List.zipWith (fun u v => (u.1, com u.2 v.2)) L N
def Few (L : List VSt) : Prop := ∀ v ∈ L, v.2.length ≤ 12
instance (L : List VSt) : Decidable (Few L) := inferInstanceAs (Decidable (∀ v ∈ L, v.2.length ≤ 12))
theorem not_few {L : List VSt} (h : ¬ Few L) : ∃ v ∈ L, 12 < v.2.length := by
  unfold Few at h
  exact Classical.byContradiction fun z => h fun v hv => Nat.le_of_not_lt fun q => z ⟨v, hv, q⟩
theorem bothB_get {L N : List VSt} {i : Nat} {u v : VSt} (h1 : L[i]? = some u) (h2 : N[i]? = some v) : (bothB L N)[i]? = some (u.1, com u.2 v.2) := by
  unfold bothB
  rw [List.getElem?_zipWith, h1, h2]
theorem sizes_len {L N : List VSt} (h : L.map (·.1) = N.map (·.1)) : L.length = N.length := by
  have := congrArg List.length h
  rwa [List.length_map, List.length_map] at this
theorem bothB_len {L N : List VSt} (h : L.map (·.1) = N.map (·.1)) : (bothB L N).length = L.length := by
  unfold bothB
  rw [List.length_zipWith, sizes_len h, Nat.min_self]
theorem sizes_at {L N : List VSt} (h : L.map (·.1) = N.map (·.1)) {i : Nat} {u v : VSt} (h1 : L[i]? = some u) (h2 : N[i]? = some v) : u.1 = v.1 := by
  have e : (L.map (·.1))[i]? = (N.map (·.1))[i]? := by rw [h]
  rw [List.getElem?_map, List.getElem?_map, h1, h2] at e
  exact Option.some.inj e
theorem bothB_ok {L N : List VSt} (h : L.map (·.1) = N.map (·.1)) (hL : ∀ v ∈ L, VOk v) (hN : ∀ v ∈ N, VOk v) (hf : Few (bothB L N)) : ∀ v ∈ bothB L N, VOk v := fun v hv => by
  obtain ⟨i, hi⟩ := List.mem_iff_getElem?.mp hv
  have hl : i < L.length := by
    have := (List.getElem?_eq_some_iff.mp hi).1
    rwa [bothB_len h] at this
  have hn : i < N.length := by rw [← sizes_len h]; exact hl
  have e := bothB_get (List.getElem?_eq_getElem hl) (List.getElem?_eq_getElem hn)
  have s := sizes_at h (List.getElem?_eq_getElem hl) (List.getElem?_eq_getElem hn)
  rw [hi] at e
  have e := Option.some.inj e
  have o1 := hL _ (List.getElem_mem hl)
  have o2 := hN _ (List.getElem_mem hn)
  have f := hf v hv
  rw [e] at f ⊢
  exact ⟨o1.lo, o1.hi, com_ok o1.ok o2.ok, f⟩
theorem bothB_sizes {L N : List VSt} (h : L.map (·.1) = N.map (·.1)) : (bothB L N).map (·.1) = L.map (·.1) := by
  refine List.ext_getElem? fun i => ?_
  rw [List.getElem?_map, List.getElem?_map]
  cases hi : L[i]? with
  | none =>
    rw [List.getElem?_eq_none (by rw [bothB_len h]; exact List.getElem?_eq_none_iff.mp hi)]
  | some u =>
    have hl := (List.getElem?_eq_some_iff.mp hi).1
    have hn : i < N.length := by rw [← sizes_len h]; exact hl
    rw [bothB_get hi (List.getElem?_eq_getElem hn)]; rfl
theorem eqv_ints : ∀ ns ms : List Int, PyData.eqv (D.py (.lst (ns.map D.int))) (D.py (.lst (ms.map D.int))) = decide (ns = ms)
  | [], [] => rfl
  | [], _ :: _ => rfl
  | _ :: _, [] => rfl
  | n :: ns, m :: ms => by
    have ih := eqv_ints ns ms
    show ((n == m) && PyData.eqvAll (D.pyL (ns.map D.int)) (D.pyL (ms.map D.int))) = _
    have ih : PyData.eqvAll (D.pyL (ns.map D.int)) (D.pyL (ms.map D.int)) = decide (ns = ms) := ih
    rw [ih, Bool.eq_iff_iff, Bool.and_eq_true, beq_iff_eq, decide_eq_true_iff, decide_eq_true_iff, List.cons.injEq]
theorem p_eqIs {ns ms : List Int} {k : Rs → Prop} (q : k (.v (.bl (decide (ns = ms))))) : wp2 (rEqP K) (.v (.lst (ns.map D.int))) (.v (.lst (ms.map D.int))) k := p_eqP (m := 2) (n := 2) (.v (pl_ints ns)) (.v (pl_ints ms)) (by decide) (by rw [eqv_ints]; exact q)
theorem p_neIs {ns ms : List Int} {k : Rs → Prop} (q : k (.v (.bl (decide (ns ≠ ms))))) : wp2 (rNeP K) (.v (.lst (ns.map D.int))) (.v (.lst (ms.map D.int))) k := p_neP (m := 2) (n := 2) (.v (pl_ints ns)) (.v (pl_ints ms)) (by decide) (by rw [eqv_ints, ← decide_not]; exact q)
def box_andC (K : PySem.W.Frag) (a : Ad) : Ct Nat := fun _ g rs k x => ∃ (L : List VSt) (y : Rs), rs = [.v (bxD a L), y] ∧ 1 ≤ L.length ∧ L.length ≤ 8 ∧ (∀ v ∈ L, VOk v) ∧
  ((∃ N : List VSt, y = .v (bxD a N) ∧ N.length ≤ 8 ∧ (∀ v ∈ N, VOk v) ∧ (L.map (·.1) = N.map (·.1) → Few (bothB L N) → k (bxD a (bothB L N)) g) ∧ (L.map (·.1) = N.map (·.1) → ¬ Few (bothB L N) → x (.ref a.C_TooMany) g) ∧ (L.map (·.1) ≠ N.map (·.1) → x (.ref a.C_OtherSizes) g)) ∨
   (NotI K a.C_Box y ∧ x (.ref a.C_InvalidBox) g))
theorem ok_box_and (T : Tx K mg a) : FnOk P w K mg base (L2N.CX P w) 8 a.f_BoxU_andU a.d_BoxU_andU ["self", "other"] (mkSp (box_andC K a)) := by
  have G_BoxU_initU : FnOk P w K mg base (L2N.CX P w) 2 a.f_BoxU_initU a.d_BoxU_initU ["self", "sets"] (inSp a.C_Box (box_initC K a)) := ok_box_init T
  have G_Box_sizes : FnOk P w K mg base CX0 3 a.f_Box_sizes a.d_Box_sizes ["self"] (mkSpN (box_sizesC a)) := ok_box_sizes T
  have G_ValueSetU_andU : FnOk P w K mg base (L2N.CX P w) 7 a.f_ValueSetU_andU a.d_ValueSetU_andU ["self", "other"] (mkSp (binC K a fun _ ps qs => com ps qs)) := ok_and T
  refine Fun_tXN T.F_BoxU_andU sc_BoxU_andU (fun W g rs k x ⟨L, y, e, _⟩ => by rw [e]; rfl) fun cdv A outer s H E W g rs kd x hr ⟨L, y, e, L1, L8, hL, h⟩ hx => ?_
  subst e
  refine ⟨_, (pss_cons (ps_if (pt_not (pt_val (pe_callB (call_isiK (K := K) rfl) rfl T.n_isinstance (by decide +kernel) (pa_cons (pv 1) (pa_cons (pe_glob (v := .ref a.C_Box) rfl T.g_Box rfl) pa_nil))))) (pss_one (L2N.ps_raise rfl (L2N.takes_of rfl rfl rfl rfl) (L2N.pmk_own PySem.F.excBase_ValueError T.x_InvalidBox T.g_InvalidBox T.k_InvalidBox (raises_own T.xb_InvalidBox T.xt_InvalidBox) rfl))) pss_nil)
      (pss_cons (ps_if (pt_cmpR (op_neK (K := K) rfl (hu64 hr)) (pe_prop (pv 0) T.cl_Box T.p_Box_sizes G_Box_sizes (hr.mono (by decide)) T.b_Box_sizes .nil pass0 rfl) (pe_prop (pv 1) T.cl_Box T.p_Box_sizes G_Box_sizes (hr.mono (by decide)) T.b_Box_sizes .nil pass0 rfl) (nomark _)) (pss_one (L2N.ps_raise rfl (L2N.takes_of rfl rfl rfl rfl) (L2N.pmk_own PySem.F.excBase_ValueError T.x_OtherSizes T.g_OtherSizes T.k_OtherSizes (raises_own T.xb_OtherSizes T.xt_OtherSizes) rfl))) pss_nil)
      (pss_one (ps_ret (pe_make T.m_Box G_BoxU_initU (hr.mono (by decide)) rfl T.g_Box T.b_BoxU_initU .nil (L2N.passes_call (L2N.takes_of rfl rfl rfl rfl) (fun _ _ _ _ h => h)) (pa_cons (TLH.pe_lcE (own := [("mine", 2), ("theirs", 3)]) rfl rfl rfl (L2N.takes_of rfl rfl rfl rfl) sc_BoxU_andU.nd  (pi_zip rfl T.n_zip (pa_cons (pe_fldK (K := K) rfl (pv 0) rfl) (pa_cons (pe_fldK (K := K) rfl (pv 1) rfl) pa_nil))) (blkOk_by (N := ["self", "other", "mine", "theirs"]) (sc := defScope s_BoxU_andU) (by decide +kernel)) (fun _ _ _ _ _ => (pg_tupK (K := K) (n := 2) rfl rfl (pgs_cons (pg_name (i := 2) (x := "mine") sc_BoxU_andU.nd rfl (Or.inl rfl)) (pgs_cons (pg_name (i := 3) (x := "theirs") sc_BoxU_andU.nd rfl (Or.inl rfl)) pgs_nil)))) (fun _ _ _ _ _ => pts_nil) (fun _ _ _ _ _ xe tkb => (pe_binSK (K := K) rfl T.u_ValueSetU_andU G_ValueSetU_andU T.b_ValueSetU_andU (hr.mono (by decide)) (fun σ => TLH.passAtB tkb σ) (pv 2) (pv 3)))) pa_nil)))))), ?_⟩
  refine s_seq (s_if (t_not (t_B ?_)))
  o_readsAll
  rcases h with ⟨N, rfl, N8, hN, k1, k2, k3⟩ | ⟨hn, kx⟩
  · refine c_isiSame T.it_Box ⟨_, rfl, (fun z => nomatch z), fun _ => s_next ?_⟩
    refine s_cut (fun ρ' g' => g' = g ∧ L.map (·.1) = N.map (·.1) ∧ ρ' = [.v (bxD a L), .v (bxD a N), .un, .un]) ?_ ?_
    · refine s_if (t_test (e_op (e_sizes (e_var rfl ⟨L, rfl, L8, e_sizes (e_var rfl ⟨N, rfl, N8, p_neIs ⟨_, rfl, fun b => ?_, fun b => ?_⟩⟩)⟩))))
      · exact s_raise fun H' e => hx _ g H' (k3 (of_decide_eq_true b)) e
      · exact s_next ⟨rfl, by simpa using b, rfl⟩
    rintro ρ' g' ⟨rfl, he, rfl⟩
    have bl := bothB_len he
    have lm : L.length = N.length := sizes_len he
    refine s_ret (e_makeX (x := fun c g' => x c g') hx (a_cons (e_new (n_lc (i_zip (a_cons (e_fld (e_var rfl ⟨_, _, _, rfl, T.cl_Box, T.na_Box__sets, rfl, a_cons (e_fld (e_var rfl ⟨_, _, _, rfl, T.cl_Box, T.na_Box__sets, rfl, a_nil ⟨_, _, rfl, ?_⟩⟩))⟩))))))))
    have pl : (pairs (L.map (vD a)) (N.map (vD a))).length = L.length := by rw [pairs_len, List.length_map, List.length_map, ← lm, Nat.min_self]
    refine ⟨by rw [pl]; omega, fun i acc g2 => g2 = g' ∧ acc = ((bothB L N).take i).map (vD a) ∧ Few ((bothB L N).take i), ⟨rfl, rfl, fun _ z => nomatch z⟩, ?_, ?_⟩
    · rintro i d acc g2 hi ⟨rfl, rfl, hf⟩
      obtain ⟨d1, d2, h1, h2, rfl⟩ := pairs_get hi
      rw [List.getElem?_map] at h1 h2
      obtain ⟨u, hu, rfl⟩ : ∃ u, L[i]? = some u ∧ d1 = vD a u := by
        cases q : L[i]? with
        | none => rw [q] at h1; cases h1
        | some v => rw [q] at h1; cases h1; exact ⟨v, rfl, rfl⟩
      obtain ⟨v, hv, rfl⟩ : ∃ v, N[i]? = some v ∧ d2 = vD a v := by
        cases q : N[i]? with
        | none => rw [q] at h2; cases h2
        | some v => rw [q] at h2; cases h2; exact ⟨v, rfl, rfl⟩
      have s := sizes_at he hu hv
      have ou := hL u (List.mem_of_getElem? hu)
      have ov := hN v (List.mem_of_getElem? hv)
      have gb := bothB_get hu hv
      refine ⟨_, gt_tup2 (by decide), t_yes ⟨fun _ => ?_, fun z => nomatch z⟩⟩
      refine e_binS (x := fun c g' => x c g') (x_out hx) (e_var rfl (e_var rfl ⟨_, .ref a.C_ValueSet, rfl, rfl, .inl rfl, fun W' I => ⟨u.1, u.2, _, rfl, ou, .inl ⟨v.2, by rw [s], by rw [s]; exact ov, fun hl => ⟨_, rfl, rfl, ?_, fun w hw => ?_⟩, fun hl => ?_⟩⟩⟩))
      · rw [TL.take_next gb, List.map_append]; rfl
      · rw [TL.take_next gb] at hw
        rcases List.mem_append.mp hw with h | h
        · exact hf w h
        · rw [List.mem_singleton.mp h]; exact hl
      · refine k2 he fun z => ?_
        have := z _ (List.mem_of_getElem? gb)
        have hl : 12 < (com u.2 v.2).length := hl
        have this : (com u.2 v.2).length ≤ 12 := this
        omega
    · rintro acc g2 ⟨rfl, rfl, hf⟩
      rw [pl, ← bl, List.take_length] at hf ⊢
      exact a_nil fun W' I => ⟨_, rfl, .inl ⟨bothB L N, .v, by omega, by omega, _, rfl, k1 he hf⟩⟩
  · refine hn _ ?_
    o_readsAll
    exact s_raise fun H' e => hx _ g H' kx e
section
variable {W : Wd Nat} {g : Nat} {H0 : Hp} {ρ : Rho} {ta tb : TE} {k : Rs → Nat → Prop} {ES : L2.St → XK}
/-- both, where it is a box -/
theorem e_band (h : wpE W H0 g ρ ta fun r g1 => ∃ L, r = .v (bxD a L) ∧ 1 ≤ L.length ∧ L.length ≤ 8 ∧ (∀ v ∈ L, VOk v) ∧ wpE W H0 g1 ρ tb fun y g2 => ∃ N, y = .v (bxD a N) ∧ N.length ≤ 8 ∧ (∀ v ∈ N, VOk v) ∧ L.map (·.1) = N.map (·.1) ∧ Few (bothB L N) ∧ k (.v (bxD a (bothB L N))) g2) :
    wpE W H0 g ρ (tBinS K a.C_Box .BitAnd (mkSp (box_andC K a)) ES ta tb) k :=
  e_binS (x := fun _ _ => False) (fun _ _ _ _ _ z => z.elim) (h.mono fun r g1 ⟨L, e, L1, L8, hL, h2⟩ => h2.mono fun y g2 ⟨N, e2, N8, hN, he, hf, q⟩ => ⟨_, .ref a.C_Box, e, by rw [e2]; rfl, .inl rfl, fun W' I => ⟨L, y, by rw [e], L1, L8, hL, .inl ⟨N, e2, N8, hN, fun _ _ => q, fun _ z => absurd hf z, fun z => absurd he z⟩⟩⟩)
end
end
end TL
set_option Elab.async false
set_option linter.all false
set_option maxRecDepth 100000
namespace TL
open PySem PySem.Spec L2
section
local macro_rules
  | `(tactic| o_reads) => `(tactic| with_reducible first
    | refine s_seq ?_ | refine s_asg ?_ | refine s_ret ?_ | refine s_next ?_ | refine s_if ?_ | refine t_test ?_ | refine t_B ?_ | refine t_and ?_ | refine t_or ?_ | refine t_not ?_
    | refine e_op ?_ | refine e_int ?_ | refine e_bl ?_ | refine e_str ?_ | refine e_cb ?_ | refine a_cons ?_ | refine a_nil ?_ | refine p_I0i ?_ | refine p_I0b ?_ | refine c_int ?_
    | refine e_call ?_ | refine e_make ?_ | refine e_prop ?_ | refine e_un ?_ | refine p_Ui ?_ | refine e_non ?_ | refine p_eqI ?_ | refine p_neI ?_ | refine p_addI ?_ | refine e_raw ?_ | refine e_lst ?_ | refine e_tup ?_ | refine e_andV ?_ | refine e_orV ?_ | refine e_if ?_ | refine e_notV ?_ | refine e_sl ?_ | refine o_some ?_ | refine o_no ?_ | refine e_revL ?_ | (refine Or.inl ⟨_, LstOf.v, ?_⟩)
    | (refine e_var (r := ?vr) ?va ?vb; case va => with_unfolding_all exact rfl) | (refine e_varO (ds := ?vr) ?va ?vb; case va => with_unfolding_all exact rfl) | (refine e_varT (p := ?vr) ?va ?vb; case va => with_unfolding_all exact rfl)
    | (refine p_Ii ?pa ?pb; case pa => first | exact wide_mul (a := 64) (b := 64) (by first | decide | omega) (by first | decide | omega) (by decide) (by decide) (by decide) | exact pow_ok (n := 64) (by decide) (by decide) (by decide) (by decide) (by decide) | decide | omega)
    | (refine ⟨?vd, (?va : Vs _ _), ?vb, ?vc⟩; (case va => first | exact .nil | exact .cons .nil | exact .cons (.cons .nil) | exact .cons (.cons (.cons .nil)) | exact .cons (.cons (.cons (.cons .nil))) | exact .cons (.cons (.cons (.cons (.cons .nil)))) | exact .cons (.cons (.cons (.cons (.cons (.cons .nil))))) | exact .cons (.cons (.cons (.cons (.cons (.cons (.cons .nil)))))) | exact .cons (.cons (.cons (.cons (.cons (.cons (.cons (.cons .nil))))))) | exact .cons (.cons (.cons (.cons (.cons (.cons (.cons (.cons (.cons .nil)))))))) | exact .cons (.cons (.cons (.cons (.cons (.cons (.cons (.cons (.cons (.cons .nil))))))))) | exact .cons (.cons (.cons (.cons (.cons (.cons (.cons (.cons (.cons (.cons (.cons .nil)))))))))) | exact .cons (.cons (.cons (.cons (.cons (.cons (.cons (.cons (.cons (.cons (.cons (.cons .nil))))))))))) | exact .cons (.cons (.cons (.cons (.cons (.cons (.cons (.cons (.cons (.cons (.cons (.cons (.cons .nil)))))))))))) | exact .cons (.cons (.cons (.cons (.cons (.cons (.cons (.cons (.cons (.cons (.cons (.cons (.cons (.cons .nil))))))))))))) | exact .cons (.cons (.cons (.cons (.cons (.cons (.cons (.cons (.cons (.cons (.cons (.cons (.cons (.cons (.cons .nil)))))))))))))) | exact .cons (.cons (.cons (.cons (.cons (.cons (.cons (.cons (.cons (.cons (.cons (.cons (.cons (.cons (.cons (.cons .nil))))))))))))))) | exact .cons (.cons (.cons (.cons (.cons (.cons (.cons (.cons (.cons (.cons (.cons (.cons (.cons (.cons (.cons (.cons (.cons .nil)))))))))))))))) | exact .cons (.cons (.cons (.cons (.cons (.cons (.cons (.cons (.cons (.cons (.cons (.cons (.cons (.cons (.cons (.cons (.cons (.cons .nil)))))))))))))))))); (case vb => with_unfolding_all exact Nat.le_of_ble_eq_true rfl))
    | (refine ⟨_, rfl, fun _ => ?vx, ?no⟩; (case no => (intro z; with_unfolding_all cases z; done))) | (refine ⟨_, rfl, ?no, fun _ => ?vx⟩; (case no => (intro z; with_unfolding_all cases z; done))) | (refine ⟨?no, fun _ => ?vx⟩; (case no => (intro z; with_unfolding_all cases z; done))) | (refine ⟨fun _ => ?vx, ?no⟩; (case no => (intro z; with_unfolding_all cases z; done))) | (refine ⟨_, rfl, fun hb => ?_, fun hb => ?_⟩) | (refine ⟨_, rfl, ?_⟩))
local macro_rules
  | `(tactic| o_readsAll) => `(tactic| repeat o_reads)
variable {P : Program} {w : World} {K : PySem.W.Frag} {mg : Str → Option Value} {base : Heap} {a : Ad}

def law_sizeC : Ct Nat := fun W g rs k _ => ∃ (p : Addr), rs = [.v (.raw (.ref p))] ∧ Up W ∧ Tp W p ∧ g + 3 < 2 ^ 60 ∧ ∀ n : Int, 1 ≤ n → n ≤ 10 ^ 30 → k (.int n) (g + 3)
theorem ok_law_size (T : Tx K mg a) : FnOk P w K mg base CX0 2 a.f__law_size a.d__law_size ["tape"] (mkSp law_sizeC) := by
  have G__law_next : FnOk P w K mg base CX0 1 a.f__law_next a.d__law_next ["tape", "many"] (mkSp nextC) := ok_law_next T
  refine Fun_t T.F__law_size sc__law_size (fun W g rs k x ⟨p, e, _⟩ => by rw [e]; rfl) fun cdv A outer s H E W g rs kd x hr ⟨p, e, hu, ht, hg, k⟩ => ?_
  subst e
  refine ⟨_, (pss_one (ps_ret (pe_ix (ix_seqK (K := K) rfl) (pe_lst (pa_cons (pe_op op_add pe_int (pe_call G__law_next (hr.mono (by decide)) rfl T.g__law_next T.F__law_next.kp T.b__law_next .nil pass0 (pa_cons (pv 0) (pa_cons pe_int pa_nil)))) (pa_cons (pe_op op_add pe_int (pe_call G__law_next (hr.mono (by decide)) rfl T.g__law_next T.F__law_next.kp T.b__law_next .nil pass0 (pa_cons (pv 0) (pa_cons (pe_op op_powW pe_int pe_int) pa_nil)))) (pa_cons pe_int (pa_cons (pe_op op_powW pe_int pe_int) pa_nil))))) (pe_call G__law_next (hr.mono (by decide)) rfl T.g__law_next T.F__law_next.kp T.b__law_next .nil pass0 (pa_cons (pv 0) (pa_cons pe_int pa_nil))) (fun _ _ => rfl)))), ?_⟩
  have e30 : (10 : Int) ^ Int.toNat 30 = 1000000000000000000000000000000 := by decide
  have e30' : (10 : Int) ^ 30 = 1000000000000000000000000000000 := by decide
  o_readsAll
  refine fun W' I => nx_p I hu ht (by decide) (by decide) (by omega) fun r r0 r1 => ?_
  o_readsAll
  refine fun W' I => nx_p I hu ht (by decide) (by decide) (by omega) fun u u0 u1 => ?_
  o_readsAll
  refine fun W' I => nx_p I hu ht (by decide) (by decide) (by omega) fun c c0 c1 => ?_
  rw [e30] at u1
  obtain ⟨n, z1, z2, z4⟩ : ∃ n : Int, 1 ≤ n ∧ n ≤ 10 ^ 30 ∧ L2.atI [D.int (1 + r), D.int (1 + u), D.int 1, D.int (10 ^ Int.toNat 30)] c = some (.int n) := by
    obtain ⟨j, rfl⟩ : ∃ j : Nat, c = (j : Int) := ⟨c.toNat, by omega⟩
    have hj4 : j < 4 := by omega
    match j, hj4 with
    | 0, _ => exact ⟨1 + r, by omega, by omega, rfl⟩
    | 1, _ => exact ⟨1 + u, by omega, by omega, rfl⟩
    | 2, _ => exact ⟨1, by decide, by decide, rfl⟩
    | 3, _ => exact ⟨_, by decide, Int.le_refl _, rfl⟩
  exact p_ix .v z4 ⟨_, rfl, k n z1 z2⟩
def filledC : Ct Nat := fun W g rs k _ => ∃ (p : Addr) (n : Int), rs = [.v (.raw (.ref p)), .v (.int n)] ∧ Up W ∧ Tp W p ∧ 1 ≤ n ∧ n ≤ 10 ^ 30 ∧ g + 101 < 2 ^ 60 ∧ ∀ ps, OkR n ps → ps.length ≤ 12 → ps ≠ [] → k (.lst (prs ps)) (g + 101)
theorem ok_law_filled (T : Tx K mg a) : FnOk P w K mg base CX0 3 a.f__law_filled a.d__law_filled ["tape", "size"] (mkSp filledC) := by
  have G__law_great : FnOk P w K mg base CX0 2 a.f__law_great a.d__law_great ["tape", "size"] (mkSp greatC) := ok_law_great T
  have G__law_next : FnOk P w K mg base CX0 1 a.f__law_next a.d__law_next ["tape", "many"] (mkSp nextC) := ok_law_next T
  refine Fun_t T.F__law_filled sc__law_filled (fun W g rs k x ⟨p, n, e, _⟩ => by rw [e]; rfl) fun cdv A outer s H E W g rs kd x hr ⟨p, n, e, hu, ht, n1, n30, hg, k⟩ => ?_
  subst e
  refine ⟨_, (pss_cons (ps_set (i := 2) sc__law_filled.nd rfl (Or.inl rfl) (pe_call G__law_great (hr.mono (by decide)) rfl T.g__law_great T.F__law_great.kp T.b__law_great .nil pass0 (pa_cons (pv 0) (pa_cons (pv 1) pa_nil))))
      (pss_cons (ps_set (i := 3) sc__law_filled.nd rfl (Or.inl rfl) (pe_call G__law_next (hr.mono (by decide)) rfl T.g__law_next T.F__law_next.kp T.b__law_next .nil pass0 (pa_cons (pv 0) (pa_cons (pv 1) pa_nil))))
      (pss_one (ps_ret (pe_ifExp (pt_cmpR (op_neK (K := K) rfl (hu64 hr)) (pv 2) (pe_lst pa_nil) (nomark _)) (pv 2) (pe_lst (pa_cons (pe_tup (pa_cons (pv 3) (pa_cons (pv 3) pa_nil))) pa_nil))))))), ?_⟩
  have n200 : n ≤ 2 ^ 200 := by
    have : (2 : Int) ^ 200 = 1606938044258990275541962092341162602522202993782792835301376 := by decide
    have big : (10 : Int) ^ 30 = 1000000000000000000000000000000 := by decide
    omega
  o_readsAll
  refine fun W' I => ⟨p, n, rfl, I.sub.up hu, I.sub.tp ht, n1, n200, by omega, fun ps ho hl => ?_⟩
  o_readsAll
  refine fun W' I => nx_p I hu ht n1 n200 (by omega) fun r r0 r1 => ?_
  o_readsAll
  refine p_neNil .v (prs_pl' ps) ⟨_, rfl, fun b => ?_, fun b => ?_⟩
  · have hne : ps ≠ [] := fun z => by rw [z] at b; cases b
    exact e_var rfl ⟨_, rfl, k ps ho hl hne⟩
  · o_readsAll
    exact k [(r, r)] ⟨fun q hq => by rw [List.mem_singleton.mp hq]; exact ⟨r0, Int.le_refl _, r1⟩, List.pairwise_singleton _ _⟩ (by show 1 ≤ 12; decide) (fun z => nomatch z)
def partsC : Ct Nat := fun _ g rs k _ => ∃ ps : List (Int × Int), rs = [.v (.lst (prs ps))] ∧ ps.length ≤ 12 ∧ (∀ p ∈ ps, p.1 ≤ p.2) ∧ k (.tup [.int ((vals ps).length : Int), .int (ps.length : Int)]) g
/-! wraps: by the first and the last stretch -/
theorem has_first {n : Int} {p : Int × Int} {ps : List (Int × Int)} (h : OkR n (p :: ps)) : has (p :: ps) 0 = decide (p.1 = 0) := by
  have b := h.bd p List.mem_cons_self
  rw [Bool.eq_iff_iff, decide_eq_true_iff, has_iff]
  constructor
  · rintro ⟨q, hq, h1, h2⟩
    rcases List.mem_cons.mp hq with rfl | hq
    · omega
    · have := (List.pairwise_cons.mp h.ap).1 q hq
      omega
  · intro e
    exact ⟨p, List.mem_cons_self, by omega, by omega⟩
theorem has_last {n : Int} {p : Int × Int} {ps : List (Int × Int)} (h : OkR n (ps ++ [p])) : has (ps ++ [p]) (n - 1) = decide (p.2 = n - 1) := by
  have b := h.bd p (List.mem_append_right _ List.mem_cons_self)
  rw [Bool.eq_iff_iff, decide_eq_true_iff, has_iff]
  constructor
  · rintro ⟨q, hq, h1, h2⟩
    rcases List.mem_append.mp hq with hq' | hq'
    · have := (List.pairwise_append.mp h.ap).2.2 q hq' p List.mem_cons_self
      have e' : q.2 + 1 < p.1 := this
      have := h.bd q hq
      omega
    · rw [List.mem_singleton.mp hq'] at h1 h2
      omega
  · intro e
    exact ⟨p, List.mem_append_right _ List.mem_cons_self, by omega, by omega⟩
def law_wrapsC : Ct Nat := fun _ g rs k _ => ∃ (n : Int) (ps : List (Int × Int)), rs = [.v (.int n), .v (.lst (prs ps))] ∧ OkR n ps ∧ ps ≠ [] ∧ k (.bl (wrp (n, ps))) g
def rowD (v : VSt) : D := .lst (prs v.2)
end
end TL
set_option Elab.async false
set_option linter.all false
set_option maxRecDepth 100000
namespace TL
open PySem PySem.Spec L2
section
local macro_rules
  | `(tactic| o_reads) => `(tactic| with_reducible first
    | refine s_seq ?_ | refine s_asg ?_ | refine s_ret ?_ | refine s_next ?_ | refine s_if ?_ | refine t_test ?_ | refine t_B ?_ | refine t_and ?_ | refine t_or ?_ | refine t_not ?_
    | refine e_op ?_ | refine e_int ?_ | refine e_bl ?_ | refine e_str ?_ | refine e_cb ?_ | refine a_cons ?_ | refine a_nil ?_ | refine p_I0i ?_ | refine p_I0b ?_ | refine c_int ?_
    | refine e_call ?_ | refine e_make ?_ | refine e_prop ?_ | refine e_un ?_ | refine p_Ui ?_ | refine e_non ?_ | refine p_eqI ?_ | refine p_neI ?_ | refine p_addI ?_ | refine e_raw ?_ | refine e_lst ?_ | refine e_tup ?_ | refine e_andV ?_ | refine e_orV ?_ | refine e_if ?_ | refine e_notV ?_ | refine e_sl ?_ | refine o_some ?_ | refine o_no ?_ | refine e_revL ?_ | (refine Or.inl ⟨_, LstOf.v, ?_⟩)
    | (refine e_var (r := ?vr) ?va ?vb; case va => with_unfolding_all exact rfl) | (refine e_varO (ds := ?vr) ?va ?vb; case va => with_unfolding_all exact rfl) | (refine e_varT (p := ?vr) ?va ?vb; case va => with_unfolding_all exact rfl)
    | (refine p_Ii ?pa ?pb; case pa => first | exact wide_mul (a := 64) (b := 64) (by first | decide | omega) (by first | decide | omega) (by decide) (by decide) (by decide) | exact pow_ok (n := 64) (by decide) (by decide) (by decide) (by decide) (by decide) | decide | omega)
    | (refine ⟨?vd, (?va : Vs _ _), ?vb, ?vc⟩; (case va => first | exact .nil | exact .cons .nil | exact .cons (.cons .nil) | exact .cons (.cons (.cons .nil)) | exact .cons (.cons (.cons (.cons .nil))) | exact .cons (.cons (.cons (.cons (.cons .nil)))) | exact .cons (.cons (.cons (.cons (.cons (.cons .nil))))) | exact .cons (.cons (.cons (.cons (.cons (.cons (.cons .nil)))))) | exact .cons (.cons (.cons (.cons (.cons (.cons (.cons (.cons .nil))))))) | exact .cons (.cons (.cons (.cons (.cons (.cons (.cons (.cons (.cons .nil)))))))) | exact .cons (.cons (.cons (.cons (.cons (.cons (.cons (.cons (.cons (.cons .nil))))))))) | exact .cons (.cons (.cons (.cons (.cons (.cons (.cons (.cons (.cons (.cons (.cons .nil)))))))))) | exact .cons (.cons (.cons (.cons (.cons (.cons (.cons (.cons (.cons (.cons (.cons (.cons .nil))))))))))) | exact .cons (.cons (.cons (.cons (.cons (.cons (.cons (.cons (.cons (.cons (.cons (.cons (.cons .nil)))))))))))) | exact .cons (.cons (.cons (.cons (.cons (.cons (.cons (.cons (.cons (.cons (.cons (.cons (.cons (.cons .nil))))))))))))) | exact .cons (.cons (.cons (.cons (.cons (.cons (.cons (.cons (.cons (.cons (.cons (.cons (.cons (.cons (.cons .nil)))))))))))))) | exact .cons (.cons (.cons (.cons (.cons (.cons (.cons (.cons (.cons (.cons (.cons (.cons (.cons (.cons (.cons (.cons .nil))))))))))))))) | exact .cons (.cons (.cons (.cons (.cons (.cons (.cons (.cons (.cons (.cons (.cons (.cons (.cons (.cons (.cons (.cons (.cons .nil)))))))))))))))) | exact .cons (.cons (.cons (.cons (.cons (.cons (.cons (.cons (.cons (.cons (.cons (.cons (.cons (.cons (.cons (.cons (.cons (.cons .nil)))))))))))))))))); (case vb => with_unfolding_all exact Nat.le_of_ble_eq_true rfl))
    | (refine ⟨_, rfl, fun _ => ?vx, ?no⟩; (case no => (intro z; with_unfolding_all cases z; done))) | (refine ⟨_, rfl, ?no, fun _ => ?vx⟩; (case no => (intro z; with_unfolding_all cases z; done))) | (refine ⟨?no, fun _ => ?vx⟩; (case no => (intro z; with_unfolding_all cases z; done))) | (refine ⟨fun _ => ?vx, ?no⟩; (case no => (intro z; with_unfolding_all cases z; done))) | (refine ⟨_, rfl, fun hb => ?_, fun hb => ?_⟩) | (refine ⟨_, rfl, ?_⟩))
local macro_rules
  | `(tactic| o_readsAll) => `(tactic| repeat o_reads)
variable {P : Program} {w : World} {K : PySem.W.Frag} {mg : Str → Option Value} {base : Heap} {a : Ad}

/-! ### k06: what is told of two boxes -/
theorem kf_many (T : Tx K mg a) : KF K a a.C_TooMany false false false false false false false false true := ⟨T.ec_TooMany, T.kv_TooMany, T.kx_TooMany_InvalidSizes, T.kx_TooMany_InvalidSet, T.kx_TooMany_InvalidBox, T.kx_TooMany_InvalidOrder, T.kx_TooMany_InvalidKey, T.kx_TooMany_InvalidNumber, T.kx_TooMany_OtherSizes, T.kx_TooMany_EmptyBox, T.kx_TooMany_TooMany, T.kx_TooMany_InvalidCondition, T.kx_TooMany_InvalidTable, T.kx_TooMany_InvalidWish, T.kx_TooMany_InvalidBoxes, T.kx_TooMany_InvalidText, T.kx_TooMany_AlreadyThere, T.kx_TooMany_NotThere, T.kx_TooMany_NothingToUndo⟩
theorem kf_other (T : Tx K mg a) : KF K a a.C_OtherSizes false false false false false false true false false := ⟨T.ec_OtherSizes, T.kv_OtherSizes, T.kx_OtherSizes_InvalidSizes, T.kx_OtherSizes_InvalidSet, T.kx_OtherSizes_InvalidBox, T.kx_OtherSizes_InvalidOrder, T.kx_OtherSizes_InvalidKey, T.kx_OtherSizes_InvalidNumber, T.kx_OtherSizes_OtherSizes, T.kx_OtherSizes_EmptyBox, T.kx_OtherSizes_TooMany, T.kx_OtherSizes_InvalidCondition, T.kx_OtherSizes_InvalidTable, T.kx_OtherSizes_InvalidWish, T.kx_OtherSizes_InvalidBoxes, T.kx_OtherSizes_InvalidText, T.kx_OtherSizes_AlreadyThere, T.kx_OtherSizes_NotThere, T.kx_OtherSizes_NothingToUndo⟩
theorem kf_box (T : Tx K mg a) : KF K a a.C_InvalidBox false false true false false false false false false := ⟨T.ec_InvalidBox, T.kv_InvalidBox, T.kx_InvalidBox_InvalidSizes, T.kx_InvalidBox_InvalidSet, T.kx_InvalidBox_InvalidBox, T.kx_InvalidBox_InvalidOrder, T.kx_InvalidBox_InvalidKey, T.kx_InvalidBox_InvalidNumber, T.kx_InvalidBox_OtherSizes, T.kx_InvalidBox_EmptyBox, T.kx_InvalidBox_TooMany, T.kx_InvalidBox_InvalidCondition, T.kx_InvalidBox_InvalidTable, T.kx_InvalidBox_InvalidWish, T.kx_InvalidBox_InvalidBoxes, T.kx_InvalidBox_InvalidText, T.kx_InvalidBox_AlreadyThere, T.kx_InvalidBox_NotThere, T.kx_InvalidBox_NothingToUndo⟩
def rowsD (M : List VSt) : D := .lst (M.map fun v => .lst (prs v.2))
def toldB (L N : List VSt) : D := if L.map (·.1) = N.map (·.1) then (if Few (bothB L N) then rowsD (bothB L N) else .str "many") else .str "other"
def law_btoldC (K : PySem.W.Frag) (a : Ad) : Ct Nat := fun _ g rs k _ => ∃ (L : List VSt) (y : Rs) (t : Value), rs = [.v (bxD a L), y] ∧ 1 ≤ L.length ∧ L.length ≤ 8 ∧ (∀ v ∈ L, VOk v) ∧ y.tyR = some t ∧ BinTy K a.C_Box .BitAnd t ∧
  ((∃ N : List VSt, y = .v (bxD a N) ∧ N.length ≤ 8 ∧ (∀ v ∈ N, VOk v) ∧ k (toldB L N) g) ∨ (NotI K a.C_Box y ∧ k (.str "box") g))
theorem ok_law_told (T : Tx K mg a) : FnOk P w K mg base CX0 9 a.f__law_told a.d__law_told ["one", "thing"] (mkSp (law_btoldC K a)) := by
  have G_BoxU_andU : FnOk P w K mg base (L2N.CX P w) 8 a.f_BoxU_andU a.d_BoxU_andU ["self", "other"] (mkSp (box_andC K a)) := ok_box_and T
  have G_Box_sets : FnOk P w K mg base CX0 1 a.f_Box_sets a.d_Box_sets ["self"] (mkSpN (box_setsC a)) := ok_box_sets T
  have G_ValueSet_stretches : FnOk P w K mg base CX0 1 a.f_ValueSet_stretches a.d_ValueSet_stretches ["self"] (mkSpN (stretchesC a)) := ok_stretches T
  have G__law_kind : FnE P w K mg base CX0 1 a.f__law_kind a.d__law_kind ["e"] (fun D e => mkSp (kindC K a D e)) := ok_law_kind T
  refine Fun_t T.F__law_told sc__law_told (fun W g rs k x ⟨L, y, t, e, _⟩ => by rw [e]; rfl) fun cdv A outer s H E W g rs kd x hr ⟨L, y, t, e, L1, L8, hL, ty, t1, h⟩ => ?_
  subst e
  refine ⟨_, (pss_one (ps_tryAs (i := 2) rfl rfl sc__law_told.nd rfl rfl ⟨rfl, by decide, .inl T.g_ScanError⟩ takes0N (fun W pn xe tk _ => (pss_one (ps_ret (pe_lc (own := [("two", 3)]) rfl sc__law_told.nd  (pi_listK (K := K) rfl (pe_prop (pe_binSK (K := K) rfl T.u_BoxU_andU G_BoxU_andU T.b_BoxU_andU (hr.mono (by decide)) (fun σ => L2N.passAt tk σ) (pv 0) (pv 1)) T.cl_Box T.p_Box_sets G_Box_sets (hr.mono (by decide)) T.b_Box_sets .nil pass0 rfl)) (blkOk_by (N := ["one", "thing", "e", "two"]) (sc := defScope s__law_told) (by decide +kernel)) (fun _ _ _ _ _ => (pg_name (i := 3) (x := "two") sc__law_told.nd rfl (Or.inl rfl))) (fun _ _ _ _ _ => pts_nil) (fun _ _ _ _ _ => (pe_prop (pv 3) T.cl_ValueSet T.p_ValueSet_stretches G_ValueSet_stretches (hr.mono (by decide)) T.b_ValueSet_stretches .nil pass0 rfl)))))) (fun ea eo ecl ed epn hz hf => (pss_one (ps_ret (pe_callE G__law_kind (hr.mono (by decide)) hz hf rfl T.g__law_kind T.F__law_kind.kp T.b__law_kind (pa_cons (pv 2) pa_nil))))))), ?_⟩
  have km : kindW (wordsK false false false false false false false false true) = "many" := by decide +kernel
  have ko : kindW (wordsK false false false false false false true false false) = "other" := by decide +kernel
  have kb : kindW (wordsK false false true false false false false false false) = "box" := by decide +kernel
  let X : Value → Nat → Prop := fun c g' => g' = g ∧ ∃ (D : Addr) (b1 b2 b3 b4 b5 b6 b7 b8 b9 : Bool), c = .ref D ∧ PySem.W.exmOne K (.ref D) (.ref a.C_ScanError) = some true ∧ KF K a D b1 b2 b3 b4 b5 b6 b7 b8 b9 ∧ kd (.str (kindW (wordsK b1 b2 b3 b4 b5 b6 b7 b8 b9))) g
  have xm : kd (.str "many") g → X (.ref a.C_TooMany) g := fun q => ⟨rfl, _, _, _, _, _, _, _, _, _, _, rfl, T.es_TooMany, kf_many T, by rw [km]; exact q⟩
  have xo : kd (.str "other") g → X (.ref a.C_OtherSizes) g := fun q => ⟨rfl, _, _, _, _, _, _, _, _, _, _, rfl, T.es_OtherSizes, kf_other T, by rw [ko]; exact q⟩
  have xb : kd (.str "box") g → X (.ref a.C_InvalidBox) g := fun q => ⟨rfl, _, _, _, _, _, _, _, _, _, _, rfl, T.es_InvalidBox, kf_box T, by rw [kb]; exact q⟩
  refine s_tryAs X (fun c g2 ⟨_, D, b1, b2, b3, b4, b5, b6, b7, b8, b9, e, ex, _⟩ => by rw [e]; exact ex) (fun ea cl g2 ⟨eg, D, b1, b2, b3, b4, b5, b6, b7, b8, b9, e, _, kf, q⟩ => ?_) fun Wx hx => ?_
  · subst e
    subst eg
    exact s_ret (e_callE (a_cons (e_var rfl (a_nil ⟨D, rfl, rfl, fun W' I => ⟨_, _, _, _, _, _, _, _, _, rfl, kf, _, rfl, q⟩⟩))))
  refine s_ret (e_new (n_map (i_list (e_sets (e_binS (x := X) hx (e_var rfl (e_var rfl ⟨_, t, rfl, ty, t1, fun W' I => ⟨L, y, rfl, L1, L8, hL, ?_⟩⟩)))))))
  rcases h with ⟨N, ey, N8, hN, k⟩ | ⟨ni, k⟩
  · refine .inl ⟨N, ey, N8, hN, fun he hf => ⟨bothB L N, rfl, _, rfl, ?_⟩, fun he hf => xm ?_, fun he => xo ?_⟩
    · unfold toldB at k
      rw [if_pos he, if_pos hf] at k
      have bl := bothB_len he
      refine ⟨by rw [List.length_map]; omega, fun d => match d with | .ins _ [_, (_, x)] => x | _ => .non, fun d hd => ?_, _, rfl, ?_⟩
      · obtain ⟨v, _, rfl⟩ := List.mem_map.mp hd
        exact ⟨_, gt_name, e_stre (e_var rfl ⟨v.1, v.2, rfl, rfl, rfl⟩)⟩
      · rw [List.map_map]
        exact k
    · unfold toldB at k
      rwa [if_pos he, if_neg hf] at k
    · unfold toldB at k
      rwa [if_neg he] at k
  · exact .inr ⟨ni, xb k⟩
/-! going along both lists -/
theorem ov_no {p q : Int × Int} (h : ¬ (p.1 ≤ q.2 ∧ q.1 ≤ p.2)) : com1 p q = none := if_neg h
theorem fm_no {f : (Int × Int) → Option (Int × Int)} : ∀ {l : List (Int × Int)}, (∀ x ∈ l, f x = none) → l.filterMap f = []
  | [], _ => rfl
  | x :: l, h => by
    rw [List.filterMap_cons_none (h x List.mem_cons_self)]
    exact fm_no fun y hy => h y (List.mem_cons_of_mem _ hy)
theorem okR_tail {n : Int} {p : Int × Int} {ps : List (Int × Int)} (h : OkR n (p :: ps)) : OkR n ps := ⟨fun q hq => h.bd q (List.mem_cons_of_mem _ hq), (List.pairwise_cons.mp h.ap).2⟩
theorem com_nil (ps : List (Int × Int)) : com ps [] = [] := by
  unfold com
  induction ps with
  | nil => rfl
  | cons p ps ih => rw [List.flatMap_cons, ih]; rfl
theorem com_cons (p : Int × Int) (ps qs : List (Int × Int)) : com (p :: ps) qs = qs.filterMap (com1 p) ++ com ps qs := by
  unfold com
  rw [List.flatMap_cons]
def one1 (p q : Int × Int) : List (Int × Int) := if (if q.1 > p.1 then q.1 else p.1) ≤ (if q.2 < p.2 then q.2 else p.2) then [(if q.1 > p.1 then q.1 else p.1, if q.2 < p.2 then q.2 else p.2)] else []
theorem one_com {n : Int} {p q : Int × Int} (hp : p.1 ≤ p.2) (hq : q.1 ≤ q.2) : [q].filterMap (com1 p) = one1 p q := by
  unfold one1 com1
  by_cases z : p.1 ≤ q.2 ∧ q.1 ≤ p.2
  · rw [if_pos (by split <;> split <;> omega)]
    simp [z]
  · rw [if_neg (by split <;> split <;> omega)]
    simp [z]
theorem com_less {n : Int} {p q : Int × Int} {ps qs : List (Int × Int)} (h : OkR n (p :: ps)) (h' : OkR n (q :: qs)) (hl : p.2 < q.2) : com (p :: ps) (q :: qs) = one1 p q ++ com ps (q :: qs) := by
  have b := h.bd p List.mem_cons_self
  have b' := h'.bd q List.mem_cons_self
  rw [com_cons]
  congr 1
  have : (q :: qs).filterMap (com1 p) = [q].filterMap (com1 p) ++ qs.filterMap (com1 p) := by
    rw [← List.filterMap_append]; rfl
  rw [this, fm_no (f := com1 p) (l := qs), List.append_nil, one_com (n := n) b.2.1 b'.2.1]
  intro r hr
  have := (List.pairwise_cons.mp h'.ap).1 r hr
  exact ov_no fun z => by omega
theorem com_more {n : Int} {p q : Int × Int} {ps qs : List (Int × Int)} (h : OkR n (p :: ps)) (h' : OkR n (q :: qs)) (hl : ¬ p.2 < q.2) : com (p :: ps) (q :: qs) = one1 p q ++ com (p :: ps) qs := by
  have b := h.bd p List.mem_cons_self
  have b' := h'.bd q List.mem_cons_self
  rw [com_cons, com_cons]
  have e1 : (q :: qs).filterMap (com1 p) = [q].filterMap (com1 p) ++ qs.filterMap (com1 p) := by
    rw [← List.filterMap_append]; rfl
  have e2 : com ps (q :: qs) = com ps qs := by
    unfold com
    rw [List.flatMap_def, List.flatMap_def]
    congr 1
    refine List.map_congr_left fun r hr => ?_
    have := (List.pairwise_cons.mp h.ap).1 r hr
    rw [List.filterMap_cons_none (ov_no fun z => by omega)]
  rw [e1, e2, one_com (n := n) b.2.1 b'.2.1, List.append_assoc]
def law_commonC : Ct Nat := fun _ g rs k _ => ∃ (n : Int) (ps qs : List (Int × Int)), rs = [.v (.lst (prs ps)), .v (.lst (prs qs))] ∧ OkR n ps ∧ OkR n qs ∧ ps.length ≤ 100 ∧ qs.length ≤ 100 ∧ k (.lst (prs (com ps qs))) g
set_option maxHeartbeats 2000000 in
theorem ok_law_common (T : Tx K mg a) : FnOk P w K mg base CX0 1 a.f__law_common a.d__law_common ["ones", "others"] (mkSp law_commonC) := by
  refine Fun_t T.F__law_common sc__law_common (fun W g rs k x ⟨n, ps, qs, e, _⟩ => by rw [e]; rfl) fun cdv A outer s H E W g rs kd x hr ⟨n, ps, qs, e, hp, hq, lp, lq, k⟩ => ?_
  subst e
  refine ⟨_, (pss_cons (ps_par3 (i := 2) (j := 3) (l := 4) rfl sc__law_common.nd rfl rfl rfl (by decide) (by decide) (by decide) rfl rfl rfl (pa_cons (pe_lst pa_nil) (pa_cons (pe_callTy (cr_listK (K := K) rfl) rfl T.n_list (by decide +kernel) (pa_cons (pv 0) pa_nil)) (pa_cons (pe_callTy (cr_listK (K := K) rfl) rfl T.n_list (by decide +kernel) (pa_cons (pv 1) pa_nil)) pa_nil))) rfl)
      (pss_cons (ps_while PassesOwn.never (PW.pt (pw_and (pt_cmpR (op_neK (K := K) rfl (hu64 hr)) (pv 3) (pe_lst pa_nil) (nomark _)) (pw_and1 (pt_cmpR (op_neK (K := K) rfl (hu64 hr)) (pv 4) (pe_lst pa_nil) (nomark _))))) (pss_cons (ps_par (i := 5) (j := 6) rfl sc__law_common.nd rfl rfl (by decide) rfl rfl (pa_cons (pe_callB (cr_max2 rfl) rfl T.n_max (by decide +kernel) (pa_cons (pe_ix (ix_seqK (K := K) rfl) (pe_ix (ix_seqK (K := K) rfl) (pv 3) pe_int (fun _ _ => rfl)) pe_int (fun _ _ => rfl)) (pa_cons (pe_ix (ix_seqK (K := K) rfl) (pe_ix (ix_seqK (K := K) rfl) (pv 4) pe_int (fun _ _ => rfl)) pe_int (fun _ _ => rfl)) pa_nil))) (pa_cons (pe_callB (cr_min2 rfl) rfl T.n_min (by decide +kernel) (pa_cons (pe_ix (ix_seqK (K := K) rfl) (pe_ix (ix_seqK (K := K) rfl) (pv 3) pe_int (fun _ _ => rfl)) pe_int (fun _ _ => rfl)) (pa_cons (pe_ix (ix_seqK (K := K) rfl) (pe_ix (ix_seqK (K := K) rfl) (pv 4) pe_int (fun _ _ => rfl)) pe_int (fun _ _ => rfl)) pa_nil))) pa_nil)) rfl)
      (pss_cons (ps_if (pt_cmpR op_le (pv 5) (pv 6) (nomark _)) (pss_one (ps_expr (pe_bm PySem.F.plainAttrs_list PySem.F.slot_list_append PySem.F.type_list_append mt_append (pv 2) (pa_cons (pe_tup (pa_cons (pv 5) (pa_cons (pv 6) pa_nil))) pa_nil)))) pss_nil)
      (pss_one (ps_if (pt_cmpR op_lt (pe_ix (ix_seqK (K := K) rfl) (pe_ix (ix_seqK (K := K) rfl) (pv 3) pe_int (fun _ _ => rfl)) pe_int (fun _ _ => rfl)) (pe_ix (ix_seqK (K := K) rfl) (pe_ix (ix_seqK (K := K) rfl) (pv 4) pe_int (fun _ _ => rfl)) pe_int (fun _ _ => rfl)) (nomark _)) (pss_one (ps_expr (pe_bm PySem.F.plainAttrs_list PySem.F.slot_list_pop PySem.F.type_list_pop mt_popAt (pv 3) (pa_cons pe_int pa_nil)))) (pss_one (ps_expr (pe_bm PySem.F.plainAttrs_list PySem.F.slot_list_pop PySem.F.type_list_pop mt_popAt (pv 4) (pa_cons pe_int pa_nil)))))))))
      (pss_one (ps_ret (pv 2))))), ?_⟩
  refine s_seq (s_par3L (n_lst (a_nil ⟨[], .nil, by decide, n_list (a_cons (e_var rfl (a_nil ⟨_, _, rfl, .v, n_list (a_cons (e_var rfl (a_nil ⟨_, _, rfl, .v, ?_⟩)))⟩)))⟩)))
  show wpS W H g [.v (.lst (prs ps)), .v (.lst (prs qs)), .ow (prs []), .ow (prs ps), .ow (prs qs), .un, .un] _ _
  refine s_seq (s_while (fun m ρ' g' => g' = g ∧ ∃ (f l r : List (Int × Int)) (s5 s6 : Sl), l.length + r.length = m ∧ f.length + m ≤ 200 ∧ OkR n l ∧ OkR n r ∧ f ++ com l r = com ps qs ∧ ρ' = [.v (.lst (prs ps)), .v (.lst (prs qs)), .ow (prs f), .ow (prs l), .ow (prs r), s5, s6]) (ps.length + qs.length) ⟨rfl, [], ps, qs, _, _, rfl, by show 0 + _ ≤ _; omega, hp, hq, rfl, rfl⟩ ?_)
  rintro m ρ' g' ⟨rfl, f, l, r, s5, s6, hm, hf, hl, hR, he, rfl⟩
  have fin : ∀ Kt : TK Nat, Kt.rt = kd → com l r = [] → wpS W H g' [.v (.lst (prs ps)), .v (.lst (prs qs)), .ow (prs f), .ow (prs l), .ow (prs r), s5, s6] (tRet (tVar 2)) Kt := fun Kt hK z => by
    rw [z, List.append_nil] at he
    subst he
    exact s_shr 2 (ds := prs (com ps qs)) rfl (s_ret (e_var rfl ⟨_, rfl, by rw [hK]; exact k⟩))
  refine t_and (t_test (e_op (e_varO (ds := prs l) rfl (e_lst (a_nil ⟨[], .nil, by decide, p_neNil .b (prs_pl _) ⟨_, rfl, fun b => ?_, fun b => ⟨(fun z => nomatch z), fun _ => ?_⟩⟩⟩)))))
  rotate_left
  · have : l = [] := by
      cases l with
      | nil => rfl
      | cons p l => exact absurd b (by simp [prs])
    subst this
    exact fin _ rfl rfl
  obtain ⟨p, l, rfl⟩ : ∃ p l', l = p :: l' := by
    cases l with
    | nil => cases b
    | cons p l => exact ⟨p, l, rfl⟩
  refine t_test (e_op (e_varO (ds := prs r) rfl (e_lst (a_nil ⟨[], .nil, by decide, p_neNil .b (prs_pl _) ⟨_, rfl, fun b => ?_, fun b => ?_⟩⟩))))
  rotate_left
  · have : r = [] := by
      cases r with
      | nil => rfl
      | cons p l => exact absurd b (by simp [prs])
    subst this
    exact fin _ rfl (com_nil _)
  obtain ⟨q, r, rfl⟩ : ∃ q r', r = q :: r' := by
    cases r with
    | nil => cases b
    | cons p l => exact ⟨p, l, rfl⟩
  have i0 : ∀ (p : Int × Int) (ps : List (Int × Int)), L2.atI (prs (p :: ps)) 0 = some (.tup [.int p.1, .int p.2]) := fun p ps => atI_nat (show (prs (p :: ps))[0]? = some (.tup [.int p.1, .int p.2]) from rfl)
  refine s_seq (s_par (a_cons (e_cb (a_cons (e_op (e_op (e_varO (ds := prs (p :: l)) rfl (e_int (p_ix .b (i0 _ _) (e_int (p_ix .t rfl (a_cons (e_op (e_op (e_varO (ds := prs (q :: r)) rfl (e_int (p_ix .b (i0 _ _) (e_int (p_ix .t rfl (a_nil (c_max2 ?_)))))))))))))))))))))
  refine a_cons (e_cb (a_cons (e_op (e_op (e_varO (ds := prs (p :: l)) rfl (e_int (p_ix .b (i0 _ _) (e_int (p_ix .t rfl (a_cons (e_op (e_op (e_varO (ds := prs (q :: r)) rfl (e_int (p_ix .b (i0 _ _) (e_int (p_ix .t rfl (a_nil (c_min2 (a_nil ⟨_, _, rfl, ?_⟩))))))))))))))))))))
  generalize hb : (if q.1 > p.1 then q.1 else p.1) = lo
  generalize hh : (if q.2 < p.2 then q.2 else p.2) = hi
  have o1 : one1 p q = if lo ≤ hi then [(lo, hi)] else [] := by
    unfold one1
    rw [hb, hh]
  show wpS W H g' [.v (.lst (prs ps)), .v (.lst (prs qs)), .ow (prs f), .ow (prs (p :: l)), .ow (prs (q :: r)), .v (.int lo), .v (.int hi)] _ _
  have lf : (prs f).length ≤ 1000000 := by rw [prs_len]; omega
  refine s_cut (fun ρ' g2 => g2 = g' ∧ ρ' = [.v (.lst (prs ps)), .v (.lst (prs qs)), .ow (prs (f ++ one1 p q)), .ow (prs (p :: l)), .ow (prs (q :: r)), .v (.int lo), .v (.int hi)]) ?_ ?_
  · refine s_if (t_test (e_op (e_var rfl (e_var rfl (p_I0b ⟨_, rfl, fun b => ?_, fun b => ?_⟩)))))
    · rw [o1, if_pos (of_decide_eq_true b), prs_app]
      refine s_app (i := 2) (ds := prs f) rfl lf (e_tup (a_cons (e_var rfl (a_cons (e_var rfl (a_nil ⟨_, .cons (.cons .nil), by show 2 ≤ 1000; decide, _, rfl, rfl, rfl⟩))))))
    · rw [o1, if_neg (of_decide_eq_false b), List.append_nil]
      exact s_next ⟨rfl, rfl⟩
  rintro ρ' g2 ⟨rfl, rfl⟩
  have l1 : (one1 p q).length ≤ 1 := by
    rw [o1]
    split
    · exact Nat.le_refl _
    · exact Nat.zero_le _
  have ll : (prs l).length ≤ 1000000 := by rw [prs_len]; simp at hm; omega
  have lr : (prs r).length ≤ 1000000 := by rw [prs_len]; simp at hm; omega
  refine s_if (t_test (e_op (e_op (e_op (e_varO (ds := prs (p :: l)) rfl (e_int (p_ix .b (i0 _ _) (e_int (p_ix .t rfl (e_op (e_op (e_varO (ds := prs (q :: r)) rfl (e_int (p_ix .b (i0 _ _) (e_int (p_ix .t rfl (p_I0b ⟨_, rfl, fun b => ?_, fun b => ?_⟩)))))))))))))))))
  · rw [com_less hl hR (of_decide_eq_true b), ← List.append_assoc] at he
    refine s_pop0 (i := 3) (e0 := .tup [.int p.1, .int p.2]) (es := prs l) rfl ll ⟨m - 1, by simp at hm; omega, rfl, f ++ one1 p q, l, q :: r, _, _, by simp at hm ⊢; omega, by rw [List.length_append]; simp at hm; omega, okR_tail hl, hR, he, rfl⟩
  · rw [com_more hl hR (of_decide_eq_false b), ← List.append_assoc] at he
    refine s_pop0 (i := 4) (e0 := .tup [.int q.1, .int q.2]) (es := prs r) rfl lr ⟨m - 1, by simp at hm; omega, rfl, f ++ one1 p q, p :: l, r, _, _, by simp at hm ⊢; omega, by rw [List.length_append]; simp at hm; omega, hl, okR_tail hR, he, rfl⟩
end
end TL
set_option Elab.async false
set_option linter.all false
set_option maxRecDepth 100000
namespace TL
open PySem PySem.Spec L2
section
local macro_rules
  | `(tactic| o_reads) => `(tactic| with_reducible first
    | refine s_seq ?_ | refine s_asg ?_ | refine s_ret ?_ | refine s_next ?_ | refine s_if ?_ | refine t_test ?_ | refine t_B ?_ | refine t_and ?_ | refine t_or ?_ | refine t_not ?_
    | refine e_op ?_ | refine e_int ?_ | refine e_bl ?_ | refine e_str ?_ | refine e_cb ?_ | refine a_cons ?_ | refine a_nil ?_ | refine p_I0i ?_ | refine p_I0b ?_ | refine c_int ?_
    | refine e_call ?_ | refine e_make ?_ | refine e_prop ?_ | refine e_un ?_ | refine p_Ui ?_ | refine e_non ?_ | refine p_eqI ?_ | refine p_neI ?_ | refine p_addI ?_ | refine e_raw ?_ | refine e_lst ?_ | refine e_tup ?_ | refine e_andV ?_ | refine e_orV ?_ | refine e_if ?_ | refine e_notV ?_ | refine e_sl ?_ | refine o_some ?_ | refine o_no ?_ | refine e_revL ?_ | (refine Or.inl ⟨_, LstOf.v, ?_⟩)
    | (refine e_var (r := ?vr) ?va ?vb; case va => with_unfolding_all exact rfl) | (refine e_varO (ds := ?vr) ?va ?vb; case va => with_unfolding_all exact rfl) | (refine e_varT (p := ?vr) ?va ?vb; case va => with_unfolding_all exact rfl)
    | (refine p_Ii ?pa ?pb; case pa => first | exact wide_mul (a := 64) (b := 64) (by first | decide | omega) (by first | decide | omega) (by decide) (by decide) (by decide) | exact pow_ok (n := 64) (by decide) (by decide) (by decide) (by decide) (by decide) | decide | omega)
    | (refine ⟨?vd, (?va : Vs _ _), ?vb, ?vc⟩; (case va => first | exact .nil | exact .cons .nil | exact .cons (.cons .nil) | exact .cons (.cons (.cons .nil)) | exact .cons (.cons (.cons (.cons .nil))) | exact .cons (.cons (.cons (.cons (.cons .nil)))) | exact .cons (.cons (.cons (.cons (.cons (.cons .nil))))) | exact .cons (.cons (.cons (.cons (.cons (.cons (.cons .nil)))))) | exact .cons (.cons (.cons (.cons (.cons (.cons (.cons (.cons .nil))))))) | exact .cons (.cons (.cons (.cons (.cons (.cons (.cons (.cons (.cons .nil)))))))) | exact .cons (.cons (.cons (.cons (.cons (.cons (.cons (.cons (.cons (.cons .nil))))))))) | exact .cons (.cons (.cons (.cons (.cons (.cons (.cons (.cons (.cons (.cons (.cons .nil)))))))))) | exact .cons (.cons (.cons (.cons (.cons (.cons (.cons (.cons (.cons (.cons (.cons (.cons .nil))))))))))) | exact .cons (.cons (.cons (.cons (.cons (.cons (.cons (.cons (.cons (.cons (.cons (.cons (.cons .nil)))))))))))) | exact .cons (.cons (.cons (.cons (.cons (.cons (.cons (.cons (.cons (.cons (.cons (.cons (.cons (.cons .nil))))))))))))) | exact .cons (.cons (.cons (.cons (.cons (.cons (.cons (.cons (.cons (.cons (.cons (.cons (.cons (.cons (.cons .nil)))))))))))))) | exact .cons (.cons (.cons (.cons (.cons (.cons (.cons (.cons (.cons (.cons (.cons (.cons (.cons (.cons (.cons (.cons .nil))))))))))))))) | exact .cons (.cons (.cons (.cons (.cons (.cons (.cons (.cons (.cons (.cons (.cons (.cons (.cons (.cons (.cons (.cons (.cons .nil)))))))))))))))) | exact .cons (.cons (.cons (.cons (.cons (.cons (.cons (.cons (.cons (.cons (.cons (.cons (.cons (.cons (.cons (.cons (.cons (.cons .nil)))))))))))))))))); (case vb => with_unfolding_all exact Nat.le_of_ble_eq_true rfl))
    | (refine ⟨_, rfl, fun _ => ?vx, ?no⟩; (case no => (intro z; with_unfolding_all cases z; done))) | (refine ⟨_, rfl, ?no, fun _ => ?vx⟩; (case no => (intro z; with_unfolding_all cases z; done))) | (refine ⟨?no, fun _ => ?vx⟩; (case no => (intro z; with_unfolding_all cases z; done))) | (refine ⟨fun _ => ?vx, ?no⟩; (case no => (intro z; with_unfolding_all cases z; done))) | (refine ⟨_, rfl, fun hb => ?_, fun hb => ?_⟩) | (refine ⟨_, rfl, ?_⟩))
local macro_rules
  | `(tactic| o_readsAll) => `(tactic| repeat o_reads)
variable {P : Program} {w : World} {K : PySem.W.Frag} {mg : Str → Option Value} {base : Heap} {a : Ad}

/-! ### one item of a list in another's place -/
def put {α : Type} (L : List α) (t : Nat) (x : α) : List α := L.take t ++ [x] ++ L.drop (t + 1)
theorem put_len {α : Type} {L : List α} {t : Nat} {x : α} (h : t < L.length) : (put L t x).length = L.length := by
  unfold put
  rw [List.length_append, List.length_append, List.length_take, List.length_drop]
  show min t L.length + 1 + _ = _
  omega
theorem put_get {α : Type} {L : List α} {t : Nat} {x : α} (h : t < L.length) : (put L t x)[t]? = some x := by
  unfold put
  have e : (L.take t).length = t := by rw [List.length_take]; omega
  rw [List.append_assoc, List.getElem?_append_right (by omega), e, Nat.sub_self]; rfl
theorem put_mem {α : Type} {L : List α} {t : Nat} {x y : α} (h : y ∈ put L t x) : y = x ∨ y ∈ L := by
  unfold put at h
  rcases List.mem_append.mp h with h | h
  · rcases List.mem_append.mp h with h | h
    · exact .inr (List.mem_of_mem_take h)
    · exact .inl (List.mem_singleton.mp h)
  · exact .inr (List.mem_of_mem_drop h)
theorem put_map {α β : Type} {L : List α} {t : Nat} {x : α} (f : α → β) : put (L.map f) t (f x) = (put L t x).map f := by
  unfold put
  rw [List.map_append, List.map_append, List.map_take, List.map_drop]; rfl
theorem put_cut {ds : List D} {t : Nat} {d : D} : (cut ds none (some (t : Int)) ++ [d]) ++ cut ds (some ((t : Int) + 1)) none = put ds t d := by
  unfold put
  rw [cutN, show ((t : Int) + 1) = ((t + 1 : Nat) : Int) by omega, cutFrom]
theorem prodT_ne {L : List VSt} (h : ∀ v ∈ L, VOk v ∧ v.2 ≠ []) : prodT L ≠ 0 := by
  induction L with
  | nil => decide
  | cons v L ih =>
    intro z
    rcases Int.mul_eq_zero.mp (show ((vals v.2).length : Int) * prodT L = 0 from z) with z | z
    · obtain ⟨vo, ne⟩ := h v List.mem_cons_self
      obtain ⟨q, ps, e⟩ := List.exists_cons_of_ne_nil ne
      have m : has v.2 q.1 = true := has_iff.mpr ⟨q, by rw [e]; exact List.mem_cons_self, by omega, (vo.ok.bd q (by rw [e]; exact List.mem_cons_self)).2.1⟩
      have := List.length_pos_of_mem (of_decide_eq_true ((has_vals v.2 q.1).symm.trans m))
      omega
    · exact ih (fun u hu => h u (List.mem_cons_of_mem _ hu)) z
theorem prodT_z {L : List VSt} {v : VSt} (h : v ∈ L) (e : v.2 = []) : prodT L = 0 := by
  induction L with
  | nil => cases h
  | cons u L ih =>
    show ((vals u.2).length : Int) * prodT L = 0
    rcases List.mem_cons.mp h with rfl | h
    · rw [e]; exact Int.zero_mul _
    · rw [ih h]; exact Int.mul_zero _
end
end TL
set_option Elab.async false
set_option linter.all false
set_option maxRecDepth 100000
namespace TL
open PySem PySem.Spec L2
section
local macro_rules
  | `(tactic| o_reads) => `(tactic| with_reducible first
    | refine s_seq ?_ | refine s_asg ?_ | refine s_ret ?_ | refine s_next ?_ | refine s_if ?_ | refine t_test ?_ | refine t_B ?_ | refine t_and ?_ | refine t_or ?_ | refine t_not ?_
    | refine e_op ?_ | refine e_int ?_ | refine e_bl ?_ | refine e_str ?_ | refine e_cb ?_ | refine a_cons ?_ | refine a_nil ?_ | refine p_I0i ?_ | refine p_I0b ?_ | refine c_int ?_
    | refine e_call ?_ | refine e_make ?_ | refine e_prop ?_ | refine e_un ?_ | refine p_Ui ?_ | refine e_non ?_ | refine p_eqI ?_ | refine p_neI ?_ | refine p_addI ?_ | refine e_raw ?_ | refine e_lst ?_ | refine e_tup ?_ | refine e_andV ?_ | refine e_orV ?_ | refine e_if ?_ | refine e_notV ?_ | refine e_sl ?_ | refine o_some ?_ | refine o_no ?_ | refine e_revL ?_ | (refine Or.inl ⟨_, LstOf.v, ?_⟩)
    | (refine e_var (r := ?vr) ?va ?vb; case va => with_unfolding_all exact rfl) | (refine e_varO (ds := ?vr) ?va ?vb; case va => with_unfolding_all exact rfl) | (refine e_varT (p := ?vr) ?va ?vb; case va => with_unfolding_all exact rfl)
    | (refine p_Ii ?pa ?pb; case pa => first | exact wide_mul (a := 64) (b := 64) (by first | decide | omega) (by first | decide | omega) (by decide) (by decide) (by decide) | exact pow_ok (n := 64) (by decide) (by decide) (by decide) (by decide) (by decide) | decide | omega)
    | (refine ⟨?vd, (?va : Vs _ _), ?vb, ?vc⟩; (case va => first | exact .nil | exact .cons .nil | exact .cons (.cons .nil) | exact .cons (.cons (.cons .nil)) | exact .cons (.cons (.cons (.cons .nil))) | exact .cons (.cons (.cons (.cons (.cons .nil)))) | exact .cons (.cons (.cons (.cons (.cons (.cons .nil))))) | exact .cons (.cons (.cons (.cons (.cons (.cons (.cons .nil)))))) | exact .cons (.cons (.cons (.cons (.cons (.cons (.cons (.cons .nil))))))) | exact .cons (.cons (.cons (.cons (.cons (.cons (.cons (.cons (.cons .nil)))))))) | exact .cons (.cons (.cons (.cons (.cons (.cons (.cons (.cons (.cons (.cons .nil))))))))) | exact .cons (.cons (.cons (.cons (.cons (.cons (.cons (.cons (.cons (.cons (.cons .nil)))))))))) | exact .cons (.cons (.cons (.cons (.cons (.cons (.cons (.cons (.cons (.cons (.cons (.cons .nil))))))))))) | exact .cons (.cons (.cons (.cons (.cons (.cons (.cons (.cons (.cons (.cons (.cons (.cons (.cons .nil)))))))))))) | exact .cons (.cons (.cons (.cons (.cons (.cons (.cons (.cons (.cons (.cons (.cons (.cons (.cons (.cons .nil))))))))))))) | exact .cons (.cons (.cons (.cons (.cons (.cons (.cons (.cons (.cons (.cons (.cons (.cons (.cons (.cons (.cons .nil)))))))))))))) | exact .cons (.cons (.cons (.cons (.cons (.cons (.cons (.cons (.cons (.cons (.cons (.cons (.cons (.cons (.cons (.cons .nil))))))))))))))) | exact .cons (.cons (.cons (.cons (.cons (.cons (.cons (.cons (.cons (.cons (.cons (.cons (.cons (.cons (.cons (.cons (.cons .nil)))))))))))))))) | exact .cons (.cons (.cons (.cons (.cons (.cons (.cons (.cons (.cons (.cons (.cons (.cons (.cons (.cons (.cons (.cons (.cons (.cons .nil)))))))))))))))))); (case vb => with_unfolding_all exact Nat.le_of_ble_eq_true rfl))
    | (refine ⟨_, rfl, fun _ => ?vx, ?no⟩; (case no => (intro z; with_unfolding_all cases z; done))) | (refine ⟨_, rfl, ?no, fun _ => ?vx⟩; (case no => (intro z; with_unfolding_all cases z; done))) | (refine ⟨?no, fun _ => ?vx⟩; (case no => (intro z; with_unfolding_all cases z; done))) | (refine ⟨fun _ => ?vx, ?no⟩; (case no => (intro z; with_unfolding_all cases z; done))) | (refine ⟨_, rfl, fun hb => ?_, fun hb => ?_⟩) | (refine ⟨_, rfl, ?_⟩))
local macro_rules
  | `(tactic| o_readsAll) => `(tactic| repeat o_reads)
variable {P : Program} {w : World} {K : PySem.W.Frag} {mg : Str → Option Value} {base : Heap} {a : Ad}

/-! ### k06: what is the same -/
theorem com_comm {n m : Int} {ps qs : List (Int × Int)} (h : OkR n ps) (h' : OkR m qs) : com ps qs = com qs ps :=
  okR_ext (com_ok h h') (com_ok h' h) fun v => by rw [com_has, com_has, Bool.and_comm]
theorem com_self {n : Int} {ps : List (Int × Int)} (h : OkR n ps) : com ps ps = ps :=
  okR_ext (com_ok h h) h fun v => by rw [com_has, Bool.and_self]
theorem zw_ext {L N L' N' : List VSt} (hl : L.length = N.length) (hl' : L'.length = N'.length) (h : L.length = L'.length) (e : ∀ (i : Nat) (u v u' v' : VSt), L[i]? = some u → N[i]? = some v → L'[i]? = some u' → N'[i]? = some v' → (u.1, com u.2 v.2) = (u'.1, com u'.2 v'.2)) : bothB L N = bothB L' N' := by
  refine List.ext_getElem? fun i => ?_
  by_cases hi : i < L.length
  · have h1 := List.getElem?_eq_getElem hi
    have h2 := List.getElem?_eq_getElem (show i < N.length by omega)
    have h3 := List.getElem?_eq_getElem (show i < L'.length by omega)
    have h4 := List.getElem?_eq_getElem (show i < N'.length by omega)
    rw [bothB_get h1 h2, bothB_get h3 h4, e i _ _ _ _ h1 h2 h3 h4]
  · have l1 : (bothB L N).length = min L.length N.length := List.length_zipWith
    have l2 : (bothB L' N').length = min L'.length N'.length := List.length_zipWith
    rw [List.getElem?_eq_none (by omega), List.getElem?_eq_none (by omega)]
theorem bothB_comm {L N : List VSt} (h : L.map (·.1) = N.map (·.1)) (hL : ∀ v ∈ L, VOk v) (hN : ∀ v ∈ N, VOk v) : bothB L N = bothB N L :=
  zw_ext (sizes_len h) (sizes_len h).symm (sizes_len h) fun i u v u' v' h1 h2 h3 h4 => by
    rw [h1] at h4
    rw [h2] at h3
    cases h3
    cases h4
    rw [sizes_at h h1 h2, com_comm (hL _ (List.mem_of_getElem? h1)).ok (hN _ (List.mem_of_getElem? h2)).ok]
theorem bothB_self {L : List VSt} (hL : ∀ v ∈ L, VOk v) : bothB L L = L := by
  refine List.ext_getElem? fun i => ?_
  cases hi : L[i]? with
  | none =>
    have l1 : (bothB L L).length = min L.length L.length := List.length_zipWith
    rw [List.getElem?_eq_none (by have := List.getElem?_eq_none_iff.mp hi; omega)]
  | some u => rw [bothB_get hi hi, com_self (hL u (List.mem_of_getElem? hi)).ok]
theorem few_self {L : List VSt} (hL : ∀ v ∈ L, VOk v) : Few (bothB L L) := by
  rw [bothB_self hL]
  exact fun v hv => (hL v hv).le
theorem toldB_comm {L N : List VSt} (h : L.map (·.1) = N.map (·.1)) (hL : ∀ v ∈ L, VOk v) (hN : ∀ v ∈ N, VOk v) : toldB N L = toldB L N := by
  unfold toldB
  rw [if_pos h, if_pos h.symm, bothB_comm h hL hN]
theorem keyAll : ∀ (ds : List D) (L N : List VSt), ds.length = L.length → L.length = N.length → ((ds.zip (bothB L N)).map fun p => inR p.2.2 (.v p.1)).all id = (((ds.zip L).map fun p => inR p.2.2 (.v p.1)).all id && ((ds.zip N).map fun p => inR p.2.2 (.v p.1)).all id)
  | [], [], [], _, _ => rfl
  | [], _ :: _, _, h, _ => by cases h
  | _ :: _, [], _, h, _ => by cases h
  | _, [], _ :: _, _, h => by cases h
  | _, _ :: _, [], _, h => by cases h
  | d :: ds, u :: L, v :: N, h1, h2 => by
    have ih := keyAll ds L N (Nat.succ.inj h1) (Nat.succ.inj h2)
    have e : inR (com u.2 v.2) (.v d) = (inR u.2 (.v d) && inR v.2 (.v d)) := by
      cases d <;> first | rfl | exact com_has _
    show (inR (com u.2 v.2) (.v d) && ((ds.zip (bothB L N)).map fun p => inR p.2.2 (.v p.1)).all id) = ((inR u.2 (.v d) && ((ds.zip L).map fun p => inR p.2.2 (.v p.1)).all id) && (inR v.2 (.v d) && ((ds.zip N).map fun p => inR p.2.2 (.v p.1)).all id))
    rw [ih, e]
    cases inR u.2 (.v d) <;> cases inR v.2 (.v d) <;> simp
theorem keyIn_both {L N : List VSt} (h : L.map (·.1) = N.map (·.1)) (ds : List D) : keyIn (bothB L N) (.v (.tup ds)) = (keyIn L (.v (.tup ds)) && keyIn N (.v (.tup ds))) := by
  have l := sizes_len h
  show (decide (ds.length = (bothB L N).length) && _) = ((decide (ds.length = L.length) && _) && (decide (ds.length = N.length) && _))
  rw [bothB_len h, ← l]
  by_cases z : ds.length = L.length
  · rw [decide_eq_true z, Bool.true_and, Bool.true_and, Bool.true_and, keyAll ds L N z l]
  · rw [decide_eq_false z]; rfl
def NotBox (K : PySem.W.Frag) (a : Ad) (y : Rs) : Prop := ∃ t, y.tyR = some t ∧ BinTy K a.C_Box .BitAnd t ∧ NotI K a.C_Box y
theorem notBox_of (T : Tx K mg a) {y : Rs} {n : String} (h : y.ty = some n) (ht : y.tyR = some (.type n)) (hn : n ∈ ["NoneType", "bool", "int", "str", "list", "tuple", "dict"]) : NotBox K a y :=
  ⟨_, ht, bty_builtin hn (.inl rfl), fun _ q => c_isiB ⟨T.cl_Box.hd, T.ty_Box⟩ h hn q⟩
theorem notBox_set (T : Tx K mg a) {v : VSt} : NotBox K a (.v (vD a v)) :=
  ⟨_, rfl, T.bt_Box_and_ValueSet, fun _ q => c_isiO T.it_ValueSet (.own _) T.kp_ValueSet_Box q⟩
def oddB (a : Ad) (L N : List VSt) (u : VSt) : List D := [.non, .int 0, .bl true, .str "", .tup [], .lst [], .emp, .lst (L.map (vD a)), vD a u, .lst [bxD a N]]
theorem odd_not (T : Tx K mg a) {L N : List VSt} {u : VSt} : ∀ d ∈ oddB a L N u, NotBox K a (.v d) := fun d hd => by
  simp only [oddB, List.mem_cons, List.not_mem_nil, or_false] at hd
  rcases hd with rfl | rfl | rfl | rfl | rfl | rfl | rfl | rfl | rfl | rfl
  · exact notBox_of T (n := "NoneType") rfl rfl (by decide)
  · exact notBox_of T (n := "int") rfl rfl (by decide)
  · exact notBox_of T (n := "bool") rfl rfl (by decide)
  · exact notBox_of T (n := "str") rfl rfl (by decide)
  · exact notBox_of T (n := "tuple") rfl rfl (by decide)
  · exact notBox_of T (n := "list") rfl rfl (by decide)
  · exact notBox_of T (n := "dict") rfl rfl (by decide)
  · exact notBox_of T (n := "list") rfl rfl (by decide)
  · exact notBox_set T
  · exact notBox_of T (n := "list") rfl rfl (by decide)
theorem pl_rows {n : Nat} (M : List VSt) : Pl (n + 3) (rowsD M) := .lst fun d hd => by
  obtain ⟨v, _, rfl⟩ := List.mem_map.mp hd
  exact .lst fun e he => by
    obtain ⟨p, _, rfl⟩ := List.mem_map.mp he
    refine .tup fun e he => ?_
    simp only [List.mem_cons, List.not_mem_nil, or_false] at he
    rcases he with rfl | rfl <;> exact .int
theorem pl_told (L N : List VSt) : Pl 4 (toldB L N) := by
  unfold toldB
  split
  · split
    · exact pl_rows _
    · exact .str
  · exact .str
end
end TL
set_option Elab.async false
set_option linter.all false
set_option maxRecDepth 100000
namespace TL
open PySem PySem.Spec L2
section
local macro_rules
  | `(tactic| o_reads) => `(tactic| with_reducible first
    | refine s_seq ?_ | refine s_asg ?_ | refine s_ret ?_ | refine s_next ?_ | refine s_if ?_ | refine t_test ?_ | refine t_B ?_ | refine t_and ?_ | refine t_or ?_ | refine t_not ?_
    | refine e_op ?_ | refine e_int ?_ | refine e_bl ?_ | refine e_str ?_ | refine e_cb ?_ | refine a_cons ?_ | refine a_nil ?_ | refine p_I0i ?_ | refine p_I0b ?_ | refine c_int ?_
    | refine e_call ?_ | refine e_make ?_ | refine e_prop ?_ | refine e_un ?_ | refine p_Ui ?_ | refine e_non ?_ | refine p_eqI ?_ | refine p_neI ?_ | refine p_addI ?_ | refine e_raw ?_ | refine e_lst ?_ | refine e_tup ?_ | refine e_andV ?_ | refine e_orV ?_ | refine e_if ?_ | refine e_notV ?_ | refine e_sl ?_ | refine o_some ?_ | refine o_no ?_ | refine e_revL ?_ | (refine Or.inl ⟨_, LstOf.v, ?_⟩)
    | (refine e_var (r := ?vr) ?va ?vb; case va => with_unfolding_all exact rfl) | (refine e_varO (ds := ?vr) ?va ?vb; case va => with_unfolding_all exact rfl) | (refine e_varT (p := ?vr) ?va ?vb; case va => with_unfolding_all exact rfl)
    | (refine p_Ii ?pa ?pb; case pa => first | exact wide_mul (a := 64) (b := 64) (by first | decide | omega) (by first | decide | omega) (by decide) (by decide) (by decide) | exact pow_ok (n := 64) (by decide) (by decide) (by decide) (by decide) (by decide) | decide | omega)
    | (refine ⟨?vd, (?va : Vs _ _), ?vb, ?vc⟩; (case va => first | exact .nil | exact .cons .nil | exact .cons (.cons .nil) | exact .cons (.cons (.cons .nil)) | exact .cons (.cons (.cons (.cons .nil))) | exact .cons (.cons (.cons (.cons (.cons .nil)))) | exact .cons (.cons (.cons (.cons (.cons (.cons .nil))))) | exact .cons (.cons (.cons (.cons (.cons (.cons (.cons .nil)))))) | exact .cons (.cons (.cons (.cons (.cons (.cons (.cons (.cons .nil))))))) | exact .cons (.cons (.cons (.cons (.cons (.cons (.cons (.cons (.cons .nil)))))))) | exact .cons (.cons (.cons (.cons (.cons (.cons (.cons (.cons (.cons (.cons .nil))))))))) | exact .cons (.cons (.cons (.cons (.cons (.cons (.cons (.cons (.cons (.cons (.cons .nil)))))))))) | exact .cons (.cons (.cons (.cons (.cons (.cons (.cons (.cons (.cons (.cons (.cons (.cons .nil))))))))))) | exact .cons (.cons (.cons (.cons (.cons (.cons (.cons (.cons (.cons (.cons (.cons (.cons (.cons .nil)))))))))))) | exact .cons (.cons (.cons (.cons (.cons (.cons (.cons (.cons (.cons (.cons (.cons (.cons (.cons (.cons .nil))))))))))))) | exact .cons (.cons (.cons (.cons (.cons (.cons (.cons (.cons (.cons (.cons (.cons (.cons (.cons (.cons (.cons .nil)))))))))))))) | exact .cons (.cons (.cons (.cons (.cons (.cons (.cons (.cons (.cons (.cons (.cons (.cons (.cons (.cons (.cons (.cons .nil))))))))))))))) | exact .cons (.cons (.cons (.cons (.cons (.cons (.cons (.cons (.cons (.cons (.cons (.cons (.cons (.cons (.cons (.cons (.cons .nil)))))))))))))))) | exact .cons (.cons (.cons (.cons (.cons (.cons (.cons (.cons (.cons (.cons (.cons (.cons (.cons (.cons (.cons (.cons (.cons (.cons .nil)))))))))))))))))); (case vb => with_unfolding_all exact Nat.le_of_ble_eq_true rfl))
    | (refine ⟨_, rfl, fun _ => ?vx, ?no⟩; (case no => (intro z; with_unfolding_all cases z; done))) | (refine ⟨_, rfl, ?no, fun _ => ?vx⟩; (case no => (intro z; with_unfolding_all cases z; done))) | (refine ⟨?no, fun _ => ?vx⟩; (case no => (intro z; with_unfolding_all cases z; done))) | (refine ⟨fun _ => ?vx, ?no⟩; (case no => (intro z; with_unfolding_all cases z; done))) | (refine ⟨_, rfl, fun hb => ?_, fun hb => ?_⟩) | (refine ⟨_, rfl, ?_⟩))
local macro_rules
  | `(tactic| o_readsAll) => `(tactic| repeat o_reads)
variable {P : Program} {w : World} {K : PySem.W.Frag} {mg : Str → Option Value} {base : Heap} {a : Ad}

/-! ### k06: a drawn pair of boxes -/
def k06_rightC (K : PySem.W.Frag) (a : Ad) : Ct Nat := fun W g rs k _ => ∃ (p : Addr) (m : Nat), rs = [.v (.raw (.ref p)), .v (.int m)] ∧ Up W ∧ Tp W p ∧ 1 ≤ m ∧ m ≤ 8 ∧ g + 5000 < 2 ^ 60 ∧ k (.bl true) (g + 3000)
theorem map_at {α : Type} {f : α → D} {L : List α} {i : Nat} {d : D} (h : (L.map f)[i]? = some d) : ∃ v, L[i]? = some v ∧ d = f v := by
  rw [List.getElem?_map] at h
  cases q : L[i]? with
  | none => rw [q] at h; cases h
  | some v => rw [q] at h; cases h; exact ⟨v, rfl, rfl⟩
set_option maxHeartbeats 4000000 in
theorem ok_law_right (T : Tx K mg a) : FnOk P w K mg base CX0 10 a.f__law_right a.d__law_right ["tape", "many"] (mkSp (k06_rightC K a)) := by
  have G_BoxU_andU : FnOk P w K mg base (L2N.CX P w) 8 a.f_BoxU_andU a.d_BoxU_andU ["self", "other"] (mkSp (box_andC K a)) := ok_box_and T
  have G_BoxU_containsU : FnOk P w K mg base CX0 3 a.f_BoxU_containsU a.d_BoxU_containsU ["self", "key"] (mkSp (box_containsC K a)) := ok_box_contains T
  have G_BoxU_eqU : FnOk P w K mg base CX0 3 a.f_BoxU_eqU a.d_BoxU_eqU ["self", "other"] (mkSp (box_eqC a)) := ok_box_eq T
  have G_BoxU_initU : FnOk P w K mg base (L2N.CX P w) 2 a.f_BoxU_initU a.d_BoxU_initU ["self", "sets"] (inSp a.C_Box (box_initC K a)) := ok_box_init T
  have G_Box_sets : FnOk P w K mg base CX0 1 a.f_Box_sets a.d_Box_sets ["self"] (mkSpN (box_setsC a)) := ok_box_sets T
  have G_Box_sizes : FnOk P w K mg base CX0 3 a.f_Box_sizes a.d_Box_sizes ["self"] (mkSpN (box_sizesC a)) := ok_box_sizes T
  have G_ValueSetU_initU : FnOk P w K mg base (L2N.CX P w) 4 a.f_ValueSetU_initU a.d_ValueSetU_initU ["self", "size", "stretches"] (inSp a.C_ValueSet (initC (K := K) a)) := ok_init T
  have G_ValueSet_stretches : FnOk P w K mg base CX0 1 a.f_ValueSet_stretches a.d_ValueSet_stretches ["self"] (mkSpN (stretchesC a)) := ok_stretches T
  have G__law_common : FnOk P w K mg base CX0 1 a.f__law_common a.d__law_common ["ones", "others"] (mkSp law_commonC) := ok_law_common T
  have G__law_filled : FnOk P w K mg base CX0 3 a.f__law_filled a.d__law_filled ["tape", "size"] (mkSp filledC) := ok_law_filled T
  have G__law_next : FnOk P w K mg base CX0 1 a.f__law_next a.d__law_next ["tape", "many"] (mkSp nextC) := ok_law_next T
  have G__law_size : FnOk P w K mg base CX0 2 a.f__law_size a.d__law_size ["tape"] (mkSp law_sizeC) := ok_law_size T
  have G__law_told : FnOk P w K mg base CX0 9 a.f__law_told a.d__law_told ["one", "thing"] (mkSp (law_btoldC K a)) := ok_law_told T
  refine Fun_t T.F__law_right sc__law_right (fun W g rs k x ⟨p, m, e, _⟩ => by rw [e]; rfl) fun cdv A outer s H E W g rs kd x hr ⟨p, m, e, hu, ht, m1, m8, hg, k⟩ => ?_
  subst e
  refine ⟨_, (pss_cons (ps_setLc (i := 3) (own := [("turn", 2)]) rfl sc__law_right.nd rfl rfl (sw_true rfl rfl rfl (by decide +kernel)) (pi_range1 rfl T.n_range (pa_cons (pv 1) pa_nil)) (blkOk_by (N := ["tape", "many", "turn", "sizes_here", "size", "ones", "rows", "others", "one", "two", "more", "due", "both", "picked", "first", "last", "thing", "at", "wide", "told", "stay", "row"]) (sc := defScope s__law_right) (by decide +kernel)) (fun _ _ _ _ _ => (pg_name (i := 2) (x := "turn") sc__law_right.nd rfl (Or.inl rfl))) (fun _ _ _ _ _ => pts_nil) (fun _ _ _ _ _ => (pe_call G__law_size (hr.mono (by decide)) rfl T.g__law_size T.F__law_size.kp T.b__law_size .nil pass0 (pa_cons (pv 0) pa_nil))))
      (pss_cons (ps_setLc (i := 5) (own := [("size", 4)]) rfl sc__law_right.nd rfl rfl (sw_true rfl rfl rfl (by decide +kernel)) (pi_listK (K := K) rfl (pv 3)) (blkOk_by (N := ["tape", "many", "turn", "sizes_here", "size", "ones", "rows", "others", "one", "two", "more", "due", "both", "picked", "first", "last", "thing", "at", "wide", "told", "stay", "row"]) (sc := defScope s__law_right) (by decide +kernel)) (fun _ _ _ _ _ => (pg_name (i := 4) (x := "size") sc__law_right.nd rfl (Or.inl rfl))) (fun _ _ _ _ _ => pts_nil) (fun _ _ _ _ _ => (pe_call G__law_filled (hr.mono (by decide)) rfl T.g__law_filled T.F__law_filled.kp T.b__law_filled .nil pass0 (pa_cons (pv 0) (pa_cons (pv 4) pa_nil)))))
      (pss_cons (ps_setLc (i := 7) (own := [("size", 4), ("rows", 6)]) rfl sc__law_right.nd rfl rfl (sw_true rfl rfl rfl (by decide +kernel)) (pi_zip rfl T.n_zip (pa_cons (pv 3) (pa_cons (pv 5) pa_nil))) (blkOk_by (N := ["tape", "many", "turn", "sizes_here", "size", "ones", "rows", "others", "one", "two", "more", "due", "both", "picked", "first", "last", "thing", "at", "wide", "told", "stay", "row"]) (sc := defScope s__law_right) (by decide +kernel)) (fun _ _ _ _ _ => (pg_tupK (K := K) (n := 2) rfl rfl (pgs_cons (pg_name (i := 4) (x := "size") sc__law_right.nd rfl (Or.inl rfl)) (pgs_cons (pg_name (i := 6) (x := "rows") sc__law_right.nd rfl (Or.inl rfl)) pgs_nil)))) (fun _ _ _ _ _ => pts_nil) (fun _ _ _ _ _ => (pe_ifExp (pt_cmpR (op_eqK (K := K) rfl (hu64 hr)) (pe_call G__law_next (hr.mono (by decide)) rfl T.g__law_next T.F__law_next.kp T.b__law_next .nil pass0 (pa_cons (pv 0) (pa_cons pe_int pa_nil))) pe_int (nomark _)) (pv 6) (pe_call G__law_filled (hr.mono (by decide)) rfl T.g__law_filled T.F__law_filled.kp T.b__law_filled .nil pass0 (pa_cons (pv 0) (pa_cons (pv 4) pa_nil))))))
      (pss_cons (ps_set (i := 8) sc__law_right.nd rfl (Or.inl rfl) (pe_make T.m_Box G_BoxU_initU (hr.mono (by decide)) rfl T.g_Box T.b_BoxU_initU .nil passFN (pa_cons (pe_lc (own := [("size", 4), ("rows", 6)]) rfl sc__law_right.nd  (pi_zip rfl T.n_zip (pa_cons (pv 3) (pa_cons (pv 5) pa_nil))) (blkOk_by (N := ["tape", "many", "turn", "sizes_here", "size", "ones", "rows", "others", "one", "two", "more", "due", "both", "picked", "first", "last", "thing", "at", "wide", "told", "stay", "row"]) (sc := defScope s__law_right) (by decide +kernel)) (fun _ _ _ _ _ => (pg_tupK (K := K) (n := 2) rfl rfl (pgs_cons (pg_name (i := 4) (x := "size") sc__law_right.nd rfl (Or.inl rfl)) (pgs_cons (pg_name (i := 6) (x := "rows") sc__law_right.nd rfl (Or.inl rfl)) pgs_nil)))) (fun _ _ _ _ _ => pts_nil) (fun _ _ _ _ _ => (pe_make T.m_ValueSet G_ValueSetU_initU (hr.mono (by decide)) rfl T.g_ValueSet T.b_ValueSetU_initU .nil passFN (pa_cons (pv 4) (pa_cons (pv 6) pa_nil))))) pa_nil)))
      (pss_cons (ps_set (i := 9) sc__law_right.nd rfl (Or.inl rfl) (pe_make T.m_Box G_BoxU_initU (hr.mono (by decide)) rfl T.g_Box T.b_BoxU_initU .nil passFN (pa_cons (pe_lc (own := [("size", 4), ("rows", 6)]) rfl sc__law_right.nd  (pi_zip rfl T.n_zip (pa_cons (pv 3) (pa_cons (pv 7) pa_nil))) (blkOk_by (N := ["tape", "many", "turn", "sizes_here", "size", "ones", "rows", "others", "one", "two", "more", "due", "both", "picked", "first", "last", "thing", "at", "wide", "told", "stay", "row"]) (sc := defScope s__law_right) (by decide +kernel)) (fun _ _ _ _ _ => (pg_tupK (K := K) (n := 2) rfl rfl (pgs_cons (pg_name (i := 4) (x := "size") sc__law_right.nd rfl (Or.inl rfl)) (pgs_cons (pg_name (i := 6) (x := "rows") sc__law_right.nd rfl (Or.inl rfl)) pgs_nil)))) (fun _ _ _ _ _ => pts_nil) (fun _ _ _ _ _ => (pe_make T.m_ValueSet G_ValueSetU_initU (hr.mono (by decide)) rfl T.g_ValueSet T.b_ValueSetU_initU .nil passFN (pa_cons (pv 4) (pa_cons (pv 6) pa_nil))))) pa_nil)))
      (pss_cons (ps_setLc (i := 11) (own := [("rows", 6), ("more", 10)]) rfl sc__law_right.nd rfl rfl (sw_true rfl rfl rfl (by decide +kernel)) (pi_zip rfl T.n_zip (pa_cons (pv 5) (pa_cons (pv 7) pa_nil))) (blkOk_by (N := ["tape", "many", "turn", "sizes_here", "size", "ones", "rows", "others", "one", "two", "more", "due", "both", "picked", "first", "last", "thing", "at", "wide", "told", "stay", "row"]) (sc := defScope s__law_right) (by decide +kernel)) (fun _ _ _ _ _ => (pg_tupK (K := K) (n := 2) rfl rfl (pgs_cons (pg_name (i := 6) (x := "rows") sc__law_right.nd rfl (Or.inl rfl)) (pgs_cons (pg_name (i := 10) (x := "more") sc__law_right.nd rfl (Or.inl rfl)) pgs_nil)))) (fun _ _ _ _ _ => pts_nil) (fun _ _ _ _ _ => (pe_call G__law_common (hr.mono (by decide)) rfl T.g__law_common T.F__law_common.kp T.b__law_common .nil pass0 (pa_cons (pv 6) (pa_cons (pv 10) pa_nil)))))
      (pss_cons (ps_set (i := 11) sc__law_right.nd rfl (Or.inl rfl) (pe_ifExp (pt_cmpR op_gt (pe_callB (cr_maxK (K := K) rfl rfl) rfl T.n_max (by decide +kernel) (pa_cons (pe_lc (own := [("row", 21)]) rfl sc__law_right.nd  (pi_listK (K := K) rfl (pv 11)) (blkOk_by (N := ["tape", "many", "turn", "sizes_here", "size", "ones", "rows", "others", "one", "two", "more", "due", "both", "picked", "first", "last", "thing", "at", "wide", "told", "stay", "row"]) (sc := defScope s__law_right) (by decide +kernel)) (fun _ _ _ _ _ => (pg_name (i := 21) (x := "row") sc__law_right.nd rfl (Or.inl rfl))) (fun _ _ _ _ _ => pts_nil) (fun _ _ _ _ _ => (pe_callB (cr_lenK (K := K) rfl) rfl T.n_len (by decide +kernel) (pa_cons (pv 21) pa_nil)))) pa_nil)) pe_int (nomark _)) pe_str (pv 11)))
      (pss_cons (ps_if (PW.pt (pw_or (pt_cmpR (op_neK (K := K) rfl (hu64 hr)) (pe_lst (pa_cons (pe_call G__law_told (hr.mono (by decide)) rfl T.g__law_told T.F__law_told.kp T.b__law_told .nil pass0 (pa_cons (pv 8) (pa_cons (pv 9) pa_nil))) (pa_cons (pe_call G__law_told (hr.mono (by decide)) rfl T.g__law_told T.F__law_told.kp T.b__law_told .nil pass0 (pa_cons (pv 9) (pa_cons (pv 8) pa_nil))) pa_nil))) (pe_lst (pa_cons (pv 11) (pa_cons (pv 11) pa_nil))) (nomark _)) (pw_or1 (pt_cmpR (op_neOwn T.o_BoxU_eqU T.z_Box G_BoxU_eqU T.b_BoxU_eqU (hr.mono (by decide)) pass0) (pe_binS T.u_BoxU_andU G_BoxU_andU T.b_BoxU_andU (hr.mono (by decide)) (passC passFN) (pv 8) (pv 8)) (pv 8) (nomark _))))) (pss_one (ps_ret pe_bl)) pss_nil)
      (pss_cons (ps_set (i := 12) sc__law_right.nd rfl (Or.inl rfl) (pe_ifExp (pt_cmpR (op_eqK (K := K) rfl (hu64 hr)) (pv 11) pe_str (nomark _)) (pv 8) (pe_binS T.u_BoxU_andU G_BoxU_andU T.b_BoxU_andU (hr.mono (by decide)) (passC passFN) (pv 8) (pv 9))))
      (pss_cons (ps_if (pt_cmpR (op_neK (K := K) rfl (hu64 hr)) (pe_prop (pv 12) T.cl_Box T.p_Box_sizes G_Box_sizes (hr.mono (by decide)) T.b_Box_sizes .nil pass0 rfl) (pv 3) (nomark _)) (pss_one (ps_ret pe_bl)) pss_nil)
      (pss_cons (ps_for PassesOwn.never rfl (pi_range1 rfl T.n_range (pa_cons (pe_op op_mulW pe_int (pe_callTy cr_int rfl T.n_int PyProof.Rows.boot_int (pa_cons (pe_cmpR (op_neK (K := K) rfl (hu64 hr)) (pv 11) pe_str (nomark _)) pa_nil))) pa_nil)) (pg_name (i := 2) (x := "turn") sc__law_right.nd rfl (Or.inl rfl)) (pss_cons (ps_set (i := 13) sc__law_right.nd rfl (Or.inl rfl) (pe_lst pa_nil))
      (pss_cons (ps_for PassesOwn.never rfl (pi_zip3 rfl rfl T.n_zip (pa_cons (pv 3) (pa_cons (pv 5) (pa_cons (pv 7) pa_nil)))) (pg_tupK (K := K) (n := 3) rfl rfl (pgs_cons (pg_name (i := 4) (x := "size") sc__law_right.nd rfl (Or.inl rfl)) (pgs_cons (pg_name (i := 6) (x := "rows") sc__law_right.nd rfl (Or.inl rfl)) (pgs_cons (pg_name (i := 10) (x := "more") sc__law_right.nd rfl (Or.inl rfl)) pgs_nil)))) (pss_cons (ps_asg (pe_ix (ix_seqK (K := K) rfl) (pe_op (op_plusK (K := K) rfl) (pv 6) (pv 10)) (pe_call G__law_next (hr.mono (by decide)) rfl T.g__law_next T.F__law_next.kp T.b__law_next .nil pass0 (pa_cons (pv 0) (pa_cons (pe_callB (cr_lenK (K := K) rfl) rfl T.n_len (by decide +kernel) (pa_cons (pe_op (op_plusK (K := K) rfl) (pv 6) (pv 10)) pa_nil)) pa_nil))) (fun _ _ => rfl)) (pg_tupK (K := K) (n := 2) rfl rfl (pgs_cons (pg_name (i := 14) (x := "first") sc__law_right.nd rfl (Or.inl rfl)) (pgs_cons (pg_name (i := 15) (x := "last") sc__law_right.nd rfl (Or.inl rfl)) pgs_nil))))
      (pss_one (ps_expr (pe_bm PySem.F.plainAttrs_list PySem.F.slot_list_append PySem.F.type_list_append mt_append (pv 13) (pa_cons (pe_ix (ix_seqK (K := K) rfl) (pe_lst (pa_cons (pv 14) (pa_cons (pv 15) (pa_cons (pe_call G__law_next (hr.mono (by decide)) rfl T.g__law_next T.F__law_next.kp T.b__law_next .nil pass0 (pa_cons (pv 0) (pa_cons (pv 4) pa_nil))) pa_nil)))) (pe_call G__law_next (hr.mono (by decide)) rfl T.g__law_next T.F__law_next.kp T.b__law_next .nil pass0 (pa_cons (pv 0) (pa_cons pe_int pa_nil))) (fun _ _ => rfl)) pa_nil))))))
      (pss_one (ps_if (pt_cmpR (op_neK (K := K) rfl (hu64 hr)) (pe_cmpR (op_inOwn T.o_BoxU_containsU G_BoxU_containsU T.b_BoxU_containsU (hr.mono (by decide)) pass0) (pe_callTy (cr_tupleK (K := K) rfl) rfl T.n_tuple (by decide +kernel) (pa_cons (pv 13) pa_nil)) (pv 12) rfl) (pe_and (pe_cmpR (op_inOwn T.o_BoxU_containsU G_BoxU_containsU T.b_BoxU_containsU (hr.mono (by decide)) pass0) (pe_callTy (cr_tupleK (K := K) rfl) rfl T.n_tuple (by decide +kernel) (pa_cons (pv 13) pa_nil)) (pv 8) rfl) (pe_one (pe_cmpR (op_inOwn T.o_BoxU_containsU G_BoxU_containsU T.b_BoxU_containsU (hr.mono (by decide)) pass0) (pe_callTy (cr_tupleK (K := K) rfl) rfl T.n_tuple (by decide +kernel) (pa_cons (pv 13) pa_nil)) (pv 9) rfl))) (nomark _)) (pss_one (ps_ret pe_bl)) pss_nil)))))
      (pss_cons (ps_for PassesOwn.never rfl (pi_listK (K := K) rfl (pe_lst (pa_cons pe_non (pa_cons pe_int (pa_cons pe_bl (pa_cons pe_str (pa_cons (pe_tup pa_nil) (pa_cons (pe_lst pa_nil) (pa_cons pe_dnewK (pa_cons (pe_prop (pv 8) T.cl_Box T.p_Box_sets G_Box_sets (hr.mono (by decide)) T.b_Box_sets .nil pass0 rfl) (pa_cons (pe_ix (ix_seqK (K := K) rfl) (pe_prop (pv 8) T.cl_Box T.p_Box_sets G_Box_sets (hr.mono (by decide)) T.b_Box_sets .nil pass0 rfl) pe_int (fun _ _ => rfl)) (pa_cons (pe_lst (pa_cons (pv 9) pa_nil)) pa_nil)))))))))))) (pg_name (i := 16) (x := "thing") sc__law_right.nd rfl (Or.inl rfl)) (pss_one (ps_if (pt_cmpR (op_neK (K := K) rfl (hu64 hr)) (pe_call G__law_told (hr.mono (by decide)) rfl T.g__law_told T.F__law_told.kp T.b__law_told .nil pass0 (pa_cons (pv 8) (pa_cons (pv 16) pa_nil))) pe_str (nomark _)) (pss_one (ps_ret pe_bl)) pss_nil)))
      (pss_cons (ps_set (i := 17) sc__law_right.nd rfl (Or.inl rfl) (pe_call G__law_next (hr.mono (by decide)) rfl T.g__law_next T.F__law_next.kp T.b__law_next .nil pass0 (pa_cons (pv 0) (pa_cons (pv 1) pa_nil))))
      (pss_cons (ps_set (i := 18) sc__law_right.nd rfl (Or.inl rfl) (pe_op (op_plusK (K := K) rfl) (pe_op (op_plusK (K := K) rfl) (pe_slice (sl_anyK (K := K) rfl) (pe_prop (pv 9) T.cl_Box T.p_Box_sets G_Box_sets (hr.mono (by decide)) T.b_Box_sets .nil pass0 rfl) po_none (po_some (pv 17))) (pe_lst (pa_cons (pe_make T.m_ValueSet G_ValueSetU_initU (hr.mono (by decide)) rfl T.g_ValueSet T.b_ValueSetU_initU .nil passFN (pa_cons (pe_op op_add pe_int (pe_callTy cr_int rfl T.n_int PyProof.Rows.boot_int (pa_cons (pe_cmpR (op_eqK (K := K) rfl (hu64 hr)) (pe_ix (ix_seqK (K := K) rfl) (pv 3) (pv 17) (fun _ _ => rfl)) pe_int (nomark _)) pa_nil))) (pa_cons (pe_lst (pa_cons (pe_tup (pa_cons pe_int (pa_cons pe_int pa_nil))) pa_nil)) pa_nil))) pa_nil))) (pe_slice (sl_anyK (K := K) rfl) (pe_prop (pv 9) T.cl_Box T.p_Box_sets G_Box_sets (hr.mono (by decide)) T.b_Box_sets .nil pass0 rfl) (po_some (pe_op op_add (pv 17) pe_int)) po_none)))
      (pss_cons (ps_set (i := 19) sc__law_right.nd rfl (Or.inl rfl) (pe_lst (pa_cons (pe_call G__law_told (hr.mono (by decide)) rfl T.g__law_told T.F__law_told.kp T.b__law_told .nil pass0 (pa_cons (pv 8) (pa_cons (pe_make T.m_Box G_BoxU_initU (hr.mono (by decide)) rfl T.g_Box T.b_BoxU_initU .nil passFN (pa_cons (pv 18) pa_nil)) pa_nil))) (pa_cons (pe_ifExp (pt_cmpR op_lt (pv 1) pe_int (nomark _)) (pe_call G__law_told (hr.mono (by decide)) rfl T.g__law_told T.F__law_told.kp T.b__law_told .nil pass0 (pa_cons (pv 8) (pa_cons (pe_make T.m_Box G_BoxU_initU (hr.mono (by decide)) rfl T.g_Box T.b_BoxU_initU .nil passFN (pa_cons (pe_op (op_plusK (K := K) rfl) (pe_prop (pv 9) T.cl_Box T.p_Box_sets G_Box_sets (hr.mono (by decide)) T.b_Box_sets .nil pass0 rfl) (pe_prop (pv 9) T.cl_Box T.p_Box_sets G_Box_sets (hr.mono (by decide)) T.b_Box_sets .nil pass0 rfl)) pa_nil)) pa_nil))) pe_str) pa_nil))))
      (pss_cons (ps_set (i := 20) sc__law_right.nd rfl (Or.inl rfl) (pe_lst (pa_cons (pe_lc (own := [("row", 21)]) rfl sc__law_right.nd  (pi_listK (K := K) rfl (pe_prop (pv 8) T.cl_Box T.p_Box_sets G_Box_sets (hr.mono (by decide)) T.b_Box_sets .nil pass0 rfl)) (blkOk_by (N := ["tape", "many", "turn", "sizes_here", "size", "ones", "rows", "others", "one", "two", "more", "due", "both", "picked", "first", "last", "thing", "at", "wide", "told", "stay", "row"]) (sc := defScope s__law_right) (by decide +kernel)) (fun _ _ _ _ _ => (pg_name (i := 21) (x := "row") sc__law_right.nd rfl (Or.inl rfl))) (fun _ _ _ _ _ => pts_nil) (fun _ _ _ _ _ => (pe_prop (pv 21) T.cl_ValueSet T.p_ValueSet_stretches G_ValueSet_stretches (hr.mono (by decide)) T.b_ValueSet_stretches .nil pass0 rfl))) (pa_cons (pe_lc (own := [("row", 21)]) rfl sc__law_right.nd  (pi_listK (K := K) rfl (pe_prop (pv 9) T.cl_Box T.p_Box_sets G_Box_sets (hr.mono (by decide)) T.b_Box_sets .nil pass0 rfl)) (blkOk_by (N := ["tape", "many", "turn", "sizes_here", "size", "ones", "rows", "others", "one", "two", "more", "due", "both", "picked", "first", "last", "thing", "at", "wide", "told", "stay", "row"]) (sc := defScope s__law_right) (by decide +kernel)) (fun _ _ _ _ _ => (pg_name (i := 21) (x := "row") sc__law_right.nd rfl (Or.inl rfl))) (fun _ _ _ _ _ => pts_nil) (fun _ _ _ _ _ => (pe_prop (pv 21) T.cl_ValueSet T.p_ValueSet_stretches G_ValueSet_stretches (hr.mono (by decide)) T.b_ValueSet_stretches .nil pass0 rfl))) pa_nil))))
      (pss_one (ps_ret (pe_and (pe_cmpR (op_eqK (K := K) rfl (hu64 hr)) (pv 19) (pe_lst (pa_cons pe_str (pa_cons pe_str pa_nil))) (nomark _)) (pe_one (pe_cmpR (op_eqK (K := K) rfl (hu64 hr)) (pv 20) (pe_lst (pa_cons (pv 5) (pa_cons (pv 7) pa_nil))) (nomark _)))))))))))))))))))))), ?_⟩
  have big : (10 : Int) ^ 30 = 1000000000000000000000000000000 := by decide
  have two200 : (2 : Int) ^ 200 = 1606938044258990275541962092341162602522202993782792835301376 := by decide
  -- sizes
  refine s_seq (s_asg (e_new (n_lc (i_rng1 (a_cons (e_var rfl (a_nil ⟨_, rfl, by omega, by omega, by rw [irs_len]; omega, fun i acc g' => g' = g + 3 * i ∧ ∃ ns : List Int, acc = ns.map D.int ∧ ns.length = i ∧ ∀ n ∈ ns, 1 ≤ n ∧ n ≤ 10 ^ 30, ⟨rfl, [], rfl, rfl, fun _ z => nomatch z⟩, ?_, ?_⟩)))))))
  · rintro i d acc g' hi ⟨rfl, ns, rfl, hl, hb⟩
    obtain ⟨hin, rfl⟩ := irs_get hi
    refine ⟨_, gt_name, t_yes ⟨fun _ => ?_, fun z => nomatch z⟩⟩
    o_readsAll
    refine fun W' I => ⟨p, rfl, I.sub.up hu, I.sub.tp ht, by omega, fun n n1 n30 => ⟨_, rfl, by omega, ns ++ [n], by rw [List.map_append]; rfl, by rw [List.length_append, hl]; rfl, fun u hu => ?_⟩⟩
    rcases List.mem_append.mp hu with h | h
    · exact hb u h
    · rw [List.mem_singleton.mp h]; exact ⟨n1, n30⟩
  rintro acc g' ⟨rfl, ns, rfl, hl, hb⟩
  rw [irs_len] at hl ⊢
  have hm : (((m : Nat) : Int)).toNat = m := by omega
  rw [hm] at hl ⊢
  refine ⟨_, rfl, ?_⟩
  show wpS W H (g + 3 * m) [.v (.raw (.ref p)), .v (.int m), .un, .v (.lst (ns.map D.int)), .un, .un, .un, .un, .un, .un, .un, .un, .un, .un, .un, .un, .un, .un, .un, .un, .un, .un] _ _
  -- ones
  refine s_seq (s_asg (e_new (n_lc (i_list (e_var rfl ⟨_, rfl, by rw [List.length_map]; omega, fun i acc g' => g' ≤ g + 3 * m + 102 * i ∧ ∃ L : List VSt, acc = L.map rowD ∧ L.map (·.1) = ns.take i ∧ ∀ v ∈ L, VOk v ∧ v.2 ≠ [], ⟨by omega, [], rfl, rfl, fun _ z => nomatch z⟩, ?_, ?_⟩)))))
  · rintro i d acc g' hi ⟨hg', L, rfl, hL, hv⟩
    obtain ⟨n, hin, rfl⟩ := map_at hi
    have hil := (List.getElem?_eq_some_iff.mp hin).1
    obtain ⟨n1, n30⟩ := hb n (List.mem_of_getElem? hin)
    refine ⟨_, gt_name, t_yes ⟨fun _ => ?_, fun z => nomatch z⟩⟩
    refine e_call (a_cons (e_var rfl (a_cons (e_var rfl (a_nil fun W' I => ⟨p, n, rfl, I.sub.up hu, I.sub.tp ht, n1, n30, by omega, fun ps ho hl hne => ⟨_, rfl, by omega, L ++ [(n, ps)], by rw [List.map_append]; rfl, by rw [List.map_append, hL, TL.take_next hin]; rfl, fun u hu => ?_⟩⟩)))))
    rcases List.mem_append.mp hu with h | h
    · exact hv u h
    · rw [List.mem_singleton.mp h]; exact ⟨⟨n1, n30, ho, hl⟩, hne⟩
  rintro acc g1 ⟨hg1, L, rfl, hL, hv⟩
  rw [List.length_map, hl] at hg1
  rw [List.length_map, List.take_length] at hL
  refine ⟨_, rfl, ?_⟩
  subst hL
  rw [List.length_map] at hl
  have vo : ∀ v ∈ L, VOk v := fun v h => (hv v h).1
  have L8 : L.length ≤ 8 := by omega
  have L1 : 1 ≤ L.length := by omega
  show wpS W H g1 [.v (.raw (.ref p)), .v (.int m), .un, .v (.lst ((L.map (·.1)).map D.int)), .un, .v (.lst (L.map rowD)), .un, .un, .un, .un, .un, .un, .un, .un, .un, .un, .un, .un, .un, .un, .un, .un] _ _
  have hP : ∀ M : List VSt, L.map (·.1) = M.map (·.1) → pairs ((L.map (·.1)).map D.int) (M.map rowD) = M.map fun v => .tup [.int v.1, rowD v] := fun M e => by rw [e, List.map_map, pairs_map]; rfl
  -- others
  refine s_seq (s_asg (e_new (n_lc (i_zip (a_cons (e_var rfl (a_cons (e_var rfl (a_nil ⟨_, _, rfl, ?_⟩)))))))))
  rw [hP L rfl]
  refine ⟨by rw [List.length_map]; omega, fun i acc g' => g' ≤ g1 + 102 * i ∧ ∃ N : List VSt, acc = N.map rowD ∧ N.map (·.1) = (L.take i).map (·.1) ∧ ∀ v ∈ N, VOk v ∧ v.2 ≠ [], ⟨by omega, [], rfl, rfl, fun _ z => nomatch z⟩, ?_, ?_⟩
  · rintro i d acc g' hi ⟨hg', N, rfl, hN, hn⟩
    obtain ⟨v, hiv, rfl⟩ := map_at hi
    have hil := (List.getElem?_eq_some_iff.mp hiv).1
    have hvv := hv v (List.mem_of_getElem? hiv)
    have add : ∀ ps : List (Int × Int), OkR v.1 ps → ps.length ≤ 12 → ps ≠ [] → ∀ g2, g2 ≤ g' + 102 → g2 ≤ g1 + 102 * (i + 1) ∧ ∃ N' : List VSt, N.map rowD ++ [.lst (prs ps)] = N'.map rowD ∧ N'.map (·.1) = (L.take (i + 1)).map (·.1) ∧ ∀ v ∈ N', VOk v ∧ v.2 ≠ [] := fun ps ho hl hne g2 h2 => by
      refine ⟨by omega, N ++ [(v.1, ps)], by rw [List.map_append]; rfl, by rw [List.map_append, hN, TL.take_next hiv, List.map_append]; rfl, fun u hu => ?_⟩
      rcases List.mem_append.mp hu with h | h
      · exact hn u h
      · rw [List.mem_singleton.mp h]; exact ⟨⟨hvv.1.lo, hvv.1.hi, ho, hl⟩, hne⟩
    refine ⟨_, gt_tup2 (by decide), t_yes ⟨fun _ => ?_, fun z => nomatch z⟩⟩
    refine e_if (t_test (e_op (e_call (a_cons (e_var rfl (a_cons (e_int (a_nil fun W' I => nx_p I hu ht (by decide) (by decide) (by omega) fun r r0 r1 => e_int (p_eqI ⟨_, rfl, fun b => ?_, fun b => ?_⟩)))))))))
    · exact e_var rfl ⟨_, rfl, add v.2 hvv.1.ok hvv.1.le hvv.2 _ (by omega)⟩
    · refine e_call (a_cons (e_var rfl (a_cons (e_var rfl (a_nil fun W' I => ⟨p, v.1, rfl, I.sub.up hu, I.sub.tp ht, hvv.1.lo, hvv.1.hi, by omega, fun ps ho hl hne => ⟨_, rfl, add ps ho hl hne _ (by omega)⟩⟩)))))
  rintro acc g2 ⟨hg2, N, rfl, hN, hn⟩
  rw [List.length_map] at hg2 hN
  rw [List.take_length] at hN
  have he : L.map (·.1) = N.map (·.1) := hN.symm
  refine ⟨_, rfl, ?_⟩
  have no : ∀ v ∈ N, VOk v := fun v h => (hn v h).1
  have lN : L.length = N.length := sizes_len he
  show wpS W H g2 [.v (.raw (.ref p)), .v (.int m), .un, .v (.lst ((L.map (·.1)).map D.int)), .un, .v (.lst (L.map rowD)), .un, .v (.lst (N.map rowD)), .un, .un, .un, .un, .un, .un, .un, .un, .un, .un, .un, .un, .un, .un] _ _
  -- the boxes
  refine s_seq (s_asg (e_mkBox (a_cons (e_new (n_lc (i_zip (a_cons (e_var rfl (a_cons (e_var rfl (a_nil ⟨_, _, rfl, ?_⟩)))))))))))
  rw [hP L rfl]
  refine ⟨by rw [List.length_map]; omega, fun i acc g' => g' = g2 ∧ acc = (L.take i).map (vD a), ⟨rfl, rfl⟩, ?_, ?_⟩
  · rintro i d acc g' hi ⟨rfl, rfl⟩
    obtain ⟨v, hiv, rfl⟩ := map_at hi
    refine ⟨_, gt_tup2 (by decide), t_yes ⟨fun _ => ?_, fun z => nomatch z⟩⟩
    refine e_mkSet (a_cons (e_var rfl (a_cons (e_var rfl (a_nil ⟨_, v, rfl, .v, vo v (List.mem_of_getElem? hiv), _, rfl, rfl, ?_⟩)))))
    rw [TL.take_next hiv, List.map_append]; rfl
  rintro acc g' ⟨rfl, rfl⟩
  rw [List.length_map, List.take_length]
  refine a_nil ⟨_, L, rfl, .v, L1, L8, _, rfl, ?_⟩
  show wpS W H g' [.v (.raw (.ref p)), .v (.int m), .un, .v (.lst ((L.map (·.1)).map D.int)), .un, .v (.lst (L.map rowD)), .un, .v (.lst (N.map rowD)), .v (bxD a L), .un, .un, .un, .un, .un, .un, .un, .un, .un, .un, .un, .un, .un] _ _
  refine s_seq (s_asg (e_mkBox (a_cons (e_new (n_lc (i_zip (a_cons (e_var rfl (a_cons (e_var rfl (a_nil ⟨_, _, rfl, ?_⟩)))))))))))
  rw [hP N he]
  refine ⟨by rw [List.length_map]; omega, fun i acc g2 => g2 = g' ∧ acc = (N.take i).map (vD a), ⟨rfl, rfl⟩, ?_, ?_⟩
  · rintro i d acc g2 hi ⟨rfl, rfl⟩
    obtain ⟨v, hiv, rfl⟩ := map_at hi
    refine ⟨_, gt_tup2 (by decide), t_yes ⟨fun _ => ?_, fun z => nomatch z⟩⟩
    refine e_mkSet (a_cons (e_var rfl (a_cons (e_var rfl (a_nil ⟨_, v, rfl, .v, no v (List.mem_of_getElem? hiv), _, rfl, rfl, ?_⟩)))))
    rw [TL.take_next hiv, List.map_append]; rfl
  rintro acc g3 ⟨rfl, rfl⟩
  rw [List.length_map, List.take_length]
  refine a_nil ⟨_, N, rfl, .v, by omega, by omega, _, rfl, ?_⟩
  show wpS W H g3 [.v (.raw (.ref p)), .v (.int m), .un, .v (.lst ((L.map (·.1)).map D.int)), .un, .v (.lst (L.map rowD)), .un, .v (.lst (N.map rowD)), .v (bxD a L), .v (bxD a N), .un, .un, .un, .un, .un, .un, .un, .un, .un, .un, .un, .un] _ _
  -- due
  have bl := bothB_len he
  have pl : (pairs (L.map rowD) (N.map rowD)).length = L.length := by rw [pairs_len, List.length_map, List.length_map, ← lN, Nat.min_self]
  refine s_seq (s_asg (e_new (n_lc (i_zip (a_cons (e_var rfl (a_cons (e_var rfl (a_nil ⟨_, _, rfl, by rw [pl]; omega, fun i acc g2 => g2 = g3 ∧ acc = ((bothB L N).take i).map rowD, ⟨rfl, rfl⟩, ?_, ?_⟩)))))))))
  · rintro i d acc g2 hi ⟨rfl, rfl⟩
    obtain ⟨d1, d2, h1, h2, rfl⟩ := pairs_get hi
    obtain ⟨u, hu1, rfl⟩ := map_at h1
    obtain ⟨v, hv1, rfl⟩ := map_at h2
    have s := sizes_at he hu1 hv1
    have ou := vo u (List.mem_of_getElem? hu1)
    have ov := no v (List.mem_of_getElem? hv1)
    refine ⟨_, gt_tup2 (by decide), t_yes ⟨fun _ => ?_, fun z => nomatch z⟩⟩
    refine e_call (a_cons (e_var rfl (a_cons (e_var rfl (a_nil fun W' I => ⟨u.1, u.2, v.2, rfl, ou.ok, by rw [s]; exact ov.ok, by have := ou.le; omega, by have := ov.le; omega, _, rfl, rfl, ?_⟩)))))
    rw [TL.take_next (bothB_get hu1 hv1), List.map_append]; rfl
  rintro acc g4 ⟨rfl, rfl⟩
  rw [pl, ← bl, List.take_length]
  refine ⟨_, rfl, ?_⟩
  show wpS W H g4 [.v (.raw (.ref p)), .v (.int m), .un, .v (.lst ((L.map (·.1)).map D.int)), .un, .v (.lst (L.map rowD)), .un, .v (.lst (N.map rowD)), .v (bxD a L), .v (bxD a N), .un, .v (rowsD (bothB L N)), .un, .un, .un, .un, .un, .un, .un, .un, .un, .un] _ _
  have td : toldB L N = if Few (bothB L N) then rowsD (bothB L N) else .str "many" := if_pos he
  refine s_cut (fun ρ' g' => g' = g4 ∧ ρ' = [.v (.raw (.ref p)), .v (.int m), .un, .v (.lst ((L.map (·.1)).map D.int)), .un, .v (.lst (L.map rowD)), .un, .v (.lst (N.map rowD)), .v (bxD a L), .v (bxD a N), .un, .v (toldB L N), .un, .un, .un, .un, .un, .un, .un, .un, .un, .un]) ?_ ?_
  · refine s_asg (e_if (t_test (e_op (e_cb (a_cons (e_new (n_map (i_list (e_var rfl ⟨_, rfl, by rw [List.length_map]; omega, (fun d => match d with | .lst x => .int (x.length : Int) | _ => .non), fun d hd => ?_, ?_⟩)))))))))
    · obtain ⟨v, _, rfl⟩ := List.mem_map.mp hd
      exact ⟨_, gt_name, e_cb (a_cons (e_var rfl (a_nil (c_len .v ⟨rfl, rfl⟩))))⟩
    · rw [show ((bothB L N).map fun v => D.lst (prs v.2)).map (fun d => match d with | .lst x => D.int (x.length : Int) | _ => .non) = ((bothB L N).map fun v => (v.2.length : Int)).map D.int by
        rw [List.map_map, List.map_map]
        exact List.map_congr_left fun v _ => by show D.int ((prs v.2).length : Int) = D.int (v.2.length : Int); rw [prs_len]]
      refine a_nil (c_maxL .v (by rw [List.length_map]; omega) fun x hx hy => e_int (p_I0b ⟨_, rfl, fun b => ?_, fun b => ?_⟩))
      · have b := of_decide_eq_true b
        obtain ⟨v, hv, rfl⟩ := List.mem_map.mp hx
        have nf : ¬ Few (bothB L N) := fun z => by have := z v hv; omega
        refine e_str ⟨_, rfl, rfl, ?_⟩
        rw [td, if_neg nf]; rfl
      · have b := of_decide_eq_false b
        have nf : Few (bothB L N) := fun v hv => by
          have := hy _ (List.mem_map.mpr ⟨v, hv, rfl⟩)
          omega
        refine e_var rfl ⟨_, rfl, rfl, ?_⟩
        rw [td, if_pos nf]; rfl
  rintro ρ' g5 ⟨rfl, rfl⟩
  -- told
  have pt := pl_told L N
  have pt2 : Pl 5 (.lst [toldB L N, toldB L N]) := .lst fun d hd => by
    simp only [List.mem_cons, List.not_mem_nil, or_false] at hd
    rcases hd with rfl | rfl <;> exact pt
  refine s_seq (s_if (t_or (t_test (e_op (e_lst (a_cons (e_call (a_cons (e_var rfl (a_cons (e_var rfl (a_nil fun W' I => ⟨L, _, .ref a.C_Box, rfl, L1, L8, vo, rfl, .inl rfl, .inl ⟨N, rfl, by omega, no, ?_⟩⟩))))))))))))
  refine a_cons (e_call (a_cons (e_var rfl (a_cons (e_var rfl (a_nil fun W' I => ⟨N, _, .ref a.C_Box, rfl, by omega, by omega, no, rfl, .inl rfl, .inl ⟨L, rfl, L8, vo, ?_⟩⟩))))))
  rw [toldB_comm he vo no]
  refine a_nil ⟨_, .cons (.cons .nil), by show 2 ≤ 1000; decide, e_lst (a_cons (e_var rfl (a_cons (e_var rfl (a_nil ⟨_, .cons (.cons .nil), by show 2 ≤ 1000; decide, p_neSelf pt2 (by decide) ⟨_, rfl, (fun z => nomatch z), fun _ => ?_⟩⟩)))))⟩
  refine t_test (e_eqBox (e_band (e_var rfl ⟨L, rfl, L1, L8, vo, e_var rfl ⟨L, rfl, L8, vo, rfl, few_self vo, bothB L L, rfl, e_var rfl ⟨L, rfl, ?_⟩⟩⟩)))
  rw [bothB_self vo, decide_eq_true rfl]
  refine ⟨_, rfl, (fun z => nomatch z), fun _ => s_next ?_⟩
  -- both
  refine s_cut (fun ρ' g' => g' = g5 ∧ ∃ B : List VSt, B.length ≤ 8 ∧ L.map (·.1) = B.map (·.1) ∧ (∀ v ∈ B, v.2.length ≤ 12) ∧ (Few (bothB L N) → B = bothB L N) ∧ ρ' = [.v (.raw (.ref p)), .v (.int m), .un, .v (.lst ((L.map (·.1)).map D.int)), .un, .v (.lst (L.map rowD)), .un, .v (.lst (N.map rowD)), .v (bxD a L), .v (bxD a N), .un, .v (toldB L N), .v (bxD a B), .un, .un, .un, .un, .un, .un, .un, .un, .un]) ?_ ?_
  · by_cases hf : Few (bothB L N)
    · rw [td, if_pos hf]
      refine s_asg (e_if (t_test (e_op (e_var rfl (e_str (p_eqP (.v (pl_rows (n := 1) (bothB L N))) (.v (.str (n := 1))) (by decide) ⟨_, rfl, (fun z => nomatch z), fun _ => ?_⟩))))))
      exact e_band (e_var rfl ⟨L, rfl, L1, L8, vo, e_var rfl ⟨N, rfl, by omega, no, he, hf, _, rfl, rfl, bothB L N, by omega, (bothB_sizes he).symm, hf, fun _ => rfl, rfl⟩⟩)
    · rw [td, if_neg hf]
      refine s_asg (e_if (t_test (e_op (e_var rfl (e_str (p_eqSelf (n := 1) .str (by decide) ⟨_, rfl, fun _ => ?_, fun z => nomatch z⟩))))))
      exact e_var rfl ⟨_, rfl, rfl, L, L8, rfl, fun v hv => (vo v hv).le, fun z => absurd z hf, rfl⟩
  rintro ρ' g6 ⟨rfl, B, B8, hB, fB, eB, rfl⟩
  refine s_seq (s_if (t_test (e_op (e_sizes (e_var rfl ⟨B, rfl, B8, ?_⟩)))))
  rw [← hB]
  refine e_var rfl (p_neSelf (pl_ints (n := 1) (L.map (·.1))) (by decide) ⟨_, rfl, (fun z => nomatch z), fun _ => s_next ?_⟩)
  show wpS W H g6 [.v (.raw (.ref p)), .v (.int m), .un, .v (.lst ((L.map (·.1)).map D.int)), .un, .v (.lst (L.map rowD)), .un, .v (.lst (N.map rowD)), .v (bxD a L), .v (bxD a N), .un, .v (toldB L N), .v (bxD a B), .un, .un, .un, .un, .un, .un, .un, .un, .un] _ _
  -- keys
  refine s_cut (fun ρ' g' => g' ≤ g6 + 5 * 24 ∧ ∃ s2 s4 s6 s10 s13 s14 s15 : Sl, ρ' = [.v (.raw (.ref p)), .v (.int m), s2, .v (.lst ((L.map (·.1)).map D.int)), s4, .v (.lst (L.map rowD)), s6, .v (.lst (N.map rowD)), .v (bxD a L), .v (bxD a N), s10, .v (toldB L N), .v (bxD a B), s13, s14, s15, .un, .un, .un, .un, .un, .un]) ?_ ?_
  · have td2 : toldB L N = if Few (bothB L N) then rowsD (bothB L N) else .str "many" := td
    have cmp : ∀ kk : Rs → Prop, kk (.v (.bl (decide (Few (bothB L N))))) → wp2 (rNeP K) (.v (toldB L N)) (.v (.str "many")) kk := fun kk q => by
      by_cases hf : Few (bothB L N)
      · rw [td2, if_pos hf]
        rw [decide_eq_true hf] at q
        exact p_neP (.v (pl_rows (n := 1) (bothB L N))) (.v (.str (n := 1))) (by decide) q
      · rw [td2, if_neg hf]
        rw [decide_eq_false hf] at q
        exact p_neSelf (n := 1) .str (by decide) q
    refine s_for (i_rng1 (a_cons (e_op (e_int (e_cb (a_cons (e_op (e_var rfl (e_str (cmp _ (a_nil (c_intB (p_Ii ?_ (a_nil ⟨_, rfl, ?_, ?_, ?_⟩))))))))))))))
    · split <;> exact mulw (by decide) (by decide)
    · split <;> decide
    · split <;> decide
    · refine ⟨fun i ρ' g' => g' ≤ g6 + i * 24 ∧ ∃ s2 s4 s6 s10 s13 s14 s15 : Sl, ρ' = [.v (.raw (.ref p)), .v (.int m), s2, .v (.lst ((L.map (·.1)).map D.int)), s4, .v (.lst (L.map rowD)), s6, .v (.lst (N.map rowD)), .v (bxD a L), .v (bxD a N), s10, .v (toldB L N), .v (bxD a B), s13, s14, s15, .un, .un, .un, .un, .un, .un], ⟨by omega, _, _, _, _, _, _, _, rfl⟩, ?_, ?_⟩
      · rintro i d ρ' g' hi ⟨hg', s2, s4, s6, s10, s13, s14, s15, rfl⟩
        obtain ⟨hin, rfl⟩ := irs_get hi
        have hf : Few (bothB L N) := Classical.byContradiction fun z => by
          rw [decide_eq_false z] at hin
          exact absurd hin (by show ¬ i < 0; omega)
        have i5 : i < 5 := by
          rw [decide_eq_true hf] at hin
          exact hin
        have eB := eB hf
        subst eB
        refine g_name (s_seq (s_new (n_lst (a_nil ⟨[], .nil, by decide, ?_⟩))))
        refine s_cut (fun ρ' g2 => g2 ≤ g6 + (i + 1) * 24 ∧ ∃ (ks : List Int) (s4 s6 s10 s14 s15 : Sl), ks.length ≤ 8 ∧ ρ' = [.v (.raw (.ref p)), .v (.int m), .v (.int (0 + (i : Int))), .v (.lst ((L.map (·.1)).map D.int)), s4, .v (.lst (L.map rowD)), s6, .v (.lst (N.map rowD)), .v (bxD a L), .v (bxD a N), s10, .v (toldB L N), .v (bxD a (bothB L N)), .ow (ks.map D.int), s14, s15, .un, .un, .un, .un, .un, .un]) ?_ ?_
        · have tl : (trips ((L.map (·.1)).map D.int) (L.map rowD) (N.map rowD)).length = L.length := by
            rw [trips_len (by simp) (by simp [lN]), List.length_map, List.length_map]
          refine s_for (i_zip3 (a_cons (e_var rfl (a_cons (e_var rfl (a_cons (e_var rfl (a_nil ⟨_, _, _, rfl, by simp, by simp [lN], fun j ρ' g2 => g2 ≤ g6 + i * 24 + j * 3 ∧ ∃ (ks : List Int) (s4 s6 s10 s14 s15 : Sl), ks.length = j ∧ ρ' = [.v (.raw (.ref p)), .v (.int m), .v (.int (0 + (i : Int))), .v (.lst ((L.map (·.1)).map D.int)), s4, .v (.lst (L.map rowD)), s6, .v (.lst (N.map rowD)), .v (bxD a L), .v (bxD a N), s10, .v (toldB L N), .v (bxD a (bothB L N)), .ow (ks.map D.int), s14, s15, .un, .un, .un, .un, .un, .un], ⟨by omega, [], _, _, _, _, _, rfl, rfl⟩, ?_, ?_⟩))))))))
          · rintro j d ρ' g2 hj ⟨hg2, ks, s4, s6, s10, s14, s15, hk, rfl⟩
            have hjl : j < L.length := by rw [← tl]; exact (List.getElem?_eq_some_iff.mp hj).1
            obtain ⟨d1, d2, d3, h1, h2, h3, rfl⟩ := trips_get hj
            obtain ⟨n, hn1, rfl⟩ := map_at h1
            obtain ⟨u, hu1, rfl⟩ := map_at h2
            obtain ⟨v, hv1, rfl⟩ := map_at h3
            have en : n = u.1 := by
              rw [List.getElem?_map, hu1] at hn1
              exact (Option.some.inj hn1).symm
            subst en
            have ou := hv u (List.mem_of_getElem? hu1)
            have ov := hn v (List.mem_of_getElem? hv1)
            have ul := ou.1.le
            have vl := ov.1.le
            have un : 1 ≤ (u.2 ++ v.2).length := by
              have : u.2.length ≠ 0 := fun z => ou.2 (List.length_eq_zero_iff.mp z)
              rw [List.length_append]; omega
            have rc : prs u.2 ++ prs v.2 = prs (u.2 ++ v.2) := (prs_app _ _).symm
            have lc : (prs u.2).length + (prs v.2).length ≤ 1000000 := by rw [prs_len, prs_len]; omega
            have l24 : (u.2 ++ v.2).length ≤ 24 := by rw [List.length_append]; omega
            refine g_tup3 (s_seq (s_asgG (e_op (e_op (e_var rfl (e_var rfl (p_cat .v .v lc (e_call (a_cons (e_var rfl (a_cons (e_cb (a_cons (e_op (e_var rfl (e_var rfl (p_cat .v .v lc (a_nil (c_len .v ?_)))))))))))))))))))
            rw [rc, prs_len]
            refine a_nil fun W' I => nx_p I hu ht (by omega) (by rw [two200]; omega) (by omega) fun r r0 r1 => ?_
            obtain ⟨t, rfl⟩ : ∃ t : Nat, r = (t : Int) := ⟨r.toNat, by omega⟩
            have tl : t < (u.2 ++ v.2).length := by omega
            have htt : (u.2 ++ v.2)[t]? = some (u.2 ++ v.2)[t] := List.getElem?_eq_getElem tl
            generalize (u.2 ++ v.2)[t] = q at htt
            have hat : L2.atI (prs (u.2 ++ v.2)) (t : Int) = some (.tup [.int q.1, .int q.2]) := atI_nat (by unfold prs; rw [List.getElem?_map, htt]; rfl)
            refine p_ix .v hat ⟨_, rfl, g_tup2 ?_⟩
            show wpS W H (g2 + 1) [.v (.raw (.ref p)), .v (.int m), .v (.int (0 + (i : Int))), .v (.lst ((L.map (·.1)).map D.int)), .v (.int u.1), .v (.lst (L.map rowD)), .v (rowD u), .v (.lst (N.map rowD)), .v (bxD a L), .v (bxD a N), .v (rowD v), .v (toldB L N), .v (bxD a (bothB L N)), .ow (ks.map D.int), .v (.int q.1), .v (.int q.2), .un, .un, .un, .un, .un, .un] _ _
            refine s_app (i := 13) (ds := ks.map D.int) rfl (by rw [List.length_map]; omega) (e_op (e_lst (a_cons (e_var rfl (a_cons (e_var rfl (a_cons (e_call (a_cons (e_var rfl (a_cons (e_var rfl (a_nil fun W' I => nx_p I hu ht ou.1.lo (by have := ou.1.hi; rw [two200]; omega) (by omega) fun y y0 y1 => ?_)))))))))))))
            refine a_nil ⟨_, .cons (.cons (.cons .nil)), by show 3 ≤ 1000; decide, e_call (a_cons (e_var rfl (a_cons (e_int (a_nil fun W' I => nx_p I hu ht (by decide) (by decide) (by omega) fun c c0 c1 => ?_)))))⟩
            obtain ⟨x, hx⟩ : ∃ x : Int, L2.atI [D.int q.1, D.int q.2, D.int y] c = some (.int x) := by
              obtain ⟨e, rfl⟩ : ∃ e : Nat, c = (e : Int) := ⟨c.toNat, by omega⟩
              have he3 : e < 3 := by omega
              match e, he3 with
              | 0, _ => exact ⟨_, rfl⟩
              | 1, _ => exact ⟨_, rfl⟩
              | 2, _ => exact ⟨_, rfl⟩
            exact p_ix .v hx ⟨_, rfl, by omega, ks ++ [x], _, _, _, _, _, by rw [List.length_append, hk]; rfl, by rw [List.map_append]; rfl⟩
          · rintro ρ' g2 ⟨hg2, ks, s4, s6, s10, s14, s15, hk, rfl⟩
            rw [tl] at hg2 hk
            exact ⟨by omega, ks, _, _, _, _, _, by omega, rfl⟩
        rintro ρ' g2 ⟨hg2, ks, s4, s6, s10, s14, s15, hk, rfl⟩
        have kt : Kn K (.v (.tup (ks.map D.int))) := .t rfl (by decide)
        have ki : ∀ ds, Rs.v (.tup (ks.map D.int)) = .v (.tup ds) → ∀ d ∈ ds, Kn K (.v d) := fun ds e d hd => by
          cases e
          obtain ⟨_, _, rfl⟩ := List.mem_map.mp hd
          exact kn_int
        have tup : ∀ {kk : Rs → Prop}, kk (.v (.tup (ks.map D.int))) → wpC (rTupleOf K) [.b (ks.map D.int)] kk := fun q => c_tuple .b q
        refine s_if (t_test (e_op (e_boxHas (e_cb (a_cons (e_varO rfl (a_nil (tup (e_var rfl ⟨bothB L N, rfl, B8, fB, kt, ki, ?_⟩)))))))))
        rw [keyIn_both he]
        refine e_andV (e_boxHas (e_cb (a_cons (e_varO rfl (a_nil (tup (e_var rfl ⟨L, rfl, L8, fun v hv => (vo v hv).le, kt, ki, _, rfl, fun b => ?_, fun b => ?_⟩)))))))
        · refine e_boxHas (e_cb (a_cons (e_varO rfl (a_nil (tup (e_var rfl ⟨N, rfl, by omega, fun v hv => (no v hv).le, kt, ki, ?_⟩))))))
          rw [b, Bool.true_and]
          exact p_neSelf (n := 1) .bl (by decide) ⟨_, rfl, (fun z => nomatch z), fun _ => s_next ⟨hg2, _, _, _, _, _, _, _, rfl⟩⟩
        · rw [b, Bool.false_and]
          exact p_neSelf (n := 1) .bl (by decide) ⟨_, rfl, (fun z => nomatch z), fun _ => s_next ⟨hg2, _, _, _, _, _, _, _, rfl⟩⟩
      · rintro ρ' g' ⟨hg', s2, s4, s6, s10, s13, s14, s15, rfl⟩
        refine ⟨Nat.le_trans hg' ?_, _, _, _, _, _, _, _, rfl⟩
        rw [irs_len]
        have : (5 * (if decide (Few (bothB L N)) = true then (1 : Int) else 0)).toNat ≤ 5 := by split <;> decide
        omega
  rintro ρ' g7 ⟨hg7, s2, s4, s6, s10, s13, s14, s15, rfl⟩
  -- things that are no boxes
  obtain ⟨u0, Lt, eL⟩ : ∃ u0 Lt, L = u0 :: Lt := by
    cases L with
    | nil => exact absurd L1 (by decide)
    | cons u0 Lt => exact ⟨u0, Lt, rfl⟩
  have h0 : L2.atI (L.map (vD a)) 0 = some (vD a u0) := by rw [eL]; exact atI_nat (i := 0) rfl
  refine s_seq (s_for (i_list (e_lst ?_)))
  o_readsAll
  refine e_dict0 ?_
  refine a_cons (e_sets (e_var rfl ⟨L, rfl, a_cons (e_op (e_sets (e_var rfl ⟨L, rfl, e_int (p_ix .v h0 ?_)⟩)))⟩))
  o_readsAll
  show ∃ I : Nat → Rho → Nat → Prop, _
  refine ⟨fun j ρ' g2 => g2 = g7 ∧ ∃ s16 : Sl, ρ' = [.v (.raw (.ref p)), .v (.int m), s2, .v (.lst ((L.map (·.1)).map D.int)), s4, .v (.lst (L.map rowD)), s6, .v (.lst (N.map rowD)), .v (bxD a L), .v (bxD a N), s10, .v (toldB L N), .v (bxD a B), s13, s14, s15, s16, .un, .un, .un, .un, .un], ⟨rfl, _, rfl⟩, ?_, ?_⟩
  · rintro j d ρ' g2 hj ⟨rfl, s16, rfl⟩
    obtain ⟨t, ty, b1, ni⟩ := odd_not (L := L) (N := N) (u := u0) T d (List.mem_of_getElem? hj)
    refine g_name (s_if (t_test (e_op (e_call (a_cons (e_var rfl (a_cons (e_var rfl (a_nil fun W' I => ⟨L, _, t, rfl, L1, L8, vo, ty, b1, .inr ⟨ni, e_str (p_neSelf (n := 1) .str (by decide) ⟨_, rfl, (fun z => nomatch z), fun _ => s_next ⟨rfl, _, rfl⟩⟩)⟩⟩)))))))))
  rintro ρ' g8 ⟨rfl, s16, rfl⟩
  -- other sizes
  refine s_seq (s_asg (e_call (a_cons (e_var rfl (a_cons (e_var rfl (a_nil fun W' I => nx_p I hu ht (by omega) (by rw [two200]; omega) (by omega) fun r r0 r1 => ⟨_, rfl, ?_⟩)))))))
  obtain ⟨t, rfl⟩ : ∃ t : Nat, r = (t : Int) := ⟨r.toNat, by omega⟩
  have tl : t < N.length := by omega
  have hvt : N[t]? = some N[t] := List.getElem?_eq_getElem tl
  generalize N[t] = v at hvt
  have hut : L[t]? = some L[t] := List.getElem?_eq_getElem (by omega)
  generalize L[t] = u at hut
  have suv := sizes_at he hut hvt
  have hat : L2.atI ((L.map (·.1)).map D.int) (t : Int) = some (.int u.1) := atI_nat (by rw [List.getElem?_map, List.getElem?_map, hut]; rfl)
  show wpS W H (g8 + 1) [.v (.raw (.ref p)), .v (.int m), s2, .v (.lst ((L.map (·.1)).map D.int)), s4, .v (.lst (L.map rowD)), s6, .v (.lst (N.map rowD)), .v (bxD a L), .v (bxD a N), s10, .v (toldB L N), .v (bxD a B), s13, s14, s15, s16, .v (.int t), .un, .un, .un, .un] _ _
  obtain ⟨z, hz⟩ : ∃ z : Int, z = 2 + (if decide (u.1 = 2) = true then 1 else 0) := ⟨_, rfl⟩
  have z1 : 1 ≤ z ∧ z ≤ 3 ∧ z ≠ u.1 := by
    by_cases q : u.1 = 2
    · rw [decide_eq_true q, if_pos rfl] at hz
      omega
    · rw [decide_eq_false q, if_neg Bool.false_ne_true] at hz
      omega
  have v0 : VOk (z, [(0, 0)]) := ⟨z1.1, by show z ≤ _; rw [big]; omega, ⟨fun q hq => by rw [List.mem_singleton.mp hq]; exact ⟨Int.le_refl _, Int.le_refl _, by show (0 : Int) < z; omega⟩, List.pairwise_singleton _ _⟩, by show 1 ≤ 12; decide⟩
  have wid : ∀ (t : Nat) (d : D), (cut (N.map (vD a)) none (some (t : Int)) ++ [d]).length + (cut (N.map (vD a)) (some ((t : Int) + 1)) none).length ≤ 1000000 := fun t d => by
    have h1 := cutLen (N.map (vD a)) none (some (t : Int))
    have h2 := cutLen (N.map (vD a)) (some ((t : Int) + 1)) none
    have h3 : (N.map (vD a)).length = N.length := List.length_map _
    rw [List.length_append]
    show _ + 1 + _ ≤ _
    omega
  refine s_seq (s_asg (e_op (e_op (e_sl (e_sets (e_var rfl ⟨N, rfl, ?_⟩))))))
  o_readsAll
  refine p_ix .v hat ?_
  o_readsAll
  refine c_intB ?_
  o_readsAll
  rw [← hz]
  refine fun W' I => init_ok (ps := [(0, 0)]) .v v0.lo v0.hi v0.ok v0.le ?_
  o_readsAll
  refine p_cat .v .v (by have := cutLen (N.map (vD a)) none (some (t : Int)); have h3 : (N.map (vD a)).length = N.length := List.length_map _; show _ + 1 ≤ _; omega) ?_
  refine e_sl (e_sets (e_var rfl ⟨N, rfl, ?_⟩))
  o_readsAll
  refine p_cat .v .v (wid _ _) ?_
  rw [put_cut, show (D.ins a.C_ValueSet (vsF z (prs [(0, 0)]))) = vD a (z, [(0, 0)]) from rfl, put_map]
  have pl : (put N t (z, [(0, 0)])).length = N.length := put_len tl
  have vp : ∀ u ∈ put N t (z, [(0, 0)]), VOk u := fun u hu => by
    rcases put_mem hu with rfl | h
    · exact v0
    · exact no u h
  have ne1 : L.map (·.1) ≠ (put N t (z, [(0, 0)])).map (·.1) := fun e => by
    have e := sizes_at e hut (put_get tl)
    exact z1.2.2 e.symm
  refine ⟨_, rfl, ?_⟩
  show wpS W H (g8 + 1) [.v (.raw (.ref p)), .v (.int m), s2, .v (.lst ((L.map (·.1)).map D.int)), s4, .v (.lst (L.map rowD)), s6, .v (.lst (N.map rowD)), .v (bxD a L), .v (bxD a N), s10, .v (toldB L N), .v (bxD a B), s13, s14, s15, s16, .v (.int t), .v (.lst ((put N t (z, [(0, 0)])).map (vD a))), .un, .un, .un] _ _
  have tn : toldB L (put N t (z, [(0, 0)])) = .str "other" := if_neg ne1
  refine s_cut (fun ρ' g' => g' = g8 + 1 ∧ ρ' = [.v (.raw (.ref p)), .v (.int m), s2, .v (.lst ((L.map (·.1)).map D.int)), s4, .v (.lst (L.map rowD)), s6, .v (.lst (N.map rowD)), .v (bxD a L), .v (bxD a N), s10, .v (toldB L N), .v (bxD a B), s13, s14, s15, s16, .v (.int t), .v (.lst ((put N t (z, [(0, 0)])).map (vD a))), .v (.lst [.str "other", .str "other"]), .un, .un]) ?_ ?_
  · refine s_asg (e_lst (a_cons (e_call (a_cons (e_var rfl (a_cons (e_mkBox (a_cons (e_var rfl (a_nil ⟨_, put N t (z, [(0, 0)]), rfl, .v, by omega, by omega, a_nil fun W' I => ⟨L, _, .ref a.C_Box, rfl, L1, L8, vo, rfl, .inl rfl, .inl ⟨_, rfl, by omega, vp, ?_⟩⟩⟩))))))))))
    rw [tn]
    refine a_cons (e_if (t_test (e_op (e_var rfl (e_int (p_I0b ⟨_, rfl, fun b => ?_, fun b => ?_⟩))))))
    · have b := of_decide_eq_true b
      refine e_call (a_cons (e_var rfl (a_cons (e_mkBox (a_cons (e_op (e_sets (e_var rfl ⟨N, rfl, e_sets (e_var rfl ⟨N, rfl, p_cat .v .v (by rw [List.length_map]; omega) (a_nil ⟨_, N ++ N, rfl, by rw [← List.map_append]; exact .v, by rw [List.length_append]; omega, by rw [List.length_append]; omega, a_nil fun W' I => ⟨L, _, .ref a.C_Box, rfl, L1, L8, vo, rfl, .inl rfl, .inl ⟨_, rfl, by rw [List.length_append]; omega, fun v hv => (List.mem_append.mp hv).elim (no v) (no v), ?_⟩⟩⟩)⟩)⟩))))))))
      have ne2 : L.map (·.1) ≠ (N ++ N).map (·.1) := fun e => by
        have e := sizes_len e
        rw [List.length_append] at e
        omega
      rw [show toldB L (N ++ N) = .str "other" from if_neg ne2]
      exact a_nil ⟨_, .cons (.cons .nil), by show 2 ≤ 1000; decide, _, rfl, rfl, rfl⟩
    · exact e_str (a_nil ⟨_, .cons (.cons .nil), by show 2 ≤ 1000; decide, _, rfl, rfl, rfl⟩)
  rintro ρ' g9 ⟨rfl, rfl⟩
  refine s_seq (s_asg (e_lst (a_cons (e_new (n_map (i_list (e_sets (e_var rfl ⟨L, rfl, _, rfl, by rw [List.length_map]; omega, (fun d => match d with | .ins _ [_, (_, x)] => x | _ => .non), fun d hd => ?_, ?_⟩))))))))
  · obtain ⟨v, _, rfl⟩ := List.mem_map.mp hd
    exact ⟨_, gt_name, e_stre (e_var rfl ⟨v.1, v.2, rfl, rfl, rfl⟩)⟩
  refine a_cons (e_new (n_map (i_list (e_sets (e_var rfl ⟨N, rfl, _, rfl, by rw [List.length_map]; omega, (fun d => match d with | .ins _ [_, (_, x)] => x | _ => .non), fun d hd => ?_, ?_⟩)))))
  · obtain ⟨v, _, rfl⟩ := List.mem_map.mp hd
    exact ⟨_, gt_name, e_stre (e_var rfl ⟨v.1, v.2, rfl, rfl, rfl⟩)⟩
  have me : ∀ M : List VSt, (M.map (vD a)).map (fun d => match d with | .ins _ [_, (_, x)] => x | _ => .non) = M.map rowD := fun M => by
    rw [List.map_map]; rfl
  rw [me, me]
  refine a_nil ⟨_, .cons (.cons .nil), by show 2 ≤ 1000; decide, _, rfl, ?_⟩
  have po : Pl 1 (.lst [.str "other", .str "other"]) := .lst fun d hd => by
    simp only [List.mem_cons, List.not_mem_nil, or_false] at hd
    rcases hd with rfl | rfl <;> exact .str
  have ps : Pl 5 (.lst [rowsD L, rowsD N]) := .lst fun d hd => by
    simp only [List.mem_cons, List.not_mem_nil, or_false] at hd
    rcases hd with rfl | rfl <;> exact pl_rows (n := 1) _
  refine s_retU hu (e_andV (e_op (e_var rfl (e_lst (a_cons (e_str (a_cons (e_str (a_nil ⟨_, .cons (.cons .nil), by show 2 ≤ 1000; decide, p_eqSelf po (by decide) ⟨_, rfl, fun _ => ?_, fun z => nomatch z⟩⟩)))))))))
  exact e_op (e_var rfl (e_lst (a_cons (e_var rfl (a_cons (e_var rfl (a_nil ⟨_, .cons (.cons .nil), by show 2 ≤ 1000; decide, p_eqSelf ps (by decide) ⟨_, rfl, g + 3000, by show g8 + 1 ≤ g + 3000; omega, k⟩⟩)))))))
end
end TL
set_option Elab.async false
set_option linter.all false
set_option maxRecDepth 100000
namespace TL
open PySem PySem.Spec L2
section
local macro_rules
  | `(tactic| o_reads) => `(tactic| with_reducible first
    | refine s_seq ?_ | refine s_asg ?_ | refine s_ret ?_ | refine s_next ?_ | refine s_if ?_ | refine t_test ?_ | refine t_B ?_ | refine t_and ?_ | refine t_or ?_ | refine t_not ?_
    | refine e_op ?_ | refine e_int ?_ | refine e_bl ?_ | refine e_str ?_ | refine e_cb ?_ | refine a_cons ?_ | refine a_nil ?_ | refine p_I0i ?_ | refine p_I0b ?_ | refine c_int ?_
    | refine e_call ?_ | refine e_make ?_ | refine e_prop ?_ | refine e_un ?_ | refine p_Ui ?_ | refine e_non ?_ | refine p_eqI ?_ | refine p_neI ?_ | refine p_addI ?_ | refine e_raw ?_ | refine e_lst ?_ | refine e_tup ?_ | refine e_andV ?_ | refine e_orV ?_ | refine e_if ?_ | refine e_notV ?_ | refine e_sl ?_ | refine o_some ?_ | refine o_no ?_ | refine e_revL ?_ | (refine Or.inl ⟨_, LstOf.v, ?_⟩)
    | (refine e_var (r := ?vr) ?va ?vb; case va => with_unfolding_all exact rfl) | (refine e_varO (ds := ?vr) ?va ?vb; case va => with_unfolding_all exact rfl) | (refine e_varT (p := ?vr) ?va ?vb; case va => with_unfolding_all exact rfl)
    | (refine p_Ii ?pa ?pb; case pa => first | exact wide_mul (a := 64) (b := 64) (by first | decide | omega) (by first | decide | omega) (by decide) (by decide) (by decide) | exact pow_ok (n := 64) (by decide) (by decide) (by decide) (by decide) (by decide) | decide | omega)
    | (refine ⟨?vd, (?va : Vs _ _), ?vb, ?vc⟩; (case va => first | exact .nil | exact .cons .nil | exact .cons (.cons .nil) | exact .cons (.cons (.cons .nil)) | exact .cons (.cons (.cons (.cons .nil))) | exact .cons (.cons (.cons (.cons (.cons .nil)))) | exact .cons (.cons (.cons (.cons (.cons (.cons .nil))))) | exact .cons (.cons (.cons (.cons (.cons (.cons (.cons .nil)))))) | exact .cons (.cons (.cons (.cons (.cons (.cons (.cons (.cons .nil))))))) | exact .cons (.cons (.cons (.cons (.cons (.cons (.cons (.cons (.cons .nil)))))))) | exact .cons (.cons (.cons (.cons (.cons (.cons (.cons (.cons (.cons (.cons .nil))))))))) | exact .cons (.cons (.cons (.cons (.cons (.cons (.cons (.cons (.cons (.cons (.cons .nil)))))))))) | exact .cons (.cons (.cons (.cons (.cons (.cons (.cons (.cons (.cons (.cons (.cons (.cons .nil))))))))))) | exact .cons (.cons (.cons (.cons (.cons (.cons (.cons (.cons (.cons (.cons (.cons (.cons (.cons .nil)))))))))))) | exact .cons (.cons (.cons (.cons (.cons (.cons (.cons (.cons (.cons (.cons (.cons (.cons (.cons (.cons .nil))))))))))))) | exact .cons (.cons (.cons (.cons (.cons (.cons (.cons (.cons (.cons (.cons (.cons (.cons (.cons (.cons (.cons .nil)))))))))))))) | exact .cons (.cons (.cons (.cons (.cons (.cons (.cons (.cons (.cons (.cons (.cons (.cons (.cons (.cons (.cons (.cons .nil))))))))))))))) | exact .cons (.cons (.cons (.cons (.cons (.cons (.cons (.cons (.cons (.cons (.cons (.cons (.cons (.cons (.cons (.cons (.cons .nil)))))))))))))))) | exact .cons (.cons (.cons (.cons (.cons (.cons (.cons (.cons (.cons (.cons (.cons (.cons (.cons (.cons (.cons (.cons (.cons (.cons .nil)))))))))))))))))); (case vb => with_unfolding_all exact Nat.le_of_ble_eq_true rfl))
    | (refine ⟨_, rfl, fun _ => ?vx, ?no⟩; (case no => (intro z; with_unfolding_all cases z; done))) | (refine ⟨_, rfl, ?no, fun _ => ?vx⟩; (case no => (intro z; with_unfolding_all cases z; done))) | (refine ⟨?no, fun _ => ?vx⟩; (case no => (intro z; with_unfolding_all cases z; done))) | (refine ⟨fun _ => ?vx, ?no⟩; (case no => (intro z; with_unfolding_all cases z; done))) | (refine ⟨_, rfl, fun hb => ?_, fun hb => ?_⟩) | (refine ⟨_, rfl, ?_⟩))
local macro_rules
  | `(tactic| o_readsAll) => `(tactic| repeat o_reads)
variable {P : Program} {w : World} {K : PySem.W.Frag} {mg : Str → Option Value} {base : Heap} {a : Ad}

/-! ### k06: law -/
abbrev six1 : List (Int × Int) := [(0, 5), (10, 15), (20, 25), (30, 35), (40, 45), (50, 55), (60, 65)]
abbrev six2 : List (Int × Int) := [(5, 10), (15, 20), (25, 30), (35, 40), (45, 50), (55, 60)]
abbrev six3 : List (Int × Int) := [(5, 10), (15, 20), (25, 30), (35, 40), (45, 50), (55, 60), (65, 66)]
abbrev c12 : List (Int × Int) := [(5, 5), (10, 10), (15, 15), (20, 20), (25, 25), (30, 30), (35, 35), (40, 40), (45, 45), (50, 50), (55, 55), (60, 60)]
abbrev fives : List (Int × Int) := [(5, 5), (15, 15), (25, 25), (35, 35), (45, 45), (55, 55)]
abbrev tens : List (Int × Int) := [(10, 10), (20, 20), (30, 30), (40, 40), (50, 50), (60, 60)]
abbrev zer : List (Int × Int) := [(0, 0)]
abbrev vA : VSt := (100, six1)
abbrev vB : VSt := (100, six2)
abbrev vC : VSt := (100, six3)
abbrev vE : VSt := (99, six3)
abbrev v3 : VSt := (3, zer)
abbrev v4 : VSt := (4, zer)
theorem three_at {x y z d : D} : ∀ {j : Nat}, [x, y, z][j]? = some d → (j = 0 ∧ d = x) ∨ (j = 1 ∧ d = y) ∨ (j = 2 ∧ d = z)
  | 0, h => by cases h; exact .inl ⟨rfl, rfl⟩
  | 1, h => by cases h; exact .inr (.inl ⟨rfl, rfl⟩)
  | 2, h => by cases h; exact .inr (.inr ⟨rfl, rfl⟩)
  | j + 3, h => by cases h
theorem le30 {n : Int} (h : n ≤ 100) : n ≤ 10 ^ 30 := by have : (10 : Int) ^ 30 = 1000000000000000000000000000000 := (by decide); omega
theorem vA_ok : VOk vA := ⟨by decide, le30 (by decide), ⟨by decide, by decide⟩, by decide⟩
theorem vB_ok : VOk vB := ⟨by decide, le30 (by decide), ⟨by decide, by decide⟩, by decide⟩
theorem vC_ok : VOk vC := ⟨by decide, le30 (by decide), ⟨by decide, by decide⟩, by decide⟩
theorem vE_ok : VOk vE := ⟨by decide, le30 (by decide), ⟨by decide, by decide⟩, by decide⟩
theorem v3_ok : VOk v3 := ⟨by decide, le30 (by decide), ⟨by decide, by decide⟩, by decide⟩
theorem v4_ok : VOk v4 := ⟨by decide, le30 (by decide), ⟨by decide, by decide⟩, by decide⟩
theorem ok1 {v : VSt} (h : VOk v) : ∀ u ∈ [v], VOk u := fun u hu => by rw [List.mem_singleton.mp hu]; exact h
theorem ok2 {v w : VSt} (h : VOk v) (h' : VOk w) : ∀ u ∈ [v, w], VOk u := fun u hu => by
  simp only [List.mem_cons, List.not_mem_nil, or_false] at hu
  rcases hu with rfl | rfl
  · exact h
  · exact h'
theorem tb_yes {L N M : List VSt} (h : L.map (·.1) = N.map (·.1)) (e : bothB L N = M) (hf : Few M) : toldB L N = rowsD M := by
  subst e
  unfold toldB
  rw [if_pos h, if_pos hf]
theorem tb_many {L N : List VSt} (h : L.map (·.1) = N.map (·.1)) (hf : ¬ Few (bothB L N)) : toldB L N = .str "many" := by
  unfold toldB
  rw [if_pos h, if_neg hf]
theorem tb_other {L N : List VSt} (h : L.map (·.1) ≠ N.map (·.1)) : toldB L N = .str "other" := if_neg h
theorem tb1 : toldB [vA] [vB] = rowsD [(100, c12)] := tb_yes (by decide) (by decide +kernel) (by unfold Few; decide)
theorem tb2 : toldB [v3, vA] [vA, vA] = .str "other" := tb_other (by decide)
theorem tb3 : toldB [vA] [vC] = .str "many" := tb_many (by decide) (by unfold Few; decide +kernel)
theorem tb4 : toldB [vA, vA] [vA, vC] = .str "many" := tb_many (by decide) (by unfold Few; decide +kernel)
theorem tb5 : toldB [vA] [vE] = .str "other" := tb_other (by decide)
theorem tb6 : toldB [vA, v3] [vC, v4] = .str "other" := tb_other (by decide)
theorem tb7 : toldB [vA, v3] [vC, v3] = .str "many" := tb_many (by decide) (by unfold Few; decide +kernel)
section
variable {W : Wd Nat} {g : Nat} {H0 : Hp} {ρ : Rho} {ta tb : TE} {k : Rs → Nat → Prop} {E : XK}
/-- a box of one set, of two sets -/
theorem e_box1 (h : wpE W H0 g ρ ta fun r g1 => ∃ v : VSt, r = .v (vD a v) ∧ k (.v (bxD a [v])) g1) : wpE W H0 g ρ (tMake a.C_Box (inSp a.C_Box (box_initC K a)) [] E (tCons (tLst (tCons ta tNil)) tNil)) k :=
  e_mkBox (a_cons (e_lst (a_cons (h.mono fun r g1 ⟨v, e, q⟩ => by subst e; exact a_nil ⟨_, .cons .nil, by show 1 ≤ 1000; decide, a_nil ⟨_, [v], rfl, .v, by show 1 ≤ 1; decide, by show 1 ≤ 8; decide, q⟩⟩))))
theorem e_box2 (h : wpE W H0 g ρ ta fun r g1 => ∃ v : VSt, r = .v (vD a v) ∧ wpE W H0 g1 ρ tb fun y g2 => ∃ w : VSt, y = .v (vD a w) ∧ k (.v (bxD a [v, w])) g2) : wpE W H0 g ρ (tMake a.C_Box (inSp a.C_Box (box_initC K a)) [] E (tCons (tLst (tCons ta (tCons tb tNil))) tNil)) k :=
  e_mkBox (a_cons (e_lst (a_cons (h.mono fun r g1 ⟨v, e, h2⟩ => by subst e; exact a_cons (h2.mono fun y g2 ⟨w, e2, q⟩ => by subst e2; exact a_nil ⟨_, .cons (.cons .nil), by show 2 ≤ 1000; decide, a_nil ⟨_, [v, w], rfl, .v, by show 1 ≤ 2; decide, by show 2 ≤ 8; decide, q⟩⟩)))))
/-- what is told of two boxes -/
theorem e_told (h : wpE W H0 g ρ ta fun r g1 => ∃ L : List VSt, r = .v (bxD a L) ∧ 1 ≤ L.length ∧ L.length ≤ 8 ∧ (∀ v ∈ L, VOk v) ∧ wpE W H0 g1 ρ tb fun y g2 => ∃ N : List VSt, y = .v (bxD a N) ∧ N.length ≤ 8 ∧ (∀ v ∈ N, VOk v) ∧ k (.v (toldB L N)) g2) : wpE W H0 g ρ (tCall (mkSp (law_btoldC K a)) [] E (tCons ta (tCons tb tNil))) k :=
  e_call (a_cons (h.mono fun r g1 ⟨L, e, L1, L8, hL, h2⟩ => a_cons (h2.mono fun y g2 ⟨N, e2, N8, hN, q⟩ => a_nil fun W' I => ⟨L, y, .ref a.C_Box, by rw [e], L1, L8, hL, by rw [e2]; rfl, .inl rfl, .inl ⟨N, e2, N8, hN, q⟩⟩)))
end
set_option maxHeartbeats 4000000 in
theorem ok_law (T : Tx K mg a) : FnOk P w K mg base CX0 11 a.f_law a.d_law ["script"] (mkSp (lawC (0 : Nat) K)) := by
  have G_BoxU_initU : FnOk P w K mg base (L2N.CX P w) 2 a.f_BoxU_initU a.d_BoxU_initU ["self", "sets"] (inSp a.C_Box (box_initC K a)) := ok_box_init T
  have G_ValueSetU_initU : FnOk P w K mg base (L2N.CX P w) 4 a.f_ValueSetU_initU a.d_ValueSetU_initU ["self", "size", "stretches"] (inSp a.C_ValueSet (initC (K := K) a)) := ok_init T
  have G__law_next : FnOk P w K mg base CX0 1 a.f__law_next a.d__law_next ["tape", "many"] (mkSp nextC) := ok_law_next T
  have G__law_right : FnOk P w K mg base CX0 10 a.f__law_right a.d__law_right ["tape", "many"] (mkSp (k06_rightC K a)) := ok_law_right T
  have G__law_tape : FnOk P w K mg base CX0 1 a.f__law_tape a.d__law_tape ["script", "k"] (mkSpN (law_tapeC K)) := ok_law_tape T
  have G__law_told : FnOk P w K mg base CX0 9 a.f__law_told a.d__law_told ["one", "thing"] (mkSp (law_btoldC K a)) := ok_law_told T
  refine Fun_t T.F_law sc_law (fun W g rs k x ⟨ns, _, e, _⟩ => by rw [e]; rfl) fun cdv A outer s H E W g rs kd x hr ⟨ns, eg, e, hl, hW, k⟩ => ?_
  subst e
  subst eg
  refine ⟨_, (pss_cons (ps_for PassesOwn.never rfl (pi_range1 rfl T.n_range (pa_cons (pe_callB (cr_max2 rfl) rfl T.n_max (by decide +kernel) (pa_cons pe_int (pa_cons (pe_callB (cr_min2 rfl) rfl T.n_min (by decide +kernel) (pa_cons pe_int (pa_cons (pe_callB (cr_lenK (K := K) rfl) rfl T.n_len (by decide +kernel) (pa_cons (pv 0) pa_nil)) pa_nil))) pa_nil))) pa_nil)) (pg_name (i := 1) (x := "k") sc_law.nd rfl (Or.inl rfl)) (pss_cons (ps_set (i := 2) sc_law.nd rfl (Or.inl rfl) (pe_call G__law_tape (hr.mono (by decide)) rfl T.g__law_tape T.F__law_tape.kp T.b__law_tape .nil pass0 (pa_cons (pv 0) (pa_cons (pv 1) pa_nil))))
      (pss_one (ps_for PassesOwn.never rfl (pi_listK (K := K) rfl (pe_lst (pa_cons (pe_op op_add pe_int (pe_call G__law_next (hr.mono (by decide)) rfl T.g__law_next T.F__law_next.kp T.b__law_next .nil pass0 (pa_cons (pv 2) (pa_cons pe_int pa_nil)))) (pa_cons pe_int (pa_cons pe_int pa_nil))))) (pg_name (i := 3) (x := "many") sc_law.nd rfl (Or.inl rfl)) (pss_one (ps_if (pt_not (pt_val (pe_call G__law_right (hr.mono (by decide)) rfl T.g__law_right T.F__law_right.kp T.b__law_right .nil pass0 (pa_cons (pv 2) (pa_cons (pv 3) pa_nil))))) (pss_one (ps_ret pe_bl)) pss_nil))))))
      (pss_cons (ps_par (i := 4) (j := 5) rfl sc_law.nd rfl rfl (by decide) rfl rfl (pa_cons (pe_lc (own := [("at", 12)]) rfl sc_law.nd  (pi_range1 rfl T.n_range (pa_cons pe_int pa_nil)) (blkOk_by (N := ["script", "k", "tape", "many", "rows", "more", "one", "two", "told", "due", "few", "wide", "at", "last"]) (sc := defScope s_law) (by decide +kernel)) (fun _ _ _ _ _ => (pg_name (i := 12) (x := "at") sc_law.nd rfl (Or.inl rfl))) (fun _ _ _ _ _ => pts_nil) (fun _ _ _ _ _ => (pe_tup (pa_cons (pe_op op_mulW pe_int (pv 12)) (pa_cons (pe_op op_add (pe_op op_mulW pe_int (pv 12)) pe_int) pa_nil))))) (pa_cons (pe_lc (own := [("at", 12)]) rfl sc_law.nd  (pi_range1 rfl T.n_range (pa_cons pe_int pa_nil)) (blkOk_by (N := ["script", "k", "tape", "many", "rows", "more", "one", "two", "told", "due", "few", "wide", "at", "last"]) (sc := defScope s_law) (by decide +kernel)) (fun _ _ _ _ _ => (pg_name (i := 12) (x := "at") sc_law.nd rfl (Or.inl rfl))) (fun _ _ _ _ _ => pts_nil) (fun _ _ _ _ _ => (pe_tup (pa_cons (pe_op op_add (pe_op op_mulW pe_int (pv 12)) pe_int) (pa_cons (pe_op op_add (pe_op op_mulW pe_int (pv 12)) pe_int) pa_nil))))) pa_nil)) rfl)
      (pss_cons (ps_asg (pe_tup (pa_cons (pe_make T.m_ValueSet G_ValueSetU_initU (hr.mono (by decide)) rfl T.g_ValueSet T.b_ValueSetU_initU .nil passFN (pa_cons pe_int (pa_cons (pv 4) pa_nil))) (pa_cons (pe_make T.m_ValueSet G_ValueSetU_initU (hr.mono (by decide)) rfl T.g_ValueSet T.b_ValueSetU_initU .nil passFN (pa_cons pe_int (pa_cons (pv 5) pa_nil))) pa_nil))) (pg_tupK (K := K) (n := 2) rfl rfl (pgs_cons (pg_name (i := 6) (x := "one") sc_law.nd rfl (Or.inr rfl)) (pgs_cons (pg_name (i := 7) (x := "two") sc_law.nd rfl (Or.inr rfl)) pgs_nil))))
      (pss_cons (ps_set (i := 8) sc_law.nd rfl (Or.inl rfl) (pe_lst (pa_cons (pe_call G__law_told (hr.mono (by decide)) rfl T.g__law_told T.F__law_told.kp T.b__law_told .nil pass0 (pa_cons (pe_make T.m_Box G_BoxU_initU (hr.mono (by decide)) rfl T.g_Box T.b_BoxU_initU .nil passFN (pa_cons (pe_lst (pa_cons (pv 6) pa_nil)) pa_nil)) (pa_cons (pe_make T.m_Box G_BoxU_initU (hr.mono (by decide)) rfl T.g_Box T.b_BoxU_initU .nil passFN (pa_cons (pe_lst (pa_cons (pv 7) pa_nil)) pa_nil)) pa_nil))) (pa_cons (pe_call G__law_told (hr.mono (by decide)) rfl T.g__law_told T.F__law_told.kp T.b__law_told .nil pass0 (pa_cons (pe_make T.m_Box G_BoxU_initU (hr.mono (by decide)) rfl T.g_Box T.b_BoxU_initU .nil passFN (pa_cons (pe_lst (pa_cons (pe_make T.m_ValueSet G_ValueSetU_initU (hr.mono (by decide)) rfl T.g_ValueSet T.b_ValueSetU_initU .nil passFN (pa_cons pe_int (pa_cons (pe_lst (pa_cons (pe_tup (pa_cons pe_int (pa_cons pe_int pa_nil))) pa_nil)) pa_nil))) (pa_cons (pv 6) pa_nil))) pa_nil)) (pa_cons (pe_make T.m_Box G_BoxU_initU (hr.mono (by decide)) rfl T.g_Box T.b_BoxU_initU .nil passFN (pa_cons (pe_lst (pa_cons (pv 6) (pa_cons (pv 6) pa_nil))) pa_nil)) pa_nil))) pa_nil))))
      (pss_cons (ps_set (i := 9) sc_law.nd rfl (Or.inl rfl) (pe_callB (cr_sortedPK (K := K) rfl) rfl T.n_sorted (by decide +kernel) (pa_cons (pe_op (op_plusK (K := K) rfl) (pe_lc (own := [("at", 12)]) rfl sc_law.nd  (pi_range1 rfl T.n_range (pa_cons pe_int pa_nil)) (blkOk_by (N := ["script", "k", "tape", "many", "rows", "more", "one", "two", "told", "due", "few", "wide", "at", "last"]) (sc := defScope s_law) (by decide +kernel)) (fun _ _ _ _ _ => (pg_name (i := 12) (x := "at") sc_law.nd rfl (Or.inl rfl))) (fun _ _ _ _ _ => pts_nil) (fun _ _ _ _ _ => (pe_tup (pa_cons (pe_op op_add (pe_op op_mulW pe_int (pv 12)) pe_int) (pa_cons (pe_op op_add (pe_op op_mulW pe_int (pv 12)) pe_int) pa_nil))))) (pe_lc (own := [("at", 12)]) rfl sc_law.nd  (pi_range2 rfl T.n_range (pa_cons pe_int (pa_cons pe_int pa_nil))) (blkOk_by (N := ["script", "k", "tape", "many", "rows", "more", "one", "two", "told", "due", "few", "wide", "at", "last"]) (sc := defScope s_law) (by decide +kernel)) (fun _ _ _ _ _ => (pg_name (i := 12) (x := "at") sc_law.nd rfl (Or.inl rfl))) (fun _ _ _ _ _ => pts_nil) (fun _ _ _ _ _ => (pe_tup (pa_cons (pe_op op_mulW pe_int (pv 12)) (pa_cons (pe_op op_mulW pe_int (pv 12)) pa_nil)))))) pa_nil)))
      (pss_cons (ps_if (pt_cmpR (op_neK (K := K) rfl (hu64 hr)) (pv 8) (pe_lst (pa_cons (pe_lst (pa_cons (pv 9) pa_nil)) (pa_cons pe_str pa_nil))) (nomark _)) (pss_one (ps_ret pe_bl)) pss_nil)
      (pss_cons (ps_set (i := 5) sc_law.nd rfl (Or.inl rfl) (pe_op (op_plusK (K := K) rfl) (pv 5) (pe_lst (pa_cons (pe_tup (pa_cons pe_int (pa_cons pe_int pa_nil))) pa_nil))))
      (pss_cons (ps_set (i := 7) sc_law.nd rfl (Or.inr rfl) (pe_make T.m_ValueSet G_ValueSetU_initU (hr.mono (by decide)) rfl T.g_ValueSet T.b_ValueSetU_initU .nil passFN (pa_cons pe_int (pa_cons (pv 5) pa_nil))))
      (pss_cons (ps_set (i := 8) sc_law.nd rfl (Or.inl rfl) (pe_lst (pa_cons (pe_call G__law_told (hr.mono (by decide)) rfl T.g__law_told T.F__law_told.kp T.b__law_told .nil pass0 (pa_cons (pe_make T.m_Box G_BoxU_initU (hr.mono (by decide)) rfl T.g_Box T.b_BoxU_initU .nil passFN (pa_cons (pe_lst (pa_cons (pv 6) pa_nil)) pa_nil)) (pa_cons (pe_make T.m_Box G_BoxU_initU (hr.mono (by decide)) rfl T.g_Box T.b_BoxU_initU .nil passFN (pa_cons (pe_lst (pa_cons (pv 7) pa_nil)) pa_nil)) pa_nil))) (pa_cons (pe_call G__law_told (hr.mono (by decide)) rfl T.g__law_told T.F__law_told.kp T.b__law_told .nil pass0 (pa_cons (pe_make T.m_Box G_BoxU_initU (hr.mono (by decide)) rfl T.g_Box T.b_BoxU_initU .nil passFN (pa_cons (pe_lst (pa_cons (pv 6) (pa_cons (pv 6) pa_nil))) pa_nil)) (pa_cons (pe_make T.m_Box G_BoxU_initU (hr.mono (by decide)) rfl T.g_Box T.b_BoxU_initU .nil passFN (pa_cons (pe_lst (pa_cons (pv 6) (pa_cons (pv 7) pa_nil))) pa_nil)) pa_nil))) pa_nil))))
      (pss_cons (ps_if (PW.pt (pw_or (pt_cmpR (op_neK (K := K) rfl (hu64 hr)) (pv 8) (pe_lst (pa_cons pe_str (pa_cons pe_str pa_nil))) (nomark _)) (pw_or1 (pt_cmpR (op_neK (K := K) rfl (hu64 hr)) (pe_call G__law_told (hr.mono (by decide)) rfl T.g__law_told T.F__law_told.kp T.b__law_told .nil pass0 (pa_cons (pe_make T.m_Box G_BoxU_initU (hr.mono (by decide)) rfl T.g_Box T.b_BoxU_initU .nil passFN (pa_cons (pe_lst (pa_cons (pv 6) pa_nil)) pa_nil)) (pa_cons (pe_make T.m_Box G_BoxU_initU (hr.mono (by decide)) rfl T.g_Box T.b_BoxU_initU .nil passFN (pa_cons (pe_lst (pa_cons (pe_make T.m_ValueSet G_ValueSetU_initU (hr.mono (by decide)) rfl T.g_ValueSet T.b_ValueSetU_initU .nil passFN (pa_cons pe_int (pa_cons (pv 5) pa_nil))) pa_nil)) pa_nil)) pa_nil))) pe_str (nomark _))))) (pss_one (ps_ret pe_bl)) pss_nil)
      (pss_cons (ps_asg (pe_tup (pa_cons (pe_make T.m_ValueSet G_ValueSetU_initU (hr.mono (by decide)) rfl T.g_ValueSet T.b_ValueSetU_initU .nil passFN (pa_cons pe_int (pa_cons (pe_lst (pa_cons (pe_tup (pa_cons pe_int (pa_cons pe_int pa_nil))) pa_nil)) pa_nil))) (pa_cons (pe_make T.m_ValueSet G_ValueSetU_initU (hr.mono (by decide)) rfl T.g_ValueSet T.b_ValueSetU_initU .nil passFN (pa_cons pe_int (pa_cons (pe_lst (pa_cons (pe_tup (pa_cons pe_int (pa_cons pe_int pa_nil))) pa_nil)) pa_nil))) pa_nil))) (pg_tupK (K := K) (n := 2) rfl rfl (pgs_cons (pg_name (i := 10) (x := "few") sc_law.nd rfl (Or.inr rfl)) (pgs_cons (pg_name (i := 11) (x := "wide") sc_law.nd rfl (Or.inl rfl)) pgs_nil))))
      (pss_one (ps_ret (pe_cmpR (op_eqK (K := K) rfl (hu64 hr)) (pe_lc (own := [("last", 13)]) rfl sc_law.nd  (pi_tupK (K := K) rfl (pe_tup (pa_cons (pv 11) (pa_cons (pv 10) pa_nil)))) (blkOk_by (N := ["script", "k", "tape", "many", "rows", "more", "one", "two", "told", "due", "few", "wide", "at", "last"]) (sc := defScope s_law) (by decide +kernel)) (fun _ _ _ _ _ => (pg_name (i := 13) (x := "last") sc_law.nd rfl (Or.inl rfl))) (fun _ _ _ _ _ => pts_nil) (fun _ _ _ _ _ => (pe_call G__law_told (hr.mono (by decide)) rfl T.g__law_told T.F__law_told.kp T.b__law_told .nil pass0 (pa_cons (pe_make T.m_Box G_BoxU_initU (hr.mono (by decide)) rfl T.g_Box T.b_BoxU_initU .nil passFN (pa_cons (pe_lst (pa_cons (pv 6) (pa_cons (pv 10) pa_nil))) pa_nil)) (pa_cons (pe_make T.m_Box G_BoxU_initU (hr.mono (by decide)) rfl T.g_Box T.b_BoxU_initU .nil passFN (pa_cons (pe_lst (pa_cons (pv 7) (pa_cons (pv 13) pa_nil))) pa_nil)) pa_nil))))) (pe_lst (pa_cons pe_str (pa_cons pe_str pa_nil))) (nomark _))))))))))))))), ?_⟩
  have hu : Up W := fun g g' b o _ w => absurd ⟨g, o, w⟩ (hW b)
  refine s_cut (fun ρ' g' => ∃ s1 s2 s3 : Sl, ρ' = [.v (.scr K ns), s1, s2, s3, .un, .un, .un, .un, .un, .un, .un, .un, .un, .un]) ?_ ?_
  · refine s_for (i_rng1 ?_)
    o_readsAll
    refine c_lenS ?_
    o_readsAll
    refine c_min2 ?_
    o_readsAll
    refine c_max2 ?_
    o_readsAll
    generalize hN : (if (if (ns.length : Int) < 3 then (ns.length : Int) else 3) > 1 then (if (ns.length : Int) < 3 then (ns.length : Int) else 3) else 1) = N
    have N0 : 0 ≤ N ∧ N ≤ 3 := by subst hN; split <;> split <;> omega
    refine ⟨by omega, by omega, fun i ρ' g' => g' ≤ i * 10000 ∧ ∃ s1 s2 s3 : Sl, ρ' = [.v (.scr K ns), s1, s2, s3, .un, .un, .un, .un, .un, .un, .un, .un, .un, .un], ⟨by omega, _, _, _, rfl⟩, ?_, ?_⟩
    · rintro i d ρ' g' hi ⟨hg, s1, s2, s3, rfl⟩
      obtain ⟨hin, rfl⟩ := irs_get hi
      have hi3 : i < 3 := by omega
      rw [Int.zero_add]
      refine g_name (s_seq (s_newT (n_call ?_)))
      o_readsAll
      refine fun W' I => ⟨ns, i, rfl, hi3, fun d m d0 m0 m1 => ⟨[d, m, 0], rfl, ⟨[d, m, 0], rfl, d, m, 0, rfl, d0, m0, m1, Int.le_refl _, by omega⟩, fun p hp => ?_⟩⟩
      refine s_for (i_list (e_lst ?_))
      o_readsAll
      refine fun W' I => nx_o (i := 2) I hu rfl (by decide) (by decide) (by omega) fun r r0 r1 => ?_
      o_readsAll
      refine ⟨fun j ρ' g' => g' ≤ i * 10000 + 1 + j * 3000 ∧ ∃ s3 : Sl, ρ' = [.v (.scr K ns), .v (.int i), .tp p, s3, .un, .un, .un, .un, .un, .un, .un, .un, .un, .un], ⟨by omega, _, rfl⟩, ?_, ?_⟩
      · rintro j d ρ' g' hj ⟨hg2, s3, rfl⟩
        obtain ⟨n, z1, z2, rfl, j3⟩ : ∃ n : Nat, 1 ≤ n ∧ n ≤ 8 ∧ d = .int (n : Int) ∧ j < 3 := by
          rcases three_at hj with ⟨e1, e2⟩ | ⟨e1, e2⟩ | ⟨e1, e2⟩
          · exact ⟨(1 + r).toNat, by omega, by omega, by rw [e2, show (((1 + r).toNat : Nat) : Int) = 1 + r by omega], by omega⟩
          · exact ⟨8, by decide, by decide, e2, by omega⟩
          · exact ⟨2, by decide, by decide, e2, by omega⟩
        refine g_name ?_
        o_readsAll
        refine fun W' I => ⟨p, n, rfl, I.sub.up hu, I.tp p (List.mem_of_getElem? (i := 2) rfl), z1, z2, by omega, ?_⟩
        o_readsAll
        exact ⟨by omega, _, rfl⟩
      · rintro ρ' g'' ⟨hg2, s3, rfl⟩
        have : [D.int (1 + r), .int 8, .int 2].length = 3 := rfl
        exact ⟨by omega, _, _, _, rfl⟩
    · rintro ρ' g' ⟨_, s1, s2, s3, rfl⟩
      exact ⟨_, _, _, rfl⟩
  rintro ρ' g' ⟨s1, s2, s3, rfl⟩
  refine s_seq (s_par (a_cons (e_new (n_map (i_rng1 (a_cons (e_int (a_nil ⟨_, rfl, by decide, by decide, by decide, (fun d => match d with | .int i => .tup [.int (10 * i), .int (10 * i + 5)] | _ => .non), fun d hd => ?_, ?_⟩))))))))
  · obtain ⟨i, hi, rfl⟩ := List.mem_map.mp hd
    have hi : i < 7 := List.mem_range.mp hi
    refine ⟨_, gt_name, ?_⟩
    o_readsAll
    exact ⟨rfl, rfl⟩
  refine a_cons (e_new (n_map (i_rng1 (a_cons (e_int (a_nil ⟨_, rfl, by decide, by decide, by decide, (fun d => match d with | .int i => .tup [.int (10 * i + 5), .int (10 * i + 10)] | _ => .non), fun d hd => ?_, ?_⟩))))))
  · obtain ⟨i, hi, rfl⟩ := List.mem_map.mp hd
    have hi : i < 6 := List.mem_range.mp hi
    refine ⟨_, gt_name, ?_⟩
    o_readsAll
    exact ⟨rfl, rfl⟩
  refine a_nil ⟨_, _, rfl, ?_⟩
  show wpS W H g' [.v (.scr K ns), s1, s2, s3, .v (.lst (prs six1)), .v (.lst (prs six2)), .un, .un, .un, .un, .un, .un, .un, .un] _ _
  refine s_seq (s_asgG (e_tup (a_cons (e_mkSet (a_cons (e_int (a_cons (e_var rfl (a_nil ⟨_, vA, rfl, .v, vA_ok, a_cons (e_mkSet (a_cons (e_int (a_cons (e_var rfl (a_nil ⟨_, vB, rfl, .v, vB_ok, a_nil ⟨_, .cons (.cons .nil), by show 2 ≤ 1000; decide, _, rfl, g_tup2 ?_⟩⟩))))))⟩)))))))))
  show wpS W H g' [.v (.scr K ns), s1, s2, s3, .v (.lst (prs six1)), .v (.lst (prs six2)), .v (vD a vA), .v (vD a vB), .un, .un, .un, .un, .un, .un] _ _
  refine s_seq (s_asg (e_lst (a_cons (e_told (e_box1 (e_var rfl ⟨vA, rfl, _, rfl, by decide, by decide, ok1 vA_ok, e_box1 (e_var rfl ⟨vB, rfl, _, rfl, by decide, ok1 vB_ok, ?_⟩)⟩))))))
  rw [tb1]
  refine a_cons (e_told (e_box2 (e_mkSet (a_cons (e_int (a_cons (e_lst (a_cons (e_tup (a_cons (e_int (a_cons (e_int (a_nil ⟨_, .cons (.cons .nil), by show 2 ≤ 1000; decide, a_nil ⟨_, .cons .nil, by show 1 ≤ 1000; decide, a_nil ⟨_, v3, rfl, .v, v3_ok, v3, rfl, e_var rfl ⟨vA, rfl, ?_⟩⟩⟩⟩))))))))))))))
  refine ⟨_, rfl, by decide, by decide, ok2 v3_ok vA_ok, e_box2 (e_var rfl ⟨vA, rfl, e_var rfl ⟨vA, rfl, _, rfl, by decide, ok2 vA_ok vA_ok, ?_⟩⟩)⟩
  rw [tb2]
  refine a_nil ⟨_, .cons (.cons .nil), by show 2 ≤ 1000; decide, _, rfl, ?_⟩
  show wpS W H g' [.v (.scr K ns), s1, s2, s3, .v (.lst (prs six1)), .v (.lst (prs six2)), .v (vD a vA), .v (vD a vB), .v (.lst [rowsD [(100, c12)], .str "other"]), .un, .un, .un, .un, .un] _ _
  -- sorted
  refine s_seq (s_asg (e_cb (a_cons (e_op (e_new (n_map (i_rng1 (a_cons (e_int (a_nil ⟨_, rfl, by decide, by decide, by decide, (fun d => match d with | .int i => .tup [.int (10 * i + 5), .int (10 * i + 5)] | _ => .non), fun d hd => ?_, ?_⟩))))))))))
  · obtain ⟨i, hi, rfl⟩ := List.mem_map.mp hd
    have hi : i < 6 := List.mem_range.mp hi
    refine ⟨_, gt_name, ?_⟩
    o_readsAll
    exact ⟨rfl, rfl⟩
  refine e_new (n_map (i_rng2 (a_cons (e_int (a_cons (e_int (a_nil ⟨_, _, rfl, by decide, by decide, by decide, by decide, by decide, (fun d => match d with | .int i => .tup [.int (10 * i), .int (10 * i)] | _ => .non), fun d hd => ?_, ?_⟩)))))))
  · obtain ⟨i, hi, rfl⟩ := List.mem_map.mp hd
    have hi : i < 6 := List.mem_range.mp hi
    refine ⟨_, gt_name, ?_⟩
    o_readsAll
    exact ⟨rfl, rfl⟩
  refine p_cat .v .v (by show 6 + 6 ≤ 1000000; decide) (a_nil (c_sortedP (ps := fives ++ tens) .v fun qs hp hs => ?_))
  have eq : qs = c12 := lex_uniq (hp.trans (by decide +kernel)) hs (by decide +kernel)
  subst eq
  refine ⟨_, rfl, ?_⟩
  show wpS W H g' [.v (.scr K ns), s1, s2, s3, .v (.lst (prs six1)), .v (.lst (prs six2)), .v (vD a vA), .v (vD a vB), .v (.lst [rowsD [(100, c12)], .str "other"]), .v (.lst (prs c12)), .un, .un, .un, .un] _ _
  have pl1 : Pl 5 (.lst [rowsD [(100, c12)], .str "other"]) := .lst fun d hd => by
    simp only [List.mem_cons, List.not_mem_nil, or_false] at hd
    rcases hd with rfl | rfl
    · exact pl_rows (n := 1) _
    · exact .str
  have pl2 : ∀ s t : Str, Pl 1 (.lst [.str s, .str t]) := fun s t => .lst fun d hd => by
    simp only [List.mem_cons, List.not_mem_nil, or_false] at hd
    rcases hd with rfl | rfl <;> exact .str
  refine s_seq (s_if (t_test (e_op (e_var rfl (e_lst (a_cons (e_lst (a_cons (e_var rfl (a_nil ⟨_, .cons .nil, by show 1 ≤ 1000; decide, a_cons (e_str (a_nil ⟨_, .cons (.cons .nil), by show 2 ≤ 1000; decide, p_neSelf pl1 (by decide) ⟨_, rfl, (fun z => nomatch z), fun _ => s_next ?_⟩⟩))⟩))))))))))
  refine s_seq (s_asg (e_op (e_var rfl (e_lst (a_cons (e_tup (a_cons (e_int (a_cons (e_int (a_nil ⟨_, .cons (.cons .nil), by show 2 ≤ 1000; decide, a_nil ⟨_, .cons .nil, by show 1 ≤ 1000; decide, p_cat .v .v (by show 6 + 1 ≤ 1000000; decide) ⟨_, rfl, ?_⟩⟩⟩)))))))))))
  show wpS W H g' [.v (.scr K ns), s1, s2, s3, .v (.lst (prs six1)), .v (.lst (prs six3)), .v (vD a vA), .v (vD a vB), .v (.lst [rowsD [(100, c12)], .str "other"]), .v (.lst (prs c12)), .un, .un, .un, .un] _ _
  refine s_seq (s_asg (e_mkSet (a_cons (e_int (a_cons (e_var rfl (a_nil ⟨_, vC, rfl, .v, vC_ok, _, rfl, ?_⟩)))))))
  show wpS W H g' [.v (.scr K ns), s1, s2, s3, .v (.lst (prs six1)), .v (.lst (prs six3)), .v (vD a vA), .v (vD a vC), .v (.lst [rowsD [(100, c12)], .str "other"]), .v (.lst (prs c12)), .un, .un, .un, .un] _ _
  refine s_seq (s_asg (e_lst (a_cons (e_told (e_box1 (e_var rfl ⟨vA, rfl, _, rfl, by decide, by decide, ok1 vA_ok, e_box1 (e_var rfl ⟨vC, rfl, _, rfl, by decide, ok1 vC_ok, ?_⟩)⟩))))))
  rw [tb3]
  refine a_cons (e_told (e_box2 (e_var rfl ⟨vA, rfl, e_var rfl ⟨vA, rfl, _, rfl, by decide, by decide, ok2 vA_ok vA_ok, e_box2 (e_var rfl ⟨vA, rfl, e_var rfl ⟨vC, rfl, _, rfl, by decide, ok2 vA_ok vC_ok, ?_⟩⟩)⟩⟩)))
  rw [tb4]
  refine a_nil ⟨_, .cons (.cons .nil), by show 2 ≤ 1000; decide, _, rfl, ?_⟩
  show wpS W H g' [.v (.scr K ns), s1, s2, s3, .v (.lst (prs six1)), .v (.lst (prs six3)), .v (vD a vA), .v (vD a vC), .v (.lst [.str "many", .str "many"]), .v (.lst (prs c12)), .un, .un, .un, .un] _ _
  refine s_seq (s_if (t_or (t_test (e_op (e_var rfl (e_lst (a_cons (e_str (a_cons (e_str (a_nil ⟨_, .cons (.cons .nil), by show 2 ≤ 1000; decide, p_neSelf (pl2 _ _) (by decide) ⟨_, rfl, (fun z => nomatch z), fun _ => ?_⟩⟩)))))))))))
  refine t_test (e_op (e_told (e_box1 (e_var rfl ⟨vA, rfl, _, rfl, by decide, by decide, ok1 vA_ok, e_box1 (e_mkSet (a_cons (e_int (a_cons (e_var rfl (a_nil ⟨_, vE, rfl, .v, vE_ok, vE, rfl, _, rfl, by decide, ok1 vE_ok, ?_⟩))))))⟩))))
  rw [tb5]
  refine e_str (p_neSelf (n := 1) .str (by decide) ⟨_, rfl, (fun z => nomatch z), fun _ => s_next ?_⟩)
  have ez : ∀ (v : VSt) (kk : Rs → Nat → Prop) (g2 : Nat) (te : TE), True := fun _ _ _ _ => trivial
  refine s_seq (s_asgG (e_tup (a_cons (e_mkSet (a_cons (e_int (a_cons (e_lst (a_cons (e_tup (a_cons (e_int (a_cons (e_int (a_nil ⟨_, .cons (.cons .nil), by show 2 ≤ 1000; decide, a_nil ⟨_, .cons .nil, by show 1 ≤ 1000; decide, a_nil ⟨_, v3, rfl, .v, v3_ok, ?_⟩⟩⟩)))))))))))))))
  refine a_cons (e_mkSet (a_cons (e_int (a_cons (e_lst (a_cons (e_tup (a_cons (e_int (a_cons (e_int (a_nil ⟨_, .cons (.cons .nil), by show 2 ≤ 1000; decide, a_nil ⟨_, .cons .nil, by show 1 ≤ 1000; decide, a_nil ⟨_, v4, rfl, .v, v4_ok, a_nil ⟨_, .cons (.cons .nil), by show 2 ≤ 1000; decide, _, rfl, g_tup2 ?_⟩⟩⟩⟩))))))))))))
  show wpS W H g' [.v (.scr K ns), s1, s2, s3, .v (.lst (prs six1)), .v (.lst (prs six3)), .v (vD a vA), .v (vD a vC), .v (.lst [.str "many", .str "many"]), .v (.lst (prs c12)), .v (vD a v3), .v (vD a v4), .un, .un] _ _
  refine s_ret (e_op (e_new (n_lc (i_tup (e_tup (a_cons (e_var rfl (a_cons (e_var rfl (a_nil ⟨_, .cons (.cons .nil), by show 2 ≤ 1000; decide, _, rfl, by show 2 ≤ 1000000; decide, fun t acc g2 => g2 = g' ∧ acc = [D.str "other", .str "many"].take t, ⟨rfl, rfl⟩, ?_, ?_⟩))))))))))
  · rintro t d acc g2 ht ⟨rfl, rfl⟩
    obtain ⟨v, w, hd, hv, htb, hacc⟩ : ∃ (v : VSt) (w : Str), d = vD a v ∧ VOk v ∧ toldB [vA, v3] [vC, v] = .str w ∧ [D.str "other", .str "many"].take t ++ [.str w] = [D.str "other", .str "many"].take (t + 1) := by
      match t, ht with
      | 0, ht => cases ht; exact ⟨v4, _, rfl, v4_ok, tb6, rfl⟩
      | 1, ht => cases ht; exact ⟨v3, _, rfl, v3_ok, tb7, rfl⟩
    subst hd
    refine ⟨_, gt_name, t_yes ⟨fun _ => e_told (e_box2 (e_var rfl ⟨vA, rfl, e_var rfl ⟨v3, rfl, _, rfl, by decide, by decide, ok2 vA_ok v3_ok, e_box2 (e_var rfl ⟨vC, rfl, e_var rfl ⟨v, rfl, _, rfl, (by show 2 ≤ 8; decide), ok2 vC_ok hv, ?_⟩⟩)⟩⟩)), fun z => nomatch z⟩⟩
    rw [htb]
    exact ⟨_, rfl, rfl, hacc⟩
  rintro acc g2 ⟨rfl, rfl⟩
  exact e_lst (a_cons (e_str (a_cons (e_str (a_nil ⟨_, .cons (.cons .nil), by show 2 ≤ 1000; decide, p_eqSelf (pl2 "other" "many") (by decide) ⟨_, rfl, k g2⟩⟩)))))
end
end TL
set_option Elab.async false
set_option linter.all false
set_option maxRecDepth 100000
namespace TL
open PySem PySem.Spec L2
theorem loose_int {lv : List (Str × PySem.W.WData)} {mg : Str → Option Value} {h : Heap} {x : Str} {n : Int} (X : PySem.W.LooseAre lv mg h) (m : (x, PySem.W.WData.int n) ∈ lv) : ∃ t, mg x = some (.int n t) := by
  obtain ⟨v, e, r⟩ := X.val _ m
  cases r
  exact ⟨_, e⟩
def Bd (fd : FuncData) : Prop := ∀ (s : Shared) (v : Value), BindsTo s fd ⟨[v], []⟩ [("script", v)]
end TL
open PySem PySem.W PyProof.Rows
set_option maxRecDepth 100000 in
set_option maxHeartbeats 0 in
theorem PySem.Challenge.cw_scanranges_k06_boxes_put_together_holds : PySem.Challenge.rw_scanranges_k06_boxes_put_together.Holds := by
  w_on; o_law; k_head; (case hw => w_witness2)
  k_fill
  refine TL.end_walk (l := PySem.Challenge.rw_scanranges_k06_boxes_put_together) (n := 63) (k := 11) (x := "script") (sq := fun w => TL.mkSp (TL.lawC (0 : Nat) _)) rfl (by decide) rfl ⟨rfl, by decide, by decide⟩ (fun w h Y => PySem.W.kIn_of Y) ?F (fun w H a ns hl hO hS => TL.law_sp hl hO hS)
  case F =>
    intro w mg fa h KX XX G hmg
    suffices hs : ∃ a : TL.Ad, TL.Tx _ mg a ∧ a.f_law = fa ∧ TL.Bd a.d_law by
      obtain ⟨a, T, e, b⟩ := hs
      subst e
      exact ⟨a.d_law, b, fun base _ _ => TL.FnG.of (TL.ok_law T)⟩
    refine' TL.all_tx KX G hmg ?n_ValueError ?n_abs ?n_all ?n_any ?n_bool ?n_int ?n_isinstance ?n_len ?n_list ?n_max ?n_min ?n_range ?n_set ?n_sorted ?n_tuple ?n_zip ?c_GREATEST_SIZE ?c_MOST_COLUMNS ?c_MOST_STRETCHES ?aC_ValueSet ?aC_Box ?aC_InvalidSet ?aC_OtherSizes ?aC_TooMany ?aC_InvalidBox ?aC_ScanError ?aC_InvalidCondition ?aC_InvalidTable ?aC_InvalidWish ?aC_InvalidBoxes ?aC_InvalidText ?aC_AlreadyThere ?aC_InvalidSizes ?aC_NotThere ?aC_NothingToUndo ?aC_InvalidOrder ?aC_InvalidKey ?aC_InvalidNumber ?aC_EmptyBox ?a_is_integer ?l_is_integer ?c_is_integer ?k_is_integer ?a_is_size ?l_is_size ?c_is_size ?k_is_size ?a_are_stretches ?l_are_stretches ?c_are_stretches ?k_are_stretches ?a__is_stretch ?l__is_stretch ?c__is_stretch ?k__is_stretch ?a_ValueSetU_initU ?i_ValueSetU_initU ?mk_ValueSet ?kc_ValueSet ?l_ValueSetU_initU ?c_ValueSetU_initU ?k_ValueSetU_initU ?a_ValueSet_size ?pg_ValueSet_size ?pt_ValueSet_size ?pr_ValueSet_size ?l_ValueSet_size ?c_ValueSet_size ?k_ValueSet_size ?a_ValueSet_stretches ?pg_ValueSet_stretches ?pt_ValueSet_stretches ?pr_ValueSet_stretches ?l_ValueSet_stretches ?c_ValueSet_stretches ?k_ValueSet_stretches ?a_ValueSetU_eqU ?i_ValueSetU_eqU ?ne_ValueSet ?l_ValueSetU_eqU ?c_ValueSetU_eqU ?k_ValueSetU_eqU ?a_ValueSetU_containsU ?i_ValueSetU_containsU ?l_ValueSetU_containsU ?c_ValueSetU_containsU ?k_ValueSetU_containsU ?a_ValueSetU_andU ?i_ValueSetU_andU ?sf_ValueSetU_andU ?rr_ValueSetU_andU ?l_ValueSetU_andU ?c_ValueSetU_andU ?k_ValueSetU_andU ?a_ValueSetUcheck ?i_ValueSetUcheck ?l_ValueSetUcheck ?c_ValueSetUcheck ?k_ValueSetUcheck ?a__limited ?l__limited ?c__limited ?k__limited ?a__common ?l__common ?c__common ?k__common ?a_BoxU_initU ?i_BoxU_initU ?mk_Box ?kc_Box ?l_BoxU_initU ?c_BoxU_initU ?k_BoxU_initU ?a_Box_sets ?pg_Box_sets ?pt_Box_sets ?pr_Box_sets ?l_Box_sets ?c_Box_sets ?k_Box_sets ?a_Box_sizes ?pg_Box_sizes ?pt_Box_sizes ?pr_Box_sizes ?l_Box_sizes ?c_Box_sizes ?k_Box_sizes ?a_BoxU_eqU ?i_BoxU_eqU ?ne_Box ?l_BoxU_eqU ?c_BoxU_eqU ?k_BoxU_eqU ?a_BoxU_containsU ?i_BoxU_containsU ?l_BoxU_containsU ?c_BoxU_containsU ?k_BoxU_containsU ?a_BoxU_andU ?i_BoxU_andU ?sf_BoxU_andU ?rr_BoxU_andU ?l_BoxU_andU ?c_BoxU_andU ?k_BoxU_andU ?a__are_sets ?l__are_sets ?c__are_sets ?k__are_sets ?a__law_tape ?l__law_tape ?c__law_tape ?k__law_tape ?a__law_next ?l__law_next ?c__law_next ?k__law_next ?a__law_great ?l__law_great ?c__law_great ?k__law_great ?a__law_kind ?l__law_kind ?c__law_kind ?k__law_kind ?a__law_size ?l__law_size ?c__law_size ?k__law_size ?a__law_filled ?l__law_filled ?c__law_filled ?k__law_filled ?a__law_told ?l__law_told ?c__law_told ?k__law_told ?a__law_common ?l__law_common ?c__law_common ?k__law_common ?a__law_right ?l__law_right ?c__law_right ?k__law_right ?a_law ?l_law ?c_law ?k_law ?pg_ValueSet ?hd_ValueSet ?po_ValueSet ?sa_ValueSet ?ha_ValueSet ?hn_ValueSet ?ht_ValueSet ?hm_ValueSet ?na_ValueSet__size ?na_ValueSet__stretches ?ki_ValueSet_int ?ki_ValueSet_bool ?ki_ValueSet_list ?ki_ValueSet_tuple ?ty_ValueSet ?sf_ValueSet ?sp_ValueSet_Box ?pg_Box ?hd_Box ?po_Box ?sa_Box ?ha_Box ?hn_Box ?ht_Box ?hm_Box ?na_Box__sets ?ki_Box_int ?ki_Box_bool ?ki_Box_list ?ki_Box_tuple ?ty_Box ?sf_Box ?sp_Box_ValueSet ?k_InvalidSet ?x_InvalidSet ?xb_InvalidSet ?xt_InvalidSet ?xs_InvalidSet ?xd_InvalidSet ?k_OtherSizes ?x_OtherSizes ?xb_OtherSizes ?xt_OtherSizes ?xs_OtherSizes ?xd_OtherSizes ?k_TooMany ?x_TooMany ?xb_TooMany ?xt_TooMany ?xs_TooMany ?xd_TooMany ?k_InvalidBox ?x_InvalidBox ?xb_InvalidBox ?xt_InvalidBox ?xs_InvalidBox ?xd_InvalidBox ?k_ScanError ?x_ScanError ?xb_ScanError ?xt_ScanError ?xs_ScanError ?xd_ScanError ?ba_ValueSet_and_Box ?br_ValueSet_and_Box ?bf_ValueSet_and_Box ?ba_Box_and_ValueSet ?br_Box_and_ValueSet ?bf_Box_and_ValueSet ?hn_exc ?ht_exc ?xd_InvalidCondition ?xt_InvalidCondition ?xd_InvalidTable ?xt_InvalidTable ?xd_InvalidWish ?xt_InvalidWish ?xd_InvalidBoxes ?xt_InvalidBoxes ?xd_InvalidText ?xt_InvalidText ?xd_AlreadyThere ?xt_AlreadyThere ?xd_InvalidSizes ?xt_InvalidSizes ?xd_NotThere ?xt_NotThere ?xd_NothingToUndo ?xt_NothingToUndo ?xd_InvalidOrder ?xt_InvalidOrder ?xd_InvalidKey ?xt_InvalidKey ?xd_InvalidNumber ?xt_InvalidNumber ?xd_EmptyBox ?xt_EmptyBox ?eg_InvalidBox ?ek_InvalidBox ?ea_InvalidBox ?em_InvalidBox ?ev_InvalidBox ?ess_InvalidBox ?eg_OtherSizes ?ek_OtherSizes ?ea_OtherSizes ?em_OtherSizes ?ev_OtherSizes ?ess_OtherSizes ?eg_TooMany ?ek_TooMany ?ea_TooMany ?em_TooMany ?ev_TooMany ?ess_TooMany ?sx_InvalidBox_InvalidCondition ?sx_InvalidBox_InvalidTable ?sx_InvalidBox_InvalidWish ?sx_InvalidBox_InvalidBoxes ?sx_InvalidBox_InvalidText ?sx_InvalidBox_AlreadyThere ?sx_InvalidBox_InvalidSizes ?sx_InvalidBox_InvalidSet ?sx_InvalidBox_NotThere ?sx_InvalidBox_NothingToUndo ?sx_InvalidBox_InvalidOrder ?sx_InvalidBox_InvalidKey ?sx_InvalidBox_InvalidNumber ?sx_InvalidBox_OtherSizes ?sx_InvalidBox_EmptyBox ?sx_InvalidBox_TooMany ?sx_OtherSizes_InvalidCondition ?sx_OtherSizes_InvalidTable ?sx_OtherSizes_InvalidWish ?sx_OtherSizes_InvalidBoxes ?sx_OtherSizes_InvalidText ?sx_OtherSizes_AlreadyThere ?sx_OtherSizes_InvalidSizes ?sx_OtherSizes_InvalidSet ?sx_OtherSizes_InvalidBox ?sx_OtherSizes_NotThere ?sx_OtherSizes_NothingToUndo ?sx_OtherSizes_InvalidOrder ?sx_OtherSizes_InvalidKey ?sx_OtherSizes_InvalidNumber ?sx_OtherSizes_EmptyBox ?sx_OtherSizes_TooMany ?sx_TooMany_InvalidCondition ?sx_TooMany_InvalidTable ?sx_TooMany_InvalidWish ?sx_TooMany_InvalidBoxes ?sx_TooMany_InvalidText ?sx_TooMany_AlreadyThere ?sx_TooMany_InvalidSizes ?sx_TooMany_InvalidSet ?sx_TooMany_InvalidBox ?sx_TooMany_NotThere ?sx_TooMany_NothingToUndo ?sx_TooMany_InvalidOrder ?sx_TooMany_InvalidKey ?sx_TooMany_InvalidNumber ?sx_TooMany_OtherSizes ?sx_TooMany_EmptyBox
    (case n_ValueError => k_is)
    (case n_abs => k_is)
    (case n_all => k_is)
    (case n_any => k_is)
    (case n_bool => k_is)
    (case n_int => k_is)
    (case n_isinstance => k_is)
    (case n_len => k_is)
    (case n_list => k_is)
    (case n_max => k_is)
    (case n_min => k_is)
    (case n_range => k_is)
    (case n_set => k_is)
    (case n_sorted => k_is)
    (case n_tuple => k_is)
    (case n_zip => k_is)
    (case c_GREATEST_SIZE => k_is)
    (case c_MOST_COLUMNS => k_is)
    (case c_MOST_STRETCHES => k_is)
    (case aC_ValueSet => k_is)
    (case aC_Box => k_is)
    (case aC_InvalidSet => k_is)
    (case aC_OtherSizes => k_is)
    (case aC_TooMany => k_is)
    (case aC_InvalidBox => k_is)
    (case aC_ScanError => k_is)
    (case aC_InvalidCondition => k_is)
    (case aC_InvalidTable => k_is)
    (case aC_InvalidWish => k_is)
    (case aC_InvalidBoxes => k_is)
    (case aC_InvalidText => k_is)
    (case aC_AlreadyThere => k_is)
    (case aC_InvalidSizes => k_is)
    (case aC_NotThere => k_is)
    (case aC_NothingToUndo => k_is)
    (case aC_InvalidOrder => k_is)
    (case aC_InvalidKey => k_is)
    (case aC_InvalidNumber => k_is)
    (case aC_EmptyBox => k_is)
    (case a_is_integer => k_is)
    (case l_is_integer => k_is)
    (case c_is_integer => k_is)
    (case k_is_integer => k_is)
    (case a_is_size => k_is)
    (case l_is_size => k_is)
    (case c_is_size => k_is)
    (case k_is_size => k_is)
    (case a_are_stretches => k_is)
    (case l_are_stretches => k_is)
    (case c_are_stretches => k_is)
    (case k_are_stretches => k_is)
    (case a__is_stretch => k_is)
    (case l__is_stretch => k_is)
    (case c__is_stretch => k_is)
    (case k__is_stretch => k_is)
    (case a_ValueSetU_initU => k_is)
    (case i_ValueSetU_initU => k_is)
    (case mk_ValueSet => k_is)
    (case kc_ValueSet => k_is)
    (case l_ValueSetU_initU => k_is)
    (case c_ValueSetU_initU => k_is)
    (case k_ValueSetU_initU => k_is)
    (case a_ValueSet_size => k_is)
    (case pg_ValueSet_size => k_is)
    (case pt_ValueSet_size => k_is)
    (case pr_ValueSet_size => k_is)
    (case l_ValueSet_size => k_is)
    (case c_ValueSet_size => k_is)
    (case k_ValueSet_size => k_is)
    (case a_ValueSet_stretches => k_is)
    (case pg_ValueSet_stretches => k_is)
    (case pt_ValueSet_stretches => k_is)
    (case pr_ValueSet_stretches => k_is)
    (case l_ValueSet_stretches => k_is)
    (case c_ValueSet_stretches => k_is)
    (case k_ValueSet_stretches => k_is)
    (case a_ValueSetU_eqU => k_is)
    (case i_ValueSetU_eqU => k_is)
    (case ne_ValueSet => k_is)
    (case l_ValueSetU_eqU => k_is)
    (case c_ValueSetU_eqU => k_is)
    (case k_ValueSetU_eqU => k_is)
    (case a_ValueSetU_containsU => k_is)
    (case i_ValueSetU_containsU => k_is)
    (case l_ValueSetU_containsU => k_is)
    (case c_ValueSetU_containsU => k_is)
    (case k_ValueSetU_containsU => k_is)
    (case a_ValueSetU_andU => k_is)
    (case i_ValueSetU_andU => k_is)
    (case sf_ValueSetU_andU => k_is)
    (case rr_ValueSetU_andU => k_is)
    (case l_ValueSetU_andU => k_is)
    (case c_ValueSetU_andU => k_is)
    (case k_ValueSetU_andU => k_is)
    (case a_ValueSetUcheck => k_is)
    (case i_ValueSetUcheck => k_is)
    (case l_ValueSetUcheck => k_is)
    (case c_ValueSetUcheck => k_is)
    (case k_ValueSetUcheck => k_is)
    (case a__limited => k_is)
    (case l__limited => k_is)
    (case c__limited => k_is)
    (case k__limited => k_is)
    (case a__common => k_is)
    (case l__common => k_is)
    (case c__common => k_is)
    (case k__common => k_is)
    (case a_BoxU_initU => k_is)
    (case i_BoxU_initU => k_is)
    (case mk_Box => k_is)
    (case kc_Box => k_is)
    (case l_BoxU_initU => k_is)
    (case c_BoxU_initU => k_is)
    (case k_BoxU_initU => k_is)
    (case a_Box_sets => k_is)
    (case pg_Box_sets => k_is)
    (case pt_Box_sets => k_is)
    (case pr_Box_sets => k_is)
    (case l_Box_sets => k_is)
    (case c_Box_sets => k_is)
    (case k_Box_sets => k_is)
    (case a_Box_sizes => k_is)
    (case pg_Box_sizes => k_is)
    (case pt_Box_sizes => k_is)
    (case pr_Box_sizes => k_is)
    (case l_Box_sizes => k_is)
    (case c_Box_sizes => k_is)
    (case k_Box_sizes => k_is)
    (case a_BoxU_eqU => k_is)
    (case i_BoxU_eqU => k_is)
    (case ne_Box => k_is)
    (case l_BoxU_eqU => k_is)
    (case c_BoxU_eqU => k_is)
    (case k_BoxU_eqU => k_is)
    (case a_BoxU_containsU => k_is)
    (case i_BoxU_containsU => k_is)
    (case l_BoxU_containsU => k_is)
    (case c_BoxU_containsU => k_is)
    (case k_BoxU_containsU => k_is)
    (case a_BoxU_andU => k_is)
    (case i_BoxU_andU => k_is)
    (case sf_BoxU_andU => k_is)
    (case rr_BoxU_andU => k_is)
    (case l_BoxU_andU => k_is)
    (case c_BoxU_andU => k_is)
    (case k_BoxU_andU => k_is)
    (case a__are_sets => k_is)
    (case l__are_sets => k_is)
    (case c__are_sets => k_is)
    (case k__are_sets => k_is)
    (case a__law_tape => k_is)
    (case l__law_tape => k_is)
    (case c__law_tape => k_is)
    (case k__law_tape => k_is)
    (case a__law_next => k_is)
    (case l__law_next => k_is)
    (case c__law_next => k_is)
    (case k__law_next => k_is)
    (case a__law_great => k_is)
    (case l__law_great => k_is)
    (case c__law_great => k_is)
    (case k__law_great => k_is)
    (case a__law_kind => k_is)
    (case l__law_kind => k_is)
    (case c__law_kind => k_is)
    (case k__law_kind => k_is)
    (case a__law_size => k_is)
    (case l__law_size => k_is)
    (case c__law_size => k_is)
    (case k__law_size => k_is)
    (case a__law_filled => k_is)
    (case l__law_filled => k_is)
    (case c__law_filled => k_is)
    (case k__law_filled => k_is)
    (case a__law_told => k_is)
    (case l__law_told => k_is)
    (case c__law_told => k_is)
    (case k__law_told => k_is)
    (case a__law_common => k_is)
    (case l__law_common => k_is)
    (case c__law_common => k_is)
    (case k__law_common => k_is)
    (case a__law_right => k_is)
    (case l__law_right => k_is)
    (case c__law_right => k_is)
    (case k__law_right => k_is)
    (case a_law => k_is)
    (case l_law => k_is)
    (case c_law => k_is)
    (case k_law => k_is)
    (case pg_ValueSet => k_is)
    (case hd_ValueSet => k_is)
    (case po_ValueSet => k_is)
    (case sa_ValueSet => k_is)
    (case ha_ValueSet => k_is)
    (case hn_ValueSet => k_is)
    (case ht_ValueSet => k_is)
    (case hm_ValueSet => k_is)
    (case na_ValueSet__size => k_is)
    (case na_ValueSet__stretches => k_is)
    (case ki_ValueSet_int => k_is)
    (case ki_ValueSet_bool => k_is)
    (case ki_ValueSet_list => k_is)
    (case ki_ValueSet_tuple => k_is)
    (case ty_ValueSet => k_is)
    (case sf_ValueSet => k_is)
    (case sp_ValueSet_Box => k_is)
    (case pg_Box => k_is)
    (case hd_Box => k_is)
    (case po_Box => k_is)
    (case sa_Box => k_is)
    (case ha_Box => k_is)
    (case hn_Box => k_is)
    (case ht_Box => k_is)
    (case hm_Box => k_is)
    (case na_Box__sets => k_is)
    (case ki_Box_int => k_is)
    (case ki_Box_bool => k_is)
    (case ki_Box_list => k_is)
    (case ki_Box_tuple => k_is)
    (case ty_Box => k_is)
    (case sf_Box => k_is)
    (case sp_Box_ValueSet => k_is)
    (case k_InvalidSet => k_is)
    (case x_InvalidSet => first | k_exc | k_is)
    (case xb_InvalidSet => k_is)
    (case xt_InvalidSet => k_is)
    (case xs_InvalidSet => k_is)
    (case xd_InvalidSet => k_is)
    (case k_OtherSizes => k_is)
    (case x_OtherSizes => first | k_exc | k_is)
    (case xb_OtherSizes => k_is)
    (case xt_OtherSizes => k_is)
    (case xs_OtherSizes => k_is)
    (case xd_OtherSizes => k_is)
    (case k_TooMany => k_is)
    (case x_TooMany => first | k_exc | k_is)
    (case xb_TooMany => k_is)
    (case xt_TooMany => k_is)
    (case xs_TooMany => k_is)
    (case xd_TooMany => k_is)
    (case k_InvalidBox => k_is)
    (case x_InvalidBox => first | k_exc | k_is)
    (case xb_InvalidBox => k_is)
    (case xt_InvalidBox => k_is)
    (case xs_InvalidBox => k_is)
    (case xd_InvalidBox => k_is)
    (case k_ScanError => k_is)
    (case x_ScanError => first | k_exc | k_is)
    (case xb_ScanError => k_is)
    (case xt_ScanError => k_is)
    (case xs_ScanError => k_is)
    (case xd_ScanError => k_is)
    (case ba_ValueSet_and_Box => k_is)
    (case br_ValueSet_and_Box => k_is)
    (case bf_ValueSet_and_Box => k_is)
    (case ba_Box_and_ValueSet => k_is)
    (case br_Box_and_ValueSet => k_is)
    (case bf_Box_and_ValueSet => k_is)
    (case hn_exc => k_is)
    (case ht_exc => k_is)
    (case xd_InvalidCondition => k_is)
    (case xt_InvalidCondition => k_is)
    (case xd_InvalidTable => k_is)
    (case xt_InvalidTable => k_is)
    (case xd_InvalidWish => k_is)
    (case xt_InvalidWish => k_is)
    (case xd_InvalidBoxes => k_is)
    (case xt_InvalidBoxes => k_is)
    (case xd_InvalidText => k_is)
    (case xt_InvalidText => k_is)
    (case xd_AlreadyThere => k_is)
    (case xt_AlreadyThere => k_is)
    (case xd_InvalidSizes => k_is)
    (case xt_InvalidSizes => k_is)
    (case xd_NotThere => k_is)
    (case xt_NotThere => k_is)
    (case xd_NothingToUndo => k_is)
    (case xt_NothingToUndo => k_is)
    (case xd_InvalidOrder => k_is)
    (case xt_InvalidOrder => k_is)
    (case xd_InvalidKey => k_is)
    (case xt_InvalidKey => k_is)
    (case xd_InvalidNumber => k_is)
    (case xt_InvalidNumber => k_is)
    (case xd_EmptyBox => k_is)
    (case xt_EmptyBox => k_is)
    (case eg_InvalidBox => k_is)
    (case ek_InvalidBox => k_is)
    (case ea_InvalidBox => k_is)
    (case em_InvalidBox => k_is)
    (case ev_InvalidBox => k_is)
    (case ess_InvalidBox => k_is)
    (case eg_OtherSizes => k_is)
    (case ek_OtherSizes => k_is)
    (case ea_OtherSizes => k_is)
    (case em_OtherSizes => k_is)
    (case ev_OtherSizes => k_is)
    (case ess_OtherSizes => k_is)
    (case eg_TooMany => k_is)
    (case ek_TooMany => k_is)
    (case ea_TooMany => k_is)
    (case em_TooMany => k_is)
    (case ev_TooMany => k_is)
    (case ess_TooMany => k_is)
    (case sx_InvalidBox_InvalidCondition => k_is)
    (case sx_InvalidBox_InvalidTable => k_is)
    (case sx_InvalidBox_InvalidWish => k_is)
    (case sx_InvalidBox_InvalidBoxes => k_is)
    (case sx_InvalidBox_InvalidText => k_is)
    (case sx_InvalidBox_AlreadyThere => k_is)
    (case sx_InvalidBox_InvalidSizes => k_is)
    (case sx_InvalidBox_InvalidSet => k_is)
    (case sx_InvalidBox_NotThere => k_is)
    (case sx_InvalidBox_NothingToUndo => k_is)
    (case sx_InvalidBox_InvalidOrder => k_is)
    (case sx_InvalidBox_InvalidKey => k_is)
    (case sx_InvalidBox_InvalidNumber => k_is)
    (case sx_InvalidBox_OtherSizes => k_is)
    (case sx_InvalidBox_EmptyBox => k_is)
    (case sx_InvalidBox_TooMany => k_is)
    (case sx_OtherSizes_InvalidCondition => k_is)
    (case sx_OtherSizes_InvalidTable => k_is)
    (case sx_OtherSizes_InvalidWish => k_is)
    (case sx_OtherSizes_InvalidBoxes => k_is)
    (case sx_OtherSizes_InvalidText => k_is)
    (case sx_OtherSizes_AlreadyThere => k_is)
    (case sx_OtherSizes_InvalidSizes => k_is)
    (case sx_OtherSizes_InvalidSet => k_is)
    (case sx_OtherSizes_InvalidBox => k_is)
    (case sx_OtherSizes_NotThere => k_is)
    (case sx_OtherSizes_NothingToUndo => k_is)
    (case sx_OtherSizes_InvalidOrder => k_is)
    (case sx_OtherSizes_InvalidKey => k_is)
    (case sx_OtherSizes_InvalidNumber => k_is)
    (case sx_OtherSizes_EmptyBox => k_is)
    (case sx_OtherSizes_TooMany => k_is)
    (case sx_TooMany_InvalidCondition => k_is)
    (case sx_TooMany_InvalidTable => k_is)
    (case sx_TooMany_InvalidWish => k_is)
    (case sx_TooMany_InvalidBoxes => k_is)
    (case sx_TooMany_InvalidText => k_is)
    (case sx_TooMany_AlreadyThere => k_is)
    (case sx_TooMany_InvalidSizes => k_is)
    (case sx_TooMany_InvalidSet => k_is)
    (case sx_TooMany_InvalidBox => k_is)
    (case sx_TooMany_NotThere => k_is)
    (case sx_TooMany_NothingToUndo => k_is)
    (case sx_TooMany_InvalidOrder => k_is)
    (case sx_TooMany_InvalidKey => k_is)
    (case sx_TooMany_InvalidNumber => k_is)
    (case sx_TooMany_OtherSizes => k_is)
    (case sx_TooMany_EmptyBox => k_is)
