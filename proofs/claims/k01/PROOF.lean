import PyProof.Rows.All
import Wide.All
import OpenK.AllK
import Wide.FinOn
import HandS.ForMost
import HandS.ForExc
import HandS.CallSlots
import HandS.Flow
import HandS.StrMore
import HandS.IsInst
import PySem.Challenge.RW_wayfill_k01_places_of_a_part
set_option Elab.async false
set_option linter.all false
set_option maxRecDepth 100000
/-! Data, worlds, what is left behind. -/
namespace Wf
open PySem PySem.Spec PyProof.Rows L2

/-- what a value is worth: data is deep; `ref i` is the live cell i -/
inductive D where
  | non | bl (b : Bool) | int (i : Int) | str (s : Str) | ty (n : String) | rf (a : Addr)
  | wl (l : List Int)
  | lst (l : List D) | tup (l : List D)
  | dct (ks : List Key) (vs : List D)
  | ins (C : Addr) (ns : List Str) (vs : List D)
  | ref (i : Nat)

structure Wd where
  p : List Addr
  F : Addr → Prop
  G : Addr → Prop
  H : Hp

structure Le (w w' : Wd) : Prop where
  pre : ∀ (i : Nat) (a : Addr), w.p[i]? = some a → w'.p[i]? = some a
  fr : ∀ a, w.F a → w'.F a
  keep : ∀ a, w.F a → w'.H a = w.H a
  gd : ∀ a, w.G a → w'.G a ∧ w'.H a = w.H a
theorem Le.refl (w : Wd) : Le w w := ⟨fun _ _ h => h, fun _ h => h, fun _ _ => rfl, fun _ h => ⟨h, rfl⟩⟩
theorem Le.trans {a b c : Wd} (x : Le a b) (y : Le b c) : Le a c :=
  ⟨fun i u h => y.pre i u (x.pre i u h), fun u h => y.fr u (x.fr u h), fun u h => (y.keep u (x.fr u h)).trans (x.keep u h),
    fun u h => ⟨(y.gd u (x.gd u h).1).1, (y.gd u (x.gd u h).1).2.trans (x.gd u h).2⟩⟩

variable (K : PySem.W.Frag)
mutual
def Rep (w : Wd) : D → V → Prop
  | .non, v => v = .non
  | .bl b, v => v = .bl b
  | .int i, v => v = .int i
  | .str s, v => v = .str s
  | .ty n, v => v = .ty n
  | .rf a, v => v = .ref a
  | .wl l, v => ∃ a, v = .ref a ∧ ((w.F a ∧ SqL K w.H a (l.map V.int)) ∨ ∀ H, SqL K H a (l.map V.int))
  | .lst l, v => ∃ a xs, v = .ref a ∧ w.F a ∧ w.H a = some (.lst xs) ∧ Reps w l xs
  | .tup l, v => ∃ a xs, v = .ref a ∧ w.F a ∧ w.H a = some (.tup xs) ∧ Reps w l xs
  | .dct ks l, v => ∃ a xs, v = .ref a ∧ w.F a ∧ w.H a = some (.dK (ks.zip xs)) ∧ ks.length = xs.length ∧ Reps w l xs
  | .ins C ns l, v => ∃ a dx xs, v = .ref a ∧ w.F a ∧ w.H a = some (.ins C dx (ns.zip xs)) ∧ ns.length = xs.length ∧ Reps w l xs
  | .ref i, v => ∃ a, v = .ref a ∧ w.p[i]? = some a
def Reps (w : Wd) : List D → List V → Prop
  | [], xs => xs = []
  | d :: ds, xs => ∃ v vs, xs = v :: vs ∧ Rep w d v ∧ Reps w ds vs
end
/-- what stands at the live address a -/
def ORep (w : Wd) (a : Addr) : D → Prop
  | .lst l => ∃ xs, w.H a = some (.lst xs) ∧ Reps K w l xs
  | .dct ks l => ∃ xs, w.H a = some (.dK (ks.zip xs)) ∧ ks.length = xs.length ∧ Reps K w l xs
  | .ins C ns l => ∃ dx xs, w.H a = some (.ins C dx (ns.zip xs)) ∧ ns.length = xs.length ∧ Reps K w l xs
  | _ => ∃ o, w.H a = some o
-- no cell is named in it
mutual
def nr : D → Bool
  | .lst l => nrs l
  | .tup l => nrs l
  | .dct _ l => nrs l
  | .ins _ _ l => nrs l
  | .ref _ => false
  | _ => true
def nrs : List D → Bool
  | [] => true
  | d :: ds => nr d && nrs ds
end

structure Sim (w : Wd) (cs : List D) : Prop where
  len : w.p.length = cs.length
  nd : ∀ (i j : Nat) (a : Addr), w.p[i]? = some a → w.p[j]? = some a → i = j
  trk : ∀ a, w.F a → ∃ o, w.H a = some o
  gtr : ∀ a, w.G a → ¬ w.F a ∧ (∃ o, w.H a = some o) ∧ ∀ i : Nat, w.p[i]? ≠ some a
  cell : ∀ (i : Nat) (a : Addr) (d : D), w.p[i]? = some a → cs[i]? = some d → ¬ w.F a ∧ (∃ o, w.H a = some o) ∧ ORep K w a d ∧ nr d = true

theorem Le.sql {w w' : Wd} {a : Addr} {xs : List V} (e : Le w w') (f : w.F a) (h : SqL K w.H a xs) : SqL K w'.H a xs := by
  rcases h with h | h
  · refine .inl ?_
    unfold Rd
    rw [e.keep a f]
    exact h
  · exact .inr h
mutual
theorem Rep.mono {w w' : Wd} (e : Le w w') : ∀ (d : D) (v : V), Rep K w d v → Rep K w' d v
  | .non, v, h => h
  | .bl b, v, h => h
  | .int i, v, h => h
  | .str s, v, h => h
  | .ty n, v, h => h
  | .rf a, v, h => h
  | .wl l, v, h => by
    obtain ⟨a, e1, h | h⟩ := h
    · exact ⟨a, e1, .inl ⟨e.fr a h.1, e.sql K h.1 h.2⟩⟩
    · exact ⟨a, e1, .inr h⟩
  | .lst l, v, h => by
    obtain ⟨a, xs, e1, f, g, r⟩ := h
    exact ⟨a, xs, e1, e.fr a f, (e.keep a f).trans g, Reps.mono e l xs r⟩
  | .tup l, v, h => by
    obtain ⟨a, xs, e1, f, g, r⟩ := h
    exact ⟨a, xs, e1, e.fr a f, (e.keep a f).trans g, Reps.mono e l xs r⟩
  | .dct ks l, v, h => by
    obtain ⟨a, xs, e1, f, g, q, r⟩ := h
    exact ⟨a, xs, e1, e.fr a f, (e.keep a f).trans g, q, Reps.mono e l xs r⟩
  | .ins C ns l, v, h => by
    obtain ⟨a, dx, xs, e1, f, g, q, r⟩ := h
    exact ⟨a, dx, xs, e1, e.fr a f, (e.keep a f).trans g, q, Reps.mono e l xs r⟩
  | .ref i, v, h => by
    obtain ⟨a, e1, g⟩ := h
    exact ⟨a, e1, e.pre i a g⟩
theorem Reps.mono {w w' : Wd} (e : Le w w') : ∀ (l : List D) (xs : List V), Reps K w l xs → Reps K w' l xs
  | [], xs, h => h
  | d :: ds, xs, h => by
    obtain ⟨v, vs, e1, r, q⟩ := h
    exact ⟨v, vs, e1, Rep.mono e d v r, Reps.mono e ds vs q⟩
end
-- a value that names no cell stands whatever the cells are
mutual
theorem Rep.nr {w w' : Wd} (hp : ∀ a, w.F a → w'.F a) (hk : ∀ a, w.F a → w'.H a = w.H a) : ∀ (d : D) (v : V), nr d = true → Rep K w d v → Rep K w' d v
  | .non, v, _, h => h
  | .bl b, v, _, h => h
  | .int i, v, _, h => h
  | .str s, v, _, h => h
  | .ty n, v, _, h => h
  | .rf a, v, _, h => h
  | .wl l, v, _, h => by
    obtain ⟨a, e1, h | h⟩ := h
    · refine ⟨a, e1, .inl ⟨hp a h.1, ?_⟩⟩
      rcases h.2 with z | z
      · refine .inl ?_
        unfold Rd
        rw [hk a h.1]
        exact z
      · exact .inr z
    · exact ⟨a, e1, .inr h⟩
  | .lst l, v, n, h => by
    obtain ⟨a, xs, e1, f, g, r⟩ := h
    exact ⟨a, xs, e1, hp a f, (hk a f).trans g, Reps.nr hp hk l xs n r⟩
  | .tup l, v, n, h => by
    obtain ⟨a, xs, e1, f, g, r⟩ := h
    exact ⟨a, xs, e1, hp a f, (hk a f).trans g, Reps.nr hp hk l xs n r⟩
  | .dct ks l, v, n, h => by
    obtain ⟨a, xs, e1, f, g, q, r⟩ := h
    exact ⟨a, xs, e1, hp a f, (hk a f).trans g, q, Reps.nr hp hk l xs n r⟩
  | .ins C ns l, v, n, h => by
    obtain ⟨a, dx, xs, e1, f, g, q, r⟩ := h
    exact ⟨a, dx, xs, e1, hp a f, (hk a f).trans g, q, Reps.nr hp hk l xs n r⟩
  | .ref i, v, n, h => by cases n
theorem Reps.nr {w w' : Wd} (hp : ∀ a, w.F a → w'.F a) (hk : ∀ a, w.F a → w'.H a = w.H a) : ∀ (l : List D) (xs : List V), nrs l = true → Reps K w l xs → Reps K w' l xs
  | [], xs, _, h => h
  | d :: ds, xs, n, h => by
    obtain ⟨v, vs, e1, r, q⟩ := h
    have n' : (Wf.nr d && nrs ds) = true := n
    rw [Bool.and_eq_true] at n'
    exact ⟨v, vs, e1, Rep.nr hp hk d v n'.1 r, Reps.nr hp hk ds vs n'.2 q⟩
end
mutual
theorem Rep.g {w w' : Wd} (e1 : w.p = w'.p) (e2 : w.F = w'.F) (e3 : w.H = w'.H) : ∀ (d : D) (v : V), Rep K w d v → Rep K w' d v
  | .non, v, h => h
  | .bl b, v, h => h
  | .int i, v, h => h
  | .str s, v, h => h
  | .ty n, v, h => h
  | .rf a, v, h => h
  | .wl l, v, h => by
    obtain ⟨a, q, h⟩ := h
    exact ⟨a, q, by rw [← e2, ← e3]; exact h⟩
  | .lst l, v, h => by
    obtain ⟨a, xs, q, f, g, r⟩ := h
    exact ⟨a, xs, q, by rw [← e2]; exact f, by rw [← e3]; exact g, Reps.g e1 e2 e3 l xs r⟩
  | .tup l, v, h => by
    obtain ⟨a, xs, q, f, g, r⟩ := h
    exact ⟨a, xs, q, by rw [← e2]; exact f, by rw [← e3]; exact g, Reps.g e1 e2 e3 l xs r⟩
  | .dct ks l, v, h => by
    obtain ⟨a, xs, q, f, g, z, r⟩ := h
    exact ⟨a, xs, q, by rw [← e2]; exact f, by rw [← e3]; exact g, z, Reps.g e1 e2 e3 l xs r⟩
  | .ins C ns l, v, h => by
    obtain ⟨a, dx, xs, q, f, g, z, r⟩ := h
    exact ⟨a, dx, xs, q, by rw [← e2]; exact f, by rw [← e3]; exact g, z, Reps.g e1 e2 e3 l xs r⟩
  | .ref i, v, h => by
    obtain ⟨a, q, g⟩ := h
    exact ⟨a, q, by rw [← e1]; exact g⟩
theorem Reps.g {w w' : Wd} (e1 : w.p = w'.p) (e2 : w.F = w'.F) (e3 : w.H = w'.H) : ∀ (l : List D) (xs : List V), Reps K w l xs → Reps K w' l xs
  | [], xs, h => h
  | d :: ds, xs, h => by
    obtain ⟨v, vs, q, r, z⟩ := h
    exact ⟨v, vs, q, Rep.g e1 e2 e3 d v r, Reps.g e1 e2 e3 ds vs z⟩
end
theorem Reps.length {w : Wd} : ∀ {l : List D} {xs : List V}, Reps K w l xs → l.length = xs.length
  | [], xs, h => by cases (show xs = [] from h); rfl
  | d :: ds, xs, h => by
    obtain ⟨v, vs, e1, r, q⟩ := h
    subst e1
    show ds.length + 1 = vs.length + 1
    rw [Reps.length q]
theorem Reps.get {w : Wd} : ∀ {l : List D} {xs : List V} {i : Nat} {d : D}, Reps K w l xs → l[i]? = some d → ∃ v, xs[i]? = some v ∧ Rep K w d v
  | [], xs, i, d, h, e => by simp at e
  | d' :: ds, xs, 0, d, h, e => by
    obtain ⟨v, vs, e1, r, q⟩ := h
    have e2 : d' = d := Option.some.inj e
    subst e1 e2
    exact ⟨v, rfl, r⟩
  | d' :: ds, xs, i + 1, d, h, e => by
    obtain ⟨v, vs, e1, r, q⟩ := h
    subst e1
    exact Reps.get (l := ds) (xs := vs) (i := i) q e
theorem Reps.app {w : Wd} : ∀ {l m : List D} {xs ys : List V}, Reps K w l xs → Reps K w m ys → Reps K w (l ++ m) (xs ++ ys)
  | [], m, xs, ys, h, g => by cases (show xs = [] from h); exact g
  | d :: ds, m, xs, ys, h, g => by
    obtain ⟨v, vs, e1, r, q⟩ := h
    subst e1
    exact ⟨v, vs ++ ys, rfl, r, Reps.app q g⟩
theorem Reps.take {w : Wd} : ∀ {l : List D} {xs : List V} (n : Nat), Reps K w l xs → Reps K w (l.take n) (xs.take n)
  | l, xs, 0, h => by rw [List.take_zero, List.take_zero]; rfl
  | [], xs, n + 1, h => by cases (show xs = [] from h); rfl
  | d :: ds, xs, n + 1, h => by
    obtain ⟨v, vs, e1, r, q⟩ := h
    subst e1
    exact ⟨v, vs.take n, rfl, r, Reps.take n q⟩
theorem Reps.drop {w : Wd} : ∀ {l : List D} {xs : List V} (n : Nat), Reps K w l xs → Reps K w (l.drop n) (xs.drop n)
  | l, xs, 0, h => h
  | [], xs, n + 1, h => by cases (show xs = [] from h); rfl
  | d :: ds, xs, n + 1, h => by
    obtain ⟨v, vs, e1, r, q⟩ := h
    subst e1
    exact Reps.drop (l := ds) n q
theorem Reps.set {w : Wd} {d' : D} {v' : V} (r' : Rep K w d' v') : ∀ {l : List D} {xs : List V} (n : Nat), Reps K w l xs → Reps K w (l.set n d') (xs.set n v')
  | [], xs, n, h => by cases (show xs = [] from h); rfl
  | d :: ds, xs, 0, h => by
    obtain ⟨v, vs, e1, r, q⟩ := h
    subst e1
    exact ⟨v', vs, rfl, r', q⟩
  | d :: ds, xs, n + 1, h => by
    obtain ⟨v, vs, e1, r, q⟩ := h
    subst e1
    exact ⟨v, vs.set n v', rfl, r, Reps.set r' n q⟩
theorem Reps.ints {w : Wd} : ∀ (ns : List Int), Reps K w (ns.map D.int) (ns.map V.int)
  | [] => rfl
  | n :: ns => ⟨_, _, rfl, rfl, Reps.ints ns⟩
theorem Reps.strs {w : Wd} : ∀ (ns : List Str), Reps K w (ns.map D.str) (ns.map V.str)
  | [] => rfl
  | n :: ns => ⟨_, _, rfl, rfl, Reps.strs ns⟩
theorem Reps.ints_eq {w : Wd} : ∀ {ns : List Int} {xs : List V}, Reps K w (ns.map D.int) xs → xs = ns.map V.int
  | [], xs, h => h
  | n :: ns, xs, h => by
    obtain ⟨v, vs, e1, r, q⟩ := h
    subst e1
    cases (show v = V.int n from r)
    rw [Reps.ints_eq (ns := ns) q]
    rfl
theorem Reps.strs_eq {w : Wd} : ∀ {ns : List Str} {xs : List V}, Reps K w (ns.map D.str) xs → xs = ns.map V.str
  | [], xs, h => h
  | n :: ns, xs, h => by
    obtain ⟨v, vs, e1, r, q⟩ := h
    subst e1
    cases (show v = V.str n from r)
    rw [Reps.strs_eq (ns := ns) q]
    rfl
theorem nrs_app (l m : List D) : nrs (l ++ m) = (nrs l && nrs m) := by
  induction l with
  | nil => rfl
  | cons d l ih =>
    show (nr d && nrs (l ++ m)) = ((nr d && nrs l) && nrs m)
    rw [ih, Bool.and_assoc]
theorem nrs_all (l : List D) : nrs l = l.all nr := by
  induction l with
  | nil => rfl
  | cons d l ih =>
    show (nr d && nrs l) = (nr d && l.all nr)
    rw [ih]

/-! ### worlds that grow -/
def Wd.new (w : Wd) (a : Addr) (o : HO) : Wd := ⟨w.p, fun b => w.F b ∨ b = a, w.G, upd w.H a o⟩
def Wd.live (w : Wd) (a : Addr) (o : HO) : Wd := ⟨w.p ++ [a], w.F, w.G, upd w.H a o⟩
def Wd.put (w : Wd) (a : Addr) (o : HO) : Wd := ⟨w.p, w.F, w.G, upd w.H a o⟩
/-- a is watched: nobody else may touch it -/
def Wd.hold (w : Wd) (a : Addr) (o : HO) : Wd := ⟨w.p, w.F, fun b => w.G b ∨ b = a, upd w.H a o⟩
variable {K}
theorem Sim.fresh {w : Wd} {cs : List D} {a : Addr} (s : Sim K w cs) (h : w.H a = none) : ¬ w.F a ∧ (∀ i : Nat, w.p[i]? ≠ some a) ∧ ¬ w.G a := by
  refine ⟨fun f => ?_, fun i e => ?_, fun g => ?_⟩
  · obtain ⟨o, ho⟩ := s.trk a f
    rw [h] at ho
    cases ho
  · have hi : i < cs.length := by
      rw [← s.len]
      exact (List.getElem?_eq_some_iff.mp e).1
    obtain ⟨_, ⟨o, ho⟩, _⟩ := s.cell i a cs[i] e (List.getElem?_eq_getElem hi)
    rw [h] at ho
    cases ho
  · obtain ⟨_, ⟨o, ho⟩, _⟩ := s.gtr a g
    rw [h] at ho
    cases ho
theorem Sim.le_new {w : Wd} {cs : List D} {a : Addr} {o : HO} (s : Sim K w cs) (h : w.H a = none) : Le w (w.new a o) := by
  refine ⟨fun _ _ h => h, fun b f => .inl f, fun b f => ?_, fun b g => ⟨g, ?_⟩⟩
  · exact upd_ne fun e => (s.fresh h).1 (e ▸ f)
  · exact upd_ne fun e => (s.fresh h).2.2 (e ▸ g)
theorem Sim.le_live {w : Wd} {cs : List D} {a : Addr} {o : HO} (s : Sim K w cs) (h : w.H a = none) : Le w (w.live a o) := by
  refine ⟨fun i b h => ?_, fun b f => f, fun b f => ?_, fun b g => ⟨g, upd_ne fun e => (s.fresh h).2.2 (e ▸ g)⟩⟩
  · show (w.p ++ [a])[i]? = some b
    rw [List.getElem?_append_left (List.getElem?_eq_some_iff.mp h).1]
    exact h
  · exact upd_ne fun e => (s.fresh h).1 (e ▸ f)
theorem Sim.le_put {w : Wd} {cs : List D} {a : Addr} {o : HO} {i : Nat} {d : D} (s : Sim K w cs) (h : w.p[i]? = some a) (hd : cs[i]? = some d) : Le w (w.put a o) := by
  refine ⟨fun _ _ h => h, fun b f => f, fun b f => ?_, fun b g => ⟨g, upd_ne fun e => (s.gtr b g).2.2 i (e ▸ h)⟩⟩
  exact upd_ne fun e => (s.cell i a d h hd).1 (e ▸ f)
theorem Sim.le_hold {w : Wd} {cs : List D} {a : Addr} {o : HO} (s : Sim K w cs) (h : w.H a = none) : Le w (w.hold a o) :=
  ⟨fun _ _ h => h, fun b f => f, fun b f => upd_ne fun e => (s.fresh h).1 (e ▸ f), fun b g => ⟨.inl g, upd_ne fun e => (s.fresh h).2.2 (e ▸ g)⟩⟩
theorem ORep.mono {w w' : Wd} {a : Addr} (e : Le w w') (hk : w'.H a = w.H a) : ∀ d : D, ORep K w a d → ORep K w' a d
  | .lst l, ⟨xs, h, r⟩ => ⟨xs, hk.trans h, Reps.mono K e _ _ r⟩
  | .dct ks l, ⟨xs, h, q, r⟩ => ⟨xs, hk.trans h, q, Reps.mono K e _ _ r⟩
  | .ins C ns l, ⟨dx, xs, h, q, r⟩ => ⟨dx, xs, hk.trans h, q, Reps.mono K e _ _ r⟩
  | .non, ⟨o, h⟩ => ⟨o, hk.trans h⟩
  | .bl _, ⟨o, h⟩ => ⟨o, hk.trans h⟩
  | .int _, ⟨o, h⟩ => ⟨o, hk.trans h⟩
  | .str _, ⟨o, h⟩ => ⟨o, hk.trans h⟩
  | .ty _, ⟨o, h⟩ => ⟨o, hk.trans h⟩
  | .rf _, ⟨o, h⟩ => ⟨o, hk.trans h⟩
  | .wl _, ⟨o, h⟩ => ⟨o, hk.trans h⟩
  | .tup _, ⟨o, h⟩ => ⟨o, hk.trans h⟩
  | .ref _, ⟨o, h⟩ => ⟨o, hk.trans h⟩
theorem Sim.new {w : Wd} {cs : List D} {a : Addr} {o : HO} (s : Sim K w cs) (h : w.H a = none) : Sim K (w.new a o) cs := by
  have le := s.le_new (o := o) h
  refine ⟨s.len, s.nd, fun b f => ?_, fun b g => ?_, fun i b d hi hd => ?_⟩
  · rcases f with f | f
    · obtain ⟨u, hu⟩ := s.trk b f
      exact ⟨u, (le.keep b f).trans hu⟩
    · exact ⟨o, by rw [f]; exact upd_same⟩
  · obtain ⟨g1, ⟨u, g2⟩, g3⟩ := s.gtr b g
    have ne : b ≠ a := fun e => (s.fresh h).2.2 (e ▸ g)
    exact ⟨fun f => f.elim g1 ne, ⟨u, (upd_ne ne).trans g2⟩, g3⟩
  · obtain ⟨c1, c2, c3, c4⟩ := s.cell i b d hi hd
    have ne : b ≠ a := fun e => (s.fresh h).2.1 i (e ▸ hi)
    have hk : (w.new a o).H b = w.H b := upd_ne ne
    refine ⟨fun f => ?_, ?_, c3.mono le hk, c4⟩
    · rcases f with f | f
      · exact c1 f
      · exact ne f
    · rw [hk]
      exact c2
theorem Sim.live {w : Wd} {cs : List D} {a : Addr} {o : HO} {d : D} (s : Sim K w cs) (h : w.H a = none) (hn : nr d = true) (hr : ORep K (w.live a o) a d) : Sim K (w.live a o) (cs ++ [d]) := by
  have le := s.le_live (o := o) h
  refine ⟨?_, fun i j b hi hj => ?_, fun b f => ?_, fun b g => ?_, fun i b d' hi hd => ?_⟩
  · show (w.p ++ [a]).length = (cs ++ [d]).length
    rw [List.length_append, List.length_append, s.len]
    rfl
  · have hi' : (w.p ++ [a])[i]? = some b := hi
    have hj' : (w.p ++ [a])[j]? = some b := hj
    have li := (List.getElem?_eq_some_iff.mp hi').1
    have lj := (List.getElem?_eq_some_iff.mp hj').1
    rw [List.length_append] at li lj
    by_cases i1 : i < w.p.length
    · rw [List.getElem?_append_left i1] at hi'
      by_cases j1 : j < w.p.length
      · rw [List.getElem?_append_left j1] at hj'
        exact s.nd i j b hi' hj'
      · rw [List.getElem?_append_right (by omega)] at hj'
        have e : j - w.p.length = 0 := by simp at lj; omega
        rw [e] at hj'
        have e2 : a = b := Option.some.inj hj'
        exact absurd (e2 ▸ hi') ((s.fresh h).2.1 i)
    · rw [List.getElem?_append_right (by omega)] at hi'
      have e : i - w.p.length = 0 := by simp at li; omega
      rw [e] at hi'
      have e2 : a = b := Option.some.inj hi'
      by_cases j1 : j < w.p.length
      · rw [List.getElem?_append_left j1] at hj'
        exact absurd (e2 ▸ hj') ((s.fresh h).2.1 j)
      · simp at li lj
        omega
  · obtain ⟨u, hu⟩ := s.trk b f
    exact ⟨u, (le.keep b f).trans hu⟩
  · obtain ⟨g1, ⟨u, g2⟩, g3⟩ := s.gtr b g
    have ne : b ≠ a := fun e => (s.fresh h).2.2 (e ▸ g)
    refine ⟨g1, ⟨u, (upd_ne ne).trans g2⟩, fun i hi => ?_⟩
    have hi' : (w.p ++ [a])[i]? = some b := hi
    by_cases i1 : i < w.p.length
    · rw [List.getElem?_append_left i1] at hi'
      exact g3 i hi'
    · have li := (List.getElem?_eq_some_iff.mp hi').1
      rw [List.length_append] at li
      simp at li
      have ei : i = w.p.length := by omega
      subst ei
      rw [List.getElem?_append_right (Nat.le_refl _), Nat.sub_self] at hi'
      exact ne (Option.some.inj hi').symm
  · have hi' : (w.p ++ [a])[i]? = some b := hi
    by_cases i1 : i < w.p.length
    · rw [List.getElem?_append_left i1] at hi'
      rw [List.getElem?_append_left (by rw [← s.len]; exact i1)] at hd
      obtain ⟨c1, c2, c3, c4⟩ := s.cell i b d' hi' hd
      have ne : b ≠ a := fun e => (s.fresh h).2.1 i (e ▸ hi')
      have hk : (w.live a o).H b = w.H b := upd_ne ne
      exact ⟨c1, by rw [hk]; exact c2, c3.mono le hk, c4⟩
    · have li := (List.getElem?_eq_some_iff.mp hi').1
      rw [List.length_append] at li
      simp at li
      have ei : i = w.p.length := by omega
      subst ei
      rw [List.getElem?_append_right (Nat.le_refl _), Nat.sub_self] at hi'
      rw [List.getElem?_append_right (by rw [s.len]; exact Nat.le_refl _), s.len, Nat.sub_self] at hd
      have e1 : a = b := Option.some.inj hi'
      have e2 : d = d' := Option.some.inj hd
      subst e1 e2
      exact ⟨(s.fresh h).1, ⟨o, upd_same⟩, hr, hn⟩
theorem Sim.put {w : Wd} {cs : List D} {a : Addr} {o : HO} {i : Nat} {d0 d : D} (s : Sim K w cs) (hi : w.p[i]? = some a) (hd0 : cs[i]? = some d0) (hn : nr d = true) (hr : ORep K (w.put a o) a d) : Sim K (w.put a o) (cs.set i d) := by
  have le := s.le_put (o := o) hi hd0
  refine ⟨by rw [List.length_set]; exact s.len, s.nd, fun b f => ?_, fun b g => ?_, fun j b d' hj hd => ?_⟩
  · obtain ⟨u, hu⟩ := s.trk b f
    exact ⟨u, (le.keep b f).trans hu⟩
  · obtain ⟨g1, ⟨u, g2⟩, g3⟩ := s.gtr b g
    exact ⟨g1, ⟨u, (upd_ne (show b ≠ a from fun e => g3 i (by rw [e]; exact hi))).trans g2⟩, g3⟩
  · have hj' : w.p[j]? = some b := hj
    by_cases e : i = j
    · subst e
      have e1 : a = b := Option.some.inj (hi.symm.trans hj')
      subst e1
      rw [List.getElem?_set_self (List.getElem?_eq_some_iff.mp hd0).1] at hd
      have e2 : d = d' := Option.some.inj hd
      subst e2
      exact ⟨(s.cell i a d0 hi hd0).1, ⟨o, upd_same⟩, hr, hn⟩
    · rw [List.getElem?_set_ne e] at hd
      obtain ⟨c1, c2, c3, c4⟩ := s.cell j b d' hj' hd
      have ne : b ≠ a := fun z => e (s.nd i j a hi (z ▸ hj'))
      have hk : (w.put a o).H b = w.H b := upd_ne ne
      exact ⟨c1, by rw [hk]; exact c2, c3.mono le hk, c4⟩
theorem Sim.hold {w : Wd} {cs : List D} {a : Addr} {o : HO} (s : Sim K w cs) (h : w.H a = none) : Sim K (w.hold a o) cs := by
  have le := s.le_hold (o := o) h
  refine ⟨s.len, s.nd, fun b f => ?_, fun b g => ?_, fun i b d hi hd => ?_⟩
  · obtain ⟨u, hu⟩ := s.trk b f
    exact ⟨u, (le.keep b f).trans hu⟩
  · rcases g with g | g
    · obtain ⟨g1, ⟨u, g2⟩, g3⟩ := s.gtr b g
      have ne : b ≠ a := fun e => (s.fresh h).2.2 (e ▸ g)
      exact ⟨g1, ⟨u, (upd_ne ne).trans g2⟩, g3⟩
    · subst g
      exact ⟨(s.fresh h).1, ⟨o, upd_same⟩, (s.fresh h).2.1⟩
  · obtain ⟨c1, c2, c3, c4⟩ := s.cell i b d hi hd
    have ne : b ≠ a := fun e => (s.fresh h).2.1 i (e ▸ hi)
    have hk : (w.hold a o).H b = w.H b := upd_ne ne
    exact ⟨c1, by rw [hk]; exact c2, c3.mono le hk, c4⟩
/-- the watched thing changes -/
def Wd.turn (w : Wd) (a : Addr) (o : HO) : Wd := ⟨w.p, w.F, w.G, upd w.H a o⟩
/-- what is watched in w but for a, in the world w' -/
structure LeB (a : Addr) (w w' : Wd) : Prop where
  pre : ∀ (i : Nat) (b : Addr), w.p[i]? = some b → w'.p[i]? = some b
  fr : ∀ b, w.F b → w'.F b
  keep : ∀ b, w.F b → w'.H b = w.H b
  gd : ∀ b, w.G b → b ≠ a → w'.G b ∧ w'.H b = w.H b
theorem Le.b {w w' : Wd} (e : Le w w') (a : Addr) : LeB a w w' := ⟨e.pre, e.fr, e.keep, fun b g _ => e.gd b g⟩
theorem LeB.trans {x : Addr} {a b c : Wd} (e : LeB x a b) (f : LeB x b c) : LeB x a c :=
  ⟨fun i u h => f.pre i u (e.pre i u h), fun u h => f.fr u (e.fr u h), fun u h => (f.keep u (e.fr u h)).trans (e.keep u h),
    fun u h n => ⟨(f.gd u (e.gd u h n).1 n).1, (f.gd u (e.gd u h n).1 n).2.trans (e.gd u h n).2⟩⟩
theorem Sim.turnB {w : Wd} {cs : List D} {a : Addr} {o : HO} (s : Sim K w cs) (g : w.G a) : LeB a w (w.turn a o) :=
  ⟨fun _ _ h => h, fun _ h => h, fun b f => upd_ne fun e => (s.gtr a g).1 (e ▸ f), fun b g' n => ⟨g', upd_ne n⟩⟩
theorem Sim.turn {w : Wd} {cs : List D} {a : Addr} {o : HO} (s : Sim K w cs) (g : w.G a) : Sim K (w.turn a o) cs := by
  have le := s.turnB (o := o) g
  have hp : ∀ b, w.F b → (w.turn a o).F b := fun _ h => h
  refine ⟨s.len, s.nd, fun b f => ?_, fun b g' => ?_, fun i b d hi hd => ?_⟩
  · obtain ⟨u, hu⟩ := s.trk b f
    exact ⟨u, (le.keep b f).trans hu⟩
  · obtain ⟨g1, ⟨u, g2⟩, g3⟩ := s.gtr b g'
    by_cases e : b = a
    · subst e
      exact ⟨g1, ⟨o, upd_same⟩, g3⟩
    · exact ⟨g1, ⟨u, (upd_ne e).trans g2⟩, g3⟩
  · obtain ⟨c1, c2, c3, c4⟩ := s.cell i b d hi hd
    have ne : b ≠ a := fun e => (s.gtr a g).2.2 i (e ▸ hi)
    have hk : (w.turn a o).H b = w.H b := upd_ne ne
    refine ⟨c1, by rw [hk]; exact c2, ?_, c4⟩
    cases d with
    | lst l => obtain ⟨xs, h, r⟩ := c3; exact ⟨xs, hk.trans h, Reps.nr K hp le.keep _ _ c4 r⟩
    | dct ks l => obtain ⟨xs, h, q, r⟩ := c3; exact ⟨xs, hk.trans h, q, Reps.nr K hp le.keep _ _ c4 r⟩
    | ins C ns l => obtain ⟨dx, xs, h, q, r⟩ := c3; exact ⟨dx, xs, hk.trans h, q, Reps.nr K hp le.keep _ _ c4 r⟩
    | _ => obtain ⟨u, h⟩ := c3; exact ⟨u, hk.trans h⟩
theorem Rep.b {w w' : Wd} {a : Addr} (e : LeB a w w') (d : D) (v : V) (h : Rep K w d v) : Rep K w' d v := by
  have e2 : Le ⟨w.p, w.F, fun _ => False, w.H⟩ ⟨w'.p, w'.F, fun _ => False, w'.H⟩ := ⟨e.pre, e.fr, e.keep, fun _ g => g.elim⟩
  exact Rep.g K (w := ⟨w'.p, w'.F, fun _ => False, w'.H⟩) (w' := w') rfl rfl rfl d v (Rep.mono K e2 d v (Rep.g K (w := w) (w' := ⟨w.p, w.F, fun _ => False, w.H⟩) rfl rfl rfl d v h))
theorem Reps.b {w w' : Wd} {a : Addr} (e : LeB a w w') (d : List D) (v : List V) (h : Reps K w d v) : Reps K w' d v := by
  have e2 : Le ⟨w.p, w.F, fun _ => False, w.H⟩ ⟨w'.p, w'.F, fun _ => False, w'.H⟩ := ⟨e.pre, e.fr, e.keep, fun _ g => g.elim⟩
  exact Reps.g K (w := ⟨w'.p, w'.F, fun _ => False, w'.H⟩) (w' := w') rfl rfl rfl d v (Reps.mono K e2 d v (Reps.g K (w := w) (w' := ⟨w.p, w.F, fun _ => False, w.H⟩) rfl rfl rfl d v h))
/-- the watched thing settles -/
def Wd.settle (w : Wd) (a : Addr) : Wd := ⟨w.p, fun b => w.F b ∨ b = a, fun b => w.G b ∧ b ≠ a, w.H⟩
theorem Wd.settleB (w : Wd) (a : Addr) : LeB a w (w.settle a) := ⟨fun _ _ h => h, fun _ h => .inl h, fun _ _ => rfl, fun b g n => ⟨⟨g, n⟩, rfl⟩⟩
theorem Sim.settle {w : Wd} {cs : List D} {a : Addr} (s : Sim K w cs) (g : w.G a) : Sim K (w.settle a) cs := by
  refine ⟨s.len, s.nd, fun b f => ?_, fun b g' => ?_, fun i b d hi hd => ?_⟩
  · rcases f with f | f
    · exact s.trk b f
    · rw [f]
      exact (s.gtr a g).2.1
  · obtain ⟨g1, g2, g3⟩ := s.gtr b g'.1
    exact ⟨fun f => f.elim g1 g'.2, g2, g3⟩
  · obtain ⟨c1, c2, c3, c4⟩ := s.cell i b d hi hd
    refine ⟨fun f => f.elim c1 fun e => (s.gtr a g).2.2 i (e ▸ hi), c2, ?_, c4⟩
    have hp : ∀ b, w.F b → (w.settle a).F b := fun _ h => .inl h
    have hk : ∀ b, w.F b → (w.settle a).H b = w.H b := fun _ _ => rfl
    cases d with
    | lst l => obtain ⟨xs, h, r⟩ := c3; exact ⟨xs, h, Reps.nr K hp hk _ _ c4 r⟩
    | dct ks l => obtain ⟨xs, h, q, r⟩ := c3; exact ⟨xs, h, q, Reps.nr K hp hk _ _ c4 r⟩
    | ins C ns l => obtain ⟨dx, xs, h, q, r⟩ := c3; exact ⟨dx, xs, h, q, Reps.nr K hp hk _ _ c4 r⟩
    | _ => obtain ⟨u, h⟩ := c3; exact ⟨u, h⟩
/-- the watched thing becomes a cell -/
def Wd.adopt (w : Wd) (a : Addr) : Wd := ⟨w.p ++ [a], w.F, fun b => w.G b ∧ b ≠ a, w.H⟩
theorem Wd.adoptB (w : Wd) (a : Addr) : LeB a w (w.adopt a) := by
  refine ⟨fun i b h => ?_, fun _ h => h, fun _ _ => rfl, fun b g n => ⟨⟨g, n⟩, rfl⟩⟩
  show (w.p ++ [a])[i]? = some b
  rw [List.getElem?_append_left (List.getElem?_eq_some_iff.mp h).1]
  exact h
theorem Sim.adopt {w : Wd} {cs : List D} {a : Addr} {d : D} (s : Sim K w cs) (g : w.G a) (hn : nr d = true) (hr : ORep K w a d) : Sim K (w.adopt a) (cs ++ [d]) := by
  have hp : ∀ b, w.F b → (w.adopt a).F b := fun _ h => h
  have hk : ∀ b, w.F b → (w.adopt a).H b = w.H b := fun _ _ => rfl
  have tr : ∀ (b : Addr) (d : D), nr d = true → ORep K w b d → ORep K (w.adopt a) b d := fun b d c4 c3 => by
    cases d with
    | lst l => obtain ⟨xs, h, r⟩ := c3; exact ⟨xs, h, Reps.nr K hp hk _ _ c4 r⟩
    | dct ks l => obtain ⟨xs, h, q, r⟩ := c3; exact ⟨xs, h, q, Reps.nr K hp hk _ _ c4 r⟩
    | ins C ns l => obtain ⟨dx, xs, h, q, r⟩ := c3; exact ⟨dx, xs, h, q, Reps.nr K hp hk _ _ c4 r⟩
    | _ => obtain ⟨u, h⟩ := c3; exact ⟨u, h⟩
  refine ⟨?_, fun i j b hi hj => ?_, fun b f => s.trk b f, fun b g' => ?_, fun i b d' hi hd => ?_⟩
  · show (w.p ++ [a]).length = (cs ++ [d]).length
    rw [List.length_append, List.length_append, s.len]
    rfl
  · have hi' : (w.p ++ [a])[i]? = some b := hi
    have hj' : (w.p ++ [a])[j]? = some b := hj
    have li := (List.getElem?_eq_some_iff.mp hi').1
    have lj := (List.getElem?_eq_some_iff.mp hj').1
    rw [List.length_append] at li lj
    simp at li lj
    by_cases i1 : i < w.p.length
    · rw [List.getElem?_append_left i1] at hi'
      by_cases j1 : j < w.p.length
      · rw [List.getElem?_append_left j1] at hj'
        exact s.nd i j b hi' hj'
      · have e : j = w.p.length := by omega
        subst e
        rw [List.getElem?_append_right (Nat.le_refl _), Nat.sub_self] at hj'
        have e2 : a = b := Option.some.inj hj'
        subst e2
        exact absurd hi' ((s.gtr a g).2.2 i)
    · have e : i = w.p.length := by omega
      subst e
      rw [List.getElem?_append_right (Nat.le_refl _), Nat.sub_self] at hi'
      have e2 : a = b := Option.some.inj hi'
      subst e2
      by_cases j1 : j < w.p.length
      · rw [List.getElem?_append_left j1] at hj'
        exact absurd hj' ((s.gtr a g).2.2 j)
      · omega
  · obtain ⟨g1, g2, g3⟩ := s.gtr b g'.1
    refine ⟨g1, g2, fun i hi => ?_⟩
    have hi' : (w.p ++ [a])[i]? = some b := hi
    have li := (List.getElem?_eq_some_iff.mp hi').1
    rw [List.length_append] at li
    simp at li
    by_cases i1 : i < w.p.length
    · rw [List.getElem?_append_left i1] at hi'
      exact g3 i hi'
    · have e : i = w.p.length := by omega
      subst e
      rw [List.getElem?_append_right (Nat.le_refl _), Nat.sub_self] at hi'
      exact g'.2 (Option.some.inj hi').symm
  · have hi' : (w.p ++ [a])[i]? = some b := hi
    have li := (List.getElem?_eq_some_iff.mp hi').1
    rw [List.length_append] at li
    simp at li
    by_cases i1 : i < w.p.length
    · rw [List.getElem?_append_left i1] at hi'
      rw [List.getElem?_append_left (by rw [← s.len]; exact i1)] at hd
      obtain ⟨c1, c2, c3, c4⟩ := s.cell i b d' hi' hd
      exact ⟨c1, c2, tr b d' c4 c3, c4⟩
    · have e : i = w.p.length := by omega
      subst e
      rw [List.getElem?_append_right (Nat.le_refl _), Nat.sub_self] at hi'
      rw [List.getElem?_append_right (by rw [s.len]; exact Nat.le_refl _), s.len, Nat.sub_self] at hd
      have e1 : a = b := Option.some.inj hi'
      have e2 : d = d' := Option.some.inj hd
      subst e1 e2
      exact ⟨(s.gtr a g).1, (s.gtr a g).2.1, tr a d hn hr, hn⟩
/-- what data lean on alone -/
structure Lx (w w' : Wd) : Prop where
  pre : ∀ (i : Nat) (b : Addr), w.p[i]? = some b → w'.p[i]? = some b
  fr : ∀ b, w.F b → w'.F b
  keep : ∀ b, w.F b → w'.H b = w.H b
theorem Le.x {w w' : Wd} (e : Le w w') : Lx w w' := ⟨e.pre, e.fr, e.keep⟩
theorem LeB.x {w w' : Wd} {a : Addr} (e : LeB a w w') : Lx w w' := ⟨e.pre, e.fr, e.keep⟩
theorem Lx.trans {a b c : Wd} (e : Lx a b) (f : Lx b c) : Lx a c :=
  ⟨fun i u h => f.pre i u (e.pre i u h), fun u h => f.fr u (e.fr u h), fun u h => (f.keep u (e.fr u h)).trans (e.keep u h)⟩
theorem Rep.x {w w' : Wd} (e : Lx w w') (d : D) (v : V) (h : Rep K w d v) : Rep K w' d v := by
  have e2 : Le ⟨w.p, w.F, fun _ => False, w.H⟩ ⟨w'.p, w'.F, fun _ => False, w'.H⟩ := ⟨e.pre, e.fr, e.keep, fun _ g => g.elim⟩
  exact Rep.g K (w := ⟨w'.p, w'.F, fun _ => False, w'.H⟩) (w' := w') rfl rfl rfl d v (Rep.mono K e2 d v (Rep.g K (w := w) (w' := ⟨w.p, w.F, fun _ => False, w.H⟩) rfl rfl rfl d v h))
theorem Lx.sql {w w' : Wd} {a : Addr} {xs : List V} (e : Lx w w') (f : w.F a) (h : SqL K w.H a xs) : SqL K w'.H a xs := by
  rcases h with h | h
  · refine .inl ?_
    unfold Rd
    rw [e.keep a f]
    exact h
  · exact .inr h
end Wf
set_option Elab.async false
set_option linter.all false
set_option maxRecDepth 100000
/-! Readings by mirrors. -/
namespace Wf
open PySem PySem.Spec PyProof.Rows L2

inductive R (α : Type) where
  | ok (a : α) (cs : List D)
  | err (x : D) (r : List (Option D)) (cs : List D)
  | bad
def R.bind {α β : Type} (r : R α) (k : α → List D → R β) : R β := match r with
  | .ok a cs => k a cs
  | .err x r cs => .err x r cs
  | .bad => .bad
@[simp] theorem R.bind_ok {α β : Type} (a : α) (cs : List D) (k : α → List D → R β) : (R.ok a cs).bind k = k a cs := (rfl)
@[simp] theorem R.bind_err {α β : Type} (x : D) (r : List (Option D)) (cs : List D) (k : α → List D → R β) : (R.err x r cs).bind k = .err x r cs := (rfl)
@[simp] theorem R.bind_bad {α β : Type} (k : α → List D → R β) : (R.bad : R α).bind k = .bad := (rfl)
theorem R.bind_assoc {α β γ : Type} (r : R α) (k : α → List D → R β) (h : β → List D → R γ) : (r.bind k).bind h = r.bind fun a cs => (k a cs).bind h := by
  cases r <;> rfl

abbrev Env := List (Option D)
abbrev M := Env → List D → R D
abbrev MT := Env → List D → R Bool
abbrev ML := Env → List D → R (List D)
inductive Fl where
  | nx (e : Env) | ret (d : D) | brk (e : Env) | ct (e : Env)
abbrev MS := Env → List D → R Fl
abbrev Fn := List D → List D → R D

section
variable (K : PySem.W.Frag)
def XRep (w : Wd) (x : D) (c : Value) (od : Option Addr) : Prop := match x with
  | .ins C ns l => c = .ref C ∧ ((ns = [] ∧ l = [] ∧ od = none) ∨ ∃ d xs, od = some d ∧ w.F d ∧ w.H d = some (.xd (ns.zip xs)) ∧ ns.length = xs.length ∧ Reps K w l xs)
  | .ty n => c = .type n ∧ od = none
  | _ => False
abbrev EE := Env → Wd → Value → Option Addr → Prop
def After (E : EE) (w : Wd) {α : Type} (r : R α) (P : α → List D → Wd → Prop) : Prop := match r with
  | .ok a cs => ∀ w', Le w w' → Sim K w' cs → P a cs w'
  | .err x r cs => ∀ w' c od, Le w w' → Sim K w' cs → XRep K w' x c od → E r w' c od
  | .bad => False
structure EnvR (w : Wd) (r : Env) (σ : L2.St) : Prop where
  len : σ.length = r.length
  at_ : ∀ (i : Nat) (d : D), r[i]? = some (some d) → ∃ v, σ[i]? = some (some v) ∧ Rep K w d v
end
section
variable {K : PySem.W.Frag} {E : EE} {w w' : Wd} {α β : Type}
theorem After.mono {r : R α} {P : α → List D → Wd → Prop} (e : Le w w') (h : After K E w r P) : After K E w' r P := by
  cases r with
  | ok a cs => exact fun w2 l s => h w2 (e.trans l) s
  | err x r cs => exact fun w2 c od l s x => h w2 c od (e.trans l) s x
  | bad => exact h
theorem After.imp {r : R α} {P P' : α → List D → Wd → Prop} (h : After K E w r P) (k : ∀ a cs w', Le w w' → Sim K w' cs → P a cs w' → P' a cs w') : After K E w r P' := by
  cases r with
  | ok a cs => exact fun w2 l s => k a cs w2 l s (h w2 l s)
  | err x r cs => exact h
  | bad => exact h
theorem After.bind {r : R α} {k : α → List D → R β} {P : β → List D → Wd → Prop} (h : After K E w (r.bind k) P) : After K E w r (fun a cs w' => After K E w' (k a cs) P) := by
  cases r with
  | ok a cs => exact fun w2 l s => After.mono l h
  | err x r cs => exact h
  | bad => exact h
theorem EnvR.mono {r : Env} {σ : L2.St} (e : Le w w') (h : EnvR K w r σ) : EnvR K w' r σ :=
  ⟨h.len, fun i d q => let ⟨v, a, b⟩ := h.at_ i d q; ⟨v, a, Rep.mono K e d v b⟩⟩
theorem EnvR.b {a : Addr} {r : Env} {σ : L2.St} (e : LeB a w w') (h : EnvR K w r σ) : EnvR K w' r σ :=
  ⟨h.len, fun i d q => let ⟨v, x, b⟩ := h.at_ i d q; ⟨v, x, Rep.b e d v b⟩⟩
theorem EnvR.set {r : Env} {σ : L2.St} {d : D} {v : V} (i : Nat) (h : EnvR K w r σ) (q : Rep K w d v) : EnvR K w (r.set i (some d)) (σ.set i (some v)) := by
  refine ⟨by rw [List.length_set, List.length_set]; exact h.len, fun j d' e => ?_⟩
  by_cases hj : i = j
  · subst hj
    have hl : i < r.length := by
      have z := (List.getElem?_eq_some_iff.mp e).1
      rw [List.length_set] at z
      exact z
    rw [List.getElem?_set_self hl] at e
    have e2 : d = d' := Option.some.inj (Option.some.inj e)
    subst e2
    exact ⟨v, List.getElem?_set_self (by rw [h.len]; exact hl), q⟩
  · rw [List.getElem?_set_ne hj] at e
    obtain ⟨u, a, b⟩ := h.at_ j d' e
    exact ⟨u, by rw [List.getElem?_set_ne hj]; exact a, b⟩
/-- a name's value is forgotten -/
theorem EnvR.unset {r : Env} {σ : L2.St} (i : Nat) (h : EnvR K w r σ) (o : Option V) : EnvR K w (r.set i none) (σ.set i o) := by
  refine ⟨by rw [List.length_set, List.length_set]; exact h.len, fun j d' e => ?_⟩
  by_cases hj : i = j
  · subst hj
    have hl : i < r.length := by
      have z := (List.getElem?_eq_some_iff.mp e).1
      rw [List.length_set] at z
      exact z
    rw [List.getElem?_set_self hl] at e
    cases e
  · rw [List.getElem?_set_ne hj] at e
    obtain ⟨u, a, b⟩ := h.at_ j d' e
    exact ⟨u, by rw [List.getElem?_set_ne hj]; exact a, b⟩
end

/-! ### readings -/
section
variable (K : PySem.W.Frag) (W : WX)
/-- what is wished of an exception, at an env -/
def EW : EE := fun r w' c od => ∀ σ', EnvR K w' r σ' → W c od σ' w'.H
def tE (m : M) : TE := fun σ H Q => ∃ w r cs, w.H = H ∧ Sim K w cs ∧ EnvR K w r σ ∧ After K (EW K W) w (m r cs) (fun d _ w' => ∀ v, Rep K w' d v → Q v w'.H)
def tT (m : MT) : TT := fun σ H Q => ∃ w r cs, w.H = H ∧ Sim K w cs ∧ EnvR K w r σ ∧ After K (EW K W) w (m r cs) (fun b _ w' => Q b w'.H)
def tA (m : ML) : TA := fun σ H Q => ∃ w r cs, w.H = H ∧ Sim K w cs ∧ EnvR K w r σ ∧ After K (EW K W) w (m r cs) (fun ds _ w' => ∀ vs, Reps K w' ds vs → Q vs w'.H)
def FlP (D : Ends) (fl : Fl) (w' : Wd) : Prop := match fl with
  | .nx r => ∀ σ', EnvR K w' r σ' → D.nx σ' w'.H
  | .brk r => ∀ σ', EnvR K w' r σ' → D.bk σ' w'.H
  | .ct r => ∀ σ', EnvR K w' r σ' → D.ct σ' w'.H
  | .ret d => ∀ v, Rep K w' d v → D.rt v w'.H
def tS (m : MS) : TS := fun D σ H => ∃ w r cs, w.H = H ∧ Sim K w cs ∧ EnvR K w r σ ∧ After K (EW K W) w (m r cs) (fun fl _ w' => FlP K D fl w')
end
abbrev JE (X : Cx) (W : WX) (e : Expr) (m : M) : Prop := PE X e (tE X.K W m)
abbrev JT (X : Cx) (W : WX) (e : Expr) (m : MT) : Prop := PT X e (tT X.K W m)
abbrev JA (X : Cx) (W : WX) (es : List Expr) (m : ML) : Prop := PA X es (tA X.K W m)
abbrev JS (X : Cx) (W : WX) (st : Stmt) (m : MS) : Prop := PS X st (tS X.K W m)
abbrev JB (X : Cx) (W : WX) (st : List Stmt) (m : MS) : Prop := PSs X st (tS X.K W m)
theorem peI {X : Cx} {e : Expr} {t t' : TE} (h : PE X e t) (k : ∀ σ H Q, t' σ H Q → t σ H Q) : PE X e t' := ⟨fun pins s σ H Q I q => h.run pins s σ H Q I (k σ H Q q)⟩
theorem ptI {X : Cx} {e : Expr} {t t' : TT} (h : PT X e t) (k : ∀ σ H Q, t' σ H Q → t σ H Q) : PT X e t' := ⟨fun pins s σ H Q I q => h.run pins s σ H Q I (k σ H Q q)⟩
theorem paI {X : Cx} {e : List Expr} {t t' : TA} (h : PA X e t) (k : ∀ σ H Q, t' σ H Q → t σ H Q) : PA X e t' := ⟨fun pos pins s σ H Q I q => h.run pos pins s σ H Q I (k σ H Q q)⟩
theorem psI {X : Cx} {e : Stmt} {t t' : TS} (h : PS X e t) (k : ∀ D σ H, t' D σ H → t D σ H) : PS X e t' := ⟨fun pins s σ H D I q => h.run pins s σ H D I (k D σ H q)⟩
theorem pssI {X : Cx} {e : List Stmt} {t t' : TS} (h : PSs X e t) (k : ∀ D σ H, t' D σ H → t D σ H) : PSs X e t' := ⟨fun pins s σ H D I q => h.run pins s σ H D I (k D σ H q)⟩

section
variable {X : Cx} {W : WX} {K : PySem.W.Frag}
/-! ### from a reading of m to what it leaves: the one step that all rules share -/
theorem tE.go {m : M} {k : D → List D → R D} {σ : L2.St} {H : Hp} {Q Q' : VK} (h : ∃ w r cs, w.H = H ∧ Sim K w cs ∧ EnvR K w r σ ∧ After K (EW K W) w ((m r cs).bind k) (fun d _ w' => ∀ v, Rep K w' d v → Q v w'.H))
    (q : ∀ w d cs v, Sim K w cs → Rep K w d v → After K (EW K W) w (k d cs) (fun d _ w' => ∀ v, Rep K w' d v → Q v w'.H) → Q' v w.H) : tE K W m σ H Q' := by
  obtain ⟨w, r, cs, e, s, ev, a⟩ := h
  exact ⟨w, r, cs, e, s, ev, (After.bind a).imp fun d cs' w' _ s' a' v rv => q w' d cs' v s' rv a'⟩
/-- a name -/
def mV (i : Nat) : M := fun r cs => match r[i]? with
  | some (some d) => .ok d cs
  | _ => .bad
theorem je_v (i : Nat) {x : Str} {pos : Pos} (hN : X.N[i]? = some x := by rfl) (hv : Vis X.env.scope x := by first | exact Or.inl rfl | exact Or.inr (Or.inl rfl) | exact Or.inr (Or.inr rfl)) (hd : (x == ("__debug__" : Str)) = false := by decide)
    (hcd : (x == ("__classdict__" : Str)) = false := by decide) : JE X W (.Name x pos) (mV i) := by
  refine peI (pe_var hN hv hd hcd) fun σ H Q ⟨w, r, cs, e, s, ev, a⟩ => ?_
  unfold mV at a
  split at a
  · rename_i d hd
    obtain ⟨v, h1, h2⟩ := ev.at_ i d hd
    exact ⟨v, h1, e ▸ a w (Le.refl w) s v h2⟩
  · exact a.elim
def mC (d : D) : M := fun _ cs => .ok d cs
theorem tC_of {d : D} {v : V} (hr : ∀ w, Rep K w d v) : ∀ σ H Q, tE K W (mC d) σ H Q → tC v σ H Q := fun σ H Q ⟨w, r, cs, e, s, ev, a⟩ => by
  have := a w (Le.refl w) s v (hr w)
  rw [e] at this
  exact this
theorem je_int {i j pos} : JE X W (.Constant (.int i) j pos) (mC (.int i)) := peI pe_int (tC_of fun _ => rfl)
theorem je_bl {b j pos} : JE X W (.Constant (.bool b) j pos) (mC (.bl b)) := peI pe_bl (tC_of fun _ => rfl)
theorem je_non {j pos} : JE X W (.Constant .none j pos) (mC .non) := peI pe_non (tC_of fun _ => rfl)
theorem je_str {x j pos} : JE X W (.Constant (.str x) j pos) (mC (.str x)) := peI pe_str (tC_of fun _ => rfl)
theorem je_glob {x : Str} {a : Addr} {pos : Pos} (hg : Gl X x) (hm : X.mg x = some (.ref a)) (hd : (x == ("__debug__" : Str)) = false := by decide) : JE X W (.Name x pos) (mC (.rf a)) :=
  peI (pe_glob (v := .ref a) hg hm rfl hd) (tC_of fun _ => rfl)
theorem je_ty {x : Str} {n : String} {pos : Pos} (hg : Gl X x) (hm : X.mg x = none) (hv : bootBuiltins x = some (.type n)) (hn : x ≠ "__name__" := by decide) (hd : (x == ("__debug__" : Str)) = false := by decide) : JE X W (.Name x pos) (mC (.ty n)) :=
  peI (pe_bltn (v := .ty n) hg hm hv rfl hn hd) (tC_of fun _ => rfl)

/-! ### operations on values -/
abbrev Op2 := D → D → List D → R D
def OpS (K : PySem.W.Frag) (r : R2) (f : Op2) : Prop := ∀ (E : EE) (w : Wd) (cs : List D) (x y : D) (vx vy : V) (Q : VK), Sim K w cs → Rep K w x vx → Rep K w y vy →
  After K E w (f x y cs) (fun d _ w' => ∀ v, Rep K w' d v → Q v w'.H) → r vx vy w.H Q
def mOp (f : Op2) (ma mb : M) : M := fun r cs => (ma r cs).bind fun x cs => (mb r cs).bind fun y cs => f x y cs
variable {a b c : Expr} {ma mb mc : M} {pos : Pos}
theorem t_op {r : R2} {f : Op2} (hs : OpS K r f) : ∀ σ H Q, tE K W (mOp f ma mb) σ H Q → tOp r (tE K W ma) (tE K W mb) σ H Q := fun σ H Q ⟨w, rr, cs, e, s, ev, a⟩ => by
  refine ⟨w, rr, cs, e, s, ev, (After.bind a).imp fun x cs1 w1 l1 s1 a1 v1 r1 => ?_⟩
  refine ⟨w1, rr, cs1, rfl, s1, ev.mono l1, (After.bind a1).imp fun y cs2 w2 l2 s2 a2 v2 r2 => ?_⟩
  exact hs _ w2 cs2 x y v1 v2 Q s2 (Rep.mono K l2 x v1 r1) r2 a2
theorem je_op {op : Operator} {r : R2} {f : Op2} (ho : OpR X (binaryOp op) r) (hs : OpS X.K r f) (ha : JE X W a ma) (hb : JE X W b mb) : JE X W (.BinOp a op b pos) (mOp f ma mb) := peI (pe_op ho ha hb) (t_op hs)
theorem je_cmp {op : CmpOp} {r : R2} {f : Op2} (ho : OpR X (compareOp op) r) (hs : OpS X.K r f) (ha : JE X W a ma) (hb : JE X W b mb) (hm : behindInMarks op b = false) : JE X W (.Compare a [op] [b] pos) (mOp f ma mb) := peI (pe_cmpR ho ha hb hm) (t_op hs)
theorem je_ix {r : R2} {f : Op2} (ho : IxR X r) (hs : OpS X.K r f) (ha : JE X W a ma) (hb : JE X W b mb) (hp : PlainIx b) : JE X W (.Subscript a b pos) (mOp f ma mb) := peI (pe_ix ho ha hb hp) (t_op hs)
/-- a value that is True or False, as a test -/
def mB (m : M) : MT := fun r cs => (m r cs).bind fun d cs => match d with
  | .bl b => .ok b cs
  | _ => .bad
theorem t_test {t : TE} {m : M} (ht : ∀ σ H Q, tE K W m σ H Q → t σ H Q) : ∀ σ H Q, tT K W (mB m) σ H Q → tTest t σ H Q := fun σ H Q ⟨w, rr, cs, e, s, ev, a⟩ => by
  refine ht σ H _ ⟨w, rr, cs, e, s, ev, (After.bind a).imp fun x cs1 w1 l1 s1 a1 v1 r1 => ?_⟩
  cases x with
  | bl b => exact ⟨b, r1, a1 w1 (Le.refl w1) s1⟩
  | _ => exact a1.elim
theorem jt_cmp {op : CmpOp} {r : R2} {f : Op2} (ho : OpR X (compareOp op) r) (hs : OpS X.K r f) (ha : JE X W a ma) (hb : JE X W b mb) (hm : behindInMarks op b = false) : JT X W (.Compare a [op] [b] pos) (mB (mOp f ma mb)) := ptI (pt_cmpR ho ha hb hm) (t_test (t_op hs))
theorem jt_val (h : JE X W a ma) (he : ∀ whole, isTrue a X.env whole = (do let v ← whole; standAt a.pos; holding [v] (truthy v)) := by intro _; rfl) : JT X W a (mB ma) := ptI (pt_val h he) (t_test fun _ _ _ h => h)
/-- a < b < c -/
def mChain (f g : Op2) (ma mb mc : M) : M := fun r cs => (ma r cs).bind fun x cs => (mb r cs).bind fun y cs => (f x y cs).bind fun z cs => match z with
  | .bl true => (mc r cs).bind fun u cs => g y u cs
  | .bl false => .ok (.bl false) cs
  | _ => .bad
theorem t_chain {r r' : R2} {f g : Op2} (hf : OpS K r f) (hg : OpS K r' g) : ∀ σ H Q, tE K W (mChain f g ma mb mc) σ H Q → tChain r r' (tE K W ma) (tE K W mb) (tE K W mc) σ H Q := fun σ H Q ⟨w, rr, cs, e, s, ev, a⟩ => by
  refine ⟨w, rr, cs, e, s, ev, (After.bind a).imp fun x cs1 w1 l1 s1 a1 v1 r1 => ?_⟩
  refine ⟨w1, rr, cs1, rfl, s1, ev.mono l1, (After.bind a1).imp fun y cs2 w2 l2 s2 a2 v2 r2 => ?_⟩
  refine hf _ w2 cs2 x y v1 v2 _ s2 (Rep.mono K l2 x v1 r1) r2 ((After.bind a2).imp fun z cs3 w3 l3 s3 a3 v3 r3 => ?_)
  cases z with
  | bl k =>
    cases k with
    | true =>
      refine ⟨true, r3, ?_⟩
      rw [if_pos rfl]
      refine ⟨w3, rr, cs3, rfl, s3, ev.mono (l1.trans (l2.trans l3)), (After.bind a3).imp fun u cs4 w4 l4 s4 a4 v4 r4 => ?_⟩
      exact hg _ w4 cs4 y u v2 v4 Q s4 (Rep.mono K (l3.trans l4) y v2 r2) r4 a4
    | false =>
      refine ⟨false, r3, ?_⟩
      rw [if_neg Bool.false_ne_true]
      exact a3 w3 (Le.refl w3) s3 (.bl false) rfl
  | _ => exact a3.elim
theorem je_chain {op op' : CmpOp} {r r' : R2} {f g : Op2} (ho : OpR X (compareOp op) r) (hf : OpS X.K r f) (ho' : OpR X (compareOp op') r') (hg : OpS X.K r' g) (ha : JE X W a ma) (hb : JE X W b mb) (hc : JE X W c mc)
    (hm : lastMarks [op, op'] [b, c] = false := by with_unfolding_all rfl) : JE X W (.Compare a [op, op'] [b, c] pos) (mChain f g ma mb mc) := peI (pe_chain ho ho' ha hb hc hm) (t_chain hf hg)
theorem jt_chain {op op' : CmpOp} {r r' : R2} {f g : Op2} (ho : OpR X (compareOp op) r) (hf : OpS X.K r f) (ho' : OpR X (compareOp op') r') (hg : OpS X.K r' g) (ha : JE X W a ma) (hb : JE X W b mb) (hc : JE X W c mc)
    (hm : lastMarks [op, op'] [b, c] = false := by with_unfolding_all rfl) : JT X W (.Compare a [op, op'] [b, c] pos) (mB (mChain f g ma mb mc)) := ptI (pt_chain ho ho' ha hb hc hm) (t_test (t_chain hf hg))
/-- one operand -/
abbrev Op1 := D → List D → R D
def UnS (K : PySem.W.Frag) (r : V → Hp → VK → Prop) (f : Op1) : Prop := ∀ (E : EE) (w : Wd) (cs : List D) (x : D) (vx : V) (Q : VK), Sim K w cs → Rep K w x vx →
  After K E w (f x cs) (fun d _ w' => ∀ v, Rep K w' d v → Q v w'.H) → r vx w.H Q
def mUn (f : Op1) (ma : M) : M := fun r cs => (ma r cs).bind fun x cs => f x cs
theorem je_un {op : UnaryOp} {r : V → Hp → VK → Prop} {f : Op1} (ho : UnR X (unaryOp op) r) (hs : UnS X.K r f) (ha : JE X W a ma) : JE X W (.UnaryOp op a pos) (mUn f ma) := by
  refine peI (pe_un ho ha) fun σ H Q ⟨w, rr, cs, e, s, ev, a⟩ => ?_
  exact ⟨w, rr, cs, e, s, ev, (After.bind a).imp fun x cs1 w1 l1 s1 a1 v1 r1 => hs _ w1 cs1 x v1 Q s1 r1 a1⟩

/-! ### tests -/
def mNot (m : MT) : MT := fun r cs => (m r cs).bind fun b cs => .ok (!b) cs
theorem jt_not {m : MT} (h : JT X W a m) : JT X W (.UnaryOp .Not a pos) (mNot m) := by
  refine ptI (pt_not h) fun σ H Q ⟨w, rr, cs, e, s, ev, a⟩ => ?_
  exact ⟨w, rr, cs, e, s, ev, (After.bind a).imp fun x cs1 w1 l1 s1 a1 => a1 w1 (Le.refl w1) s1⟩
def mAnd (m n : MT) : MT := fun r cs => (m r cs).bind fun b cs => if b then n r cs else .ok false cs
def mOr (m n : MT) : MT := fun r cs => (m r cs).bind fun b cs => if b then .ok true cs else n r cs
abbrev JW (X : Cx) (W : WX) (e : Expr) (m : MT) : Prop := PW X e (tT X.K W m)
theorem pwI {X : Cx} {e : Expr} {t t' : TT} (h : PW X e t) (k : ∀ σ H Q, t' σ H Q → t σ H Q) : PW X e t' := ⟨fun u pins s σ H Q I q => h.run u pins s σ H Q I (k σ H Q q)⟩
theorem t_and {m n : MT} : ∀ σ H Q, tT K W (mAnd m n) σ H Q → tAnd (tT K W m) (tT K W n) σ H Q := fun σ H Q ⟨w, rr, cs, e, s, ev, a⟩ => by
  refine ⟨w, rr, cs, e, s, ev, (After.bind a).imp fun x cs1 w1 l1 s1 a1 => ?_⟩
  cases x with
  | true =>
    rw [if_pos rfl]
    exact ⟨w1, rr, cs1, rfl, s1, ev.mono l1, a1⟩
  | false =>
    rw [if_neg Bool.false_ne_true]
    exact a1 w1 (Le.refl w1) s1
theorem t_or {m n : MT} : ∀ σ H Q, tT K W (mOr m n) σ H Q → tOr (tT K W m) (tT K W n) σ H Q := fun σ H Q ⟨w, rr, cs, e, s, ev, a⟩ => by
  refine ⟨w, rr, cs, e, s, ev, (After.bind a).imp fun x cs1 w1 l1 s1 a1 => ?_⟩
  cases x with
  | true =>
    rw [if_pos rfl]
    exact a1 w1 (Le.refl w1) s1
  | false =>
    rw [if_neg Bool.false_ne_true]
    exact ⟨w1, rr, cs1, rfl, s1, ev.mono l1, a1⟩
end
end Wf
set_option Elab.async false
set_option linter.all false
set_option maxRecDepth 100000
/-! Readings by mirrors: lists of arguments, displays, slices, calls, statements. -/
namespace Wf
open PySem PySem.Spec PyProof.Rows L2
section
variable {X : Cx} {W : WX} {K : PySem.W.Frag} {a b c e : Expr} {es : List Expr} {ma mb mc m n : M} {ml : ML} {mt : MT} {pos : Pos}
theorem jw_and {rest : List Expr} {m n : MT} (h : JT X W a m) (k : JW X W (.BoolOp .And (b :: rest) pos) n) : JW X W (.BoolOp .And (a :: b :: rest) pos) (mAnd m n) := pwI (pw_and h k) t_and
theorem jw_and1 {m : MT} (h : JT X W a m) : JW X W (.BoolOp .And [a] pos) m := pw_and1 h
theorem jw_or {rest : List Expr} {m n : MT} (h : JT X W a m) (k : JW X W (.BoolOp .Or (b :: rest) pos) n) : JW X W (.BoolOp .Or (a :: b :: rest) pos) (mOr m n) := pwI (pw_or h k) t_or
theorem jw_or1 {m : MT} (h : JT X W a m) : JW X W (.BoolOp .Or [a] pos) m := pw_or1 h
theorem JW.jt {m : MT} (h : JW X W e m) : JT X W e m := PW.pt h
/-- a and b, a or b as values (the left one True or False) -/
def mAndV (m n : M) : M := fun r cs => (m r cs).bind fun d cs => match d with
  | .bl true => n r cs
  | .bl false => .ok (.bl false) cs
  | _ => .bad
def mOrV (m n : M) : M := fun r cs => (m r cs).bind fun d cs => match d with
  | .bl true => .ok (.bl true) cs
  | .bl false => n r cs
  | _ => .bad
theorem je_and {rest : List Expr} (h : JE X W a m) (k : JE X W (.BoolOp .And (b :: rest) pos) n) : JE X W (.BoolOp .And (a :: b :: rest) pos) (mAndV m n) := by
  refine peI (pe_and h k) fun σ H Q ⟨w, rr, cs, e, s, ev, a⟩ => ?_
  refine ⟨w, rr, cs, e, s, ev, (After.bind a).imp fun x cs1 w1 l1 s1 a1 v r1 => ?_⟩
  cases x with
  | bl k =>
    refine ⟨k, r1, ?_⟩
    cases k with
    | true =>
      rw [if_pos rfl]
      exact ⟨w1, rr, cs1, rfl, s1, ev.mono l1, a1⟩
    | false =>
      rw [if_neg Bool.false_ne_true]
      exact a1 w1 (Le.refl w1) s1 _ rfl
  | _ => exact a1.elim
theorem je_or {rest : List Expr} (h : JE X W a m) (k : JE X W (.BoolOp .Or (b :: rest) pos) n) : JE X W (.BoolOp .Or (a :: b :: rest) pos) (mOrV m n) := by
  refine peI (pe_or h k) fun σ H Q ⟨w, rr, cs, e, s, ev, a⟩ => ?_
  refine ⟨w, rr, cs, e, s, ev, (After.bind a).imp fun x cs1 w1 l1 s1 a1 v r1 => ?_⟩
  cases x with
  | bl k =>
    refine ⟨k, r1, ?_⟩
    cases k with
    | true =>
      rw [if_pos rfl]
      exact a1 w1 (Le.refl w1) s1 _ rfl
    | false =>
      rw [if_neg Bool.false_ne_true]
      exact ⟨w1, rr, cs1, rfl, s1, ev.mono l1, a1⟩
  | _ => exact a1.elim
theorem je_one {op : BoolOp} (h : JE X W a m) : JE X W (.BoolOp op [a] pos) m := pe_one h
def mNotV (m : M) : M := fun r cs => (m r cs).bind fun d cs => match d with
  | .bl b => .ok (.bl (!b)) cs
  | _ => .bad
theorem je_not (h : JE X W a m) : JE X W (.UnaryOp .Not a pos) (mNotV m) := by
  refine peI (pe_not h) fun σ H Q ⟨w, rr, cs, e, s, ev, a⟩ => ?_
  refine ⟨w, rr, cs, e, s, ev, (After.bind a).imp fun x cs1 w1 l1 s1 a1 v r1 => ?_⟩
  cases x with
  | bl k => exact ⟨k, r1, a1 w1 (Le.refl w1) s1 _ rfl⟩
  | _ => exact a1.elim
def mIfE (c : MT) (m n : M) : M := fun r cs => (c r cs).bind fun b cs => if b then m r cs else n r cs
theorem je_ifE {mc : MT} (hc : JT X W c mc) (ha : JE X W a m) (hb : JE X W b n) : JE X W (.IfExp c a b pos) (mIfE mc m n) := by
  refine peI (pe_ifExp hc ha hb) fun σ H Q ⟨w, rr, cs, e, s, ev, a⟩ => ?_
  refine ⟨w, rr, cs, e, s, ev, (After.bind a).imp fun x cs1 w1 l1 s1 a1 => ?_⟩
  cases x with
  | true =>
    rw [if_pos rfl]
    exact ⟨w1, rr, cs1, rfl, s1, ev.mono l1, a1⟩
  | false =>
    rw [if_neg Bool.false_ne_true]
    exact ⟨w1, rr, cs1, rfl, s1, ev.mono l1, a1⟩
/-! ### arguments, displays -/
def mNil : ML := fun _ cs => .ok [] cs
def mCons (m : M) (ml : ML) : ML := fun r cs => (m r cs).bind fun d cs => (ml r cs).bind fun ds cs => .ok (d :: ds) cs
theorem ja_nil : JA X W [] mNil := paI pa_nil fun σ H Q ⟨w, r, cs, e, s, ev, a⟩ => by
  have := a w (Le.refl w) s [] rfl
  rw [e] at this
  exact this
theorem t_cons : ∀ σ H Q, tA K W (mCons m ml) σ H Q → tCons (tE K W m) (tA K W ml) σ H Q := fun σ H Q ⟨w, rr, cs, e, s, ev, a⟩ => by
  refine ⟨w, rr, cs, e, s, ev, (After.bind a).imp fun x cs1 w1 l1 s1 a1 v1 r1 => ?_⟩
  refine ⟨w1, rr, cs1, rfl, s1, ev.mono l1, (After.bind a1).imp fun y cs2 w2 l2 s2 a2 v2 r2 => ?_⟩
  exact a2 w2 (Le.refl w2) s2 (v1 :: v2) ⟨v1, v2, rfl, Rep.mono K l2 x v1 r1, r2⟩
theorem ja_cons (h : JE X W e m) (k : JA X W es ml) (hs : starEach (e :: es) X.env = (false, eval e X.env) :: starEach es X.env := by rfl) : JA X W (e :: es) (mCons m ml) := paI (pa_cons h k hs) t_cons
theorem After.ok {α : Type} {E : EE} {w : Wd} {d : α} {cs : List D} {P : α → List D → Wd → Prop} (h : After K E w (.ok d cs) P) {w' : Wd} (l : Le w w') (s : Sim K w' cs) : P d cs w' := h w' l s
def mTup (ml : ML) : M := fun r cs => (ml r cs).bind fun ds cs => if ds.length ≤ sizeLine then .ok (.tup ds) cs else .bad
def mLst (ml : ML) : M := fun r cs => (ml r cs).bind fun ds cs => if ds.length ≤ sizeLine then .ok (.lst ds) cs else .bad
def mLstL (ml : ML) : M := fun r cs => (ml r cs).bind fun ds cs => if ds.length ≤ sizeLine ∧ nrs ds = true then .ok (.ref cs.length) (cs ++ [.lst ds]) else .bad
theorem if_bad {α : Type} {E : EE} {w : Wd} {p : Prop} [Decidable p] {r : R α} {P : α → List D → Wd → Prop} (h : After K E w (if p then r else .bad) P) : p ∧ After K E w r P := by
  by_cases hp : p
  · rw [if_pos hp] at h
    exact ⟨hp, h⟩
  · rw [if_neg hp] at h
    exact h.elim
theorem Rep.newT {w : Wd} {cs : List D} {l : List D} {xs : List V} {p : Addr} (s : Sim K w cs) (h : w.H p = none) (r : Reps K w l xs) : Rep K (w.new p (.tup xs)) (.tup l) (.ref p) :=
  ⟨p, xs, rfl, .inr rfl, upd_same, Reps.mono K (s.le_new h) l xs r⟩
theorem Rep.newL {w : Wd} {cs : List D} {l : List D} {xs : List V} {p : Addr} (s : Sim K w cs) (h : w.H p = none) (r : Reps K w l xs) : Rep K (w.new p (.lst xs)) (.lst l) (.ref p) :=
  ⟨p, xs, rfl, .inr rfl, upd_same, Reps.mono K (s.le_new h) l xs r⟩
theorem Rep.newC {w : Wd} {cs : List D} {p : Addr} {o : HO} (s : Sim K w cs) : Rep K (w.live p o) (.ref cs.length) (.ref p) := by
  refine ⟨p, rfl, ?_⟩
  show (w.p ++ [p])[cs.length]? = some p
  rw [← s.len, List.getElem?_append_right (Nat.le_refl _), Nat.sub_self]
  rfl
theorem je_tup {x1} (h : JA X W es ml) : JE X W (.Tuple es x1 pos) (mTup ml) := by
  refine peI (pe_tup h) fun σ H Q ⟨w, rr, cs, e, s, ev, a⟩ => ?_
  refine ⟨w, rr, cs, e, s, ev, (After.bind a).imp fun ds cs1 w1 l1 s1 a1 vs r1 => ?_⟩
  obtain ⟨hz, a1⟩ := if_bad a1
  refine ⟨by rw [← Reps.length _ r1]; exact hz, fun p np => ?_⟩
  exact a1.ok (s1.le_new np) (s1.new np) _ (Rep.newT s1 np r1)
theorem je_lst (h : JA X W es ml) : JE X W (.List es pos) (mLst ml) := by
  refine peI (pe_lst h) fun σ H Q ⟨w, rr, cs, e, s, ev, a⟩ => ?_
  refine ⟨w, rr, cs, e, s, ev, (After.bind a).imp fun ds cs1 w1 l1 s1 a1 vs r1 => ?_⟩
  obtain ⟨hz, a1⟩ := if_bad a1
  refine ⟨by rw [← Reps.length _ r1]; exact hz, fun p np => ?_⟩
  exact a1.ok (s1.le_new np) (s1.new np) _ (Rep.newL s1 np r1)
theorem Sim.liveL {w : Wd} {cs : List D} {l : List D} {xs : List V} {p : Addr} (s : Sim K w cs) (h : w.H p = none) (hn : nrs l = true) (r : Reps K w l xs) : Sim K (w.live p (.lst xs)) (cs ++ [.lst l]) :=
  s.live h hn ⟨xs, upd_same, Reps.mono K (s.le_live h) l xs r⟩
theorem je_lstL (h : JA X W es ml) : JE X W (.List es pos) (mLstL ml) := by
  refine peI (pe_lst h) fun σ H Q ⟨w, rr, cs, e, s, ev, a⟩ => ?_
  refine ⟨w, rr, cs, e, s, ev, (After.bind a).imp fun ds cs1 w1 l1 s1 a1 vs r1 => ?_⟩
  obtain ⟨⟨hz, hn⟩, a1⟩ := if_bad a1
  refine ⟨by rw [← Reps.length _ r1]; exact hz, fun p np => ?_⟩
  exact a1.ok (s1.le_live np) (s1.liveL np hn r1) _ (Rep.newC s1)
/-! ### slices -/
abbrev MO := Env → List D → R (Option Int)
def tOp_ (K : PySem.W.Frag) (W : WX) (m : MO) : TO := fun σ H Q => ∃ w r cs, w.H = H ∧ Sim K w cs ∧ EnvR K w r σ ∧ After K (EW K W) w (m r cs) (fun o _ w' => Q o w'.H)
abbrev JO (X : Cx) (W : WX) (e : Option Expr) (m : MO) : Prop := PO X e (tOp_ X.K W m)
def mNoP : MO := fun _ cs => .ok none cs
def mP (m : M) : MO := fun r cs => (m r cs).bind fun d cs => match d with
  | .int i => .ok (some i) cs
  | _ => .bad
theorem poI {X : Cx} {e : Option Expr} {t t' : TO} (h : PO X e t) (k : ∀ σ H Q, t' σ H Q → t σ H Q) : PO X e t' := ⟨fun pins s σ H Q I q => h.run pins s σ H Q I (k σ H Q q)⟩
theorem jo_none : JO X W none mNoP := poI po_none fun σ H Q ⟨w, r, cs, e, s, ev, a⟩ => by
  have h : Q none w.H := a w (Le.refl w) s
  rw [e] at h
  exact h
theorem jo_some (h : JE X W e m) : JO X W (some e) (mP m) := poI (po_some h) fun σ H Q ⟨w, rr, cs, e, s, ev, a⟩ => by
  refine ⟨w, rr, cs, e, s, ev, (After.bind a).imp fun x cs1 w1 l1 s1 a1 v1 r1 => ?_⟩
  cases x with
  | int i => exact ⟨i, r1, a1 w1 (Le.refl w1) s1⟩
  | _ => exact a1.elim
abbrev OpSl := D → Option Int → Option Int → List D → R D
def SlS (K : PySem.W.Frag) (r : V → Option Int → Option Int → Hp → VK → Prop) (f : OpSl) : Prop := ∀ (E : EE) (w : Wd) (cs : List D) (x : D) (vx : V) (lo hi : Option Int) (Q : VK), Sim K w cs → Rep K w x vx →
  After K E w (f x lo hi cs) (fun d _ w' => ∀ v, Rep K w' d v → Q v w'.H) → r vx lo hi w.H Q
def mSl (f : OpSl) (m : M) (lo hi : MO) : M := fun r cs => (m r cs).bind fun x cs => (lo r cs).bind fun l cs => (hi r cs).bind fun u cs => f x l u cs
theorem je_slice {lo hi : Option Expr} {ml mh : MO} {r : V → Option Int → Option Int → Hp → VK → Prop} {f : OpSl} {p2 : Pos} (ho : SlR X r) (hs : SlS X.K r f) (ha : JE X W a m) (hl : JO X W lo ml) (hh : JO X W hi mh) :
    JE X W (.Subscript a (.Slice lo hi none p2) pos) (mSl f m ml mh) := by
  refine peI (pe_slice ho ha hl hh) fun σ H Q ⟨w, rr, cs, e, s, ev, a⟩ => ?_
  refine ⟨w, rr, cs, e, s, ev, (After.bind a).imp fun x cs1 w1 l1 s1 a1 v1 r1 => ?_⟩
  refine ⟨w1, rr, cs1, rfl, s1, ev.mono l1, (After.bind a1).imp fun y cs2 w2 l2 s2 a2 => ?_⟩
  refine ⟨w2, rr, cs2, rfl, s2, ev.mono (l1.trans l2), (After.bind a2).imp fun z cs3 w3 l3 s3 a3 => ?_⟩
  exact hs _ w3 cs3 x v1 y z Q s3 (Rep.mono _ (l2.trans l3) x v1 r1) a3
/-! ### built-ins, methods of built-in types -/
abbrev OpC := List D → List D → R D
def CallS (K : PySem.W.Frag) (r : List V → Hp → VK → Prop) (f : OpC) : Prop := ∀ (E : EE) (w : Wd) (cs : List D) (ds : List D) (vs : List V) (Q : VK), Sim K w cs → Reps K w ds vs →
  After K E w (f ds cs) (fun d _ w' => ∀ v, Rep K w' d v → Q v w'.H) → r vs w.H Q
def mCB (f : OpC) (ml : ML) : M := fun r cs => (ml r cs).bind fun ds cs => f ds cs
theorem t_cb {r : List V → Hp → VK → Prop} {f : OpC} (hs : CallS K r f) : ∀ σ H Q, tE K W (mCB f ml) σ H Q → tCB r (tA K W ml) σ H Q := fun σ H Q ⟨w, rr, cs, e, s, ev, a⟩ =>
  ⟨w, rr, cs, e, s, ev, (After.bind a).imp fun x cs1 w1 l1 s1 a1 v1 r1 => hs _ w1 cs1 x v1 Q s1 r1 a1⟩
theorem je_callB {id : String} {x : Str} {p : Pos} {r : List V → Hp → VK → Prop} {f : OpC} (hc : CallR X (.builtin id) r) (hs : CallS X.K r f) (hg : Gl X x) (hm : X.mg x = none) (hv : bootBuiltins x = some (.builtin id)) (ha : JA X W (e :: es) ml) (hn : x ≠ "__name__" := by decide) (hdb : (x == ("__debug__" : Str)) = false := by decide)
    (he : starEach (e :: es) X.env = (false, eval e X.env) :: starEach es X.env := by rfl) (hpl : (backTo pos (starEach es X.env)).any (·.1) = false := by rfl) : JE X W (.Call (.Name x p) (e :: es) [] pos) (mCB f ml) := peI (pe_callB hc hg hm hv ha hn hdb he hpl) (t_cb hs)
theorem je_callT {id : String} {x : Str} {p : Pos} {r : List V → Hp → VK → Prop} {f : OpC} (hc : CallR X (.type id) r) (hs : CallS X.K r f) (hg : Gl X x) (hm : X.mg x = none) (hv : bootBuiltins x = some (.type id)) (ha : JA X W (e :: es) ml) (hn : x ≠ "__name__" := by decide) (hdb : (x == ("__debug__" : Str)) = false := by decide)
    (he : starEach (e :: es) X.env = (false, eval e X.env) :: starEach es X.env := by rfl) (hpl : (backTo pos (starEach es X.env)).any (·.1) = false := by rfl) : JE X W (.Call (.Name x p) (e :: es) [] pos) (mCB f ml) := peI (pe_callTy hc hg hm hv ha hn hdb he hpl) (t_cb hs)
abbrev OpM := D → List D → List D → R D
def tyD (T : String) (x : D) (cs : List D) : Bool := match x with
  | .str _ => T == "str"
  | .int _ => T == "int"
  | .lst _ => T == "list"
  | .dct _ _ => T == "dict"
  | .ref i => match cs[i]? with
    | some (.lst _) => T == "list"
    | some (.dct _ _) => T == "dict"
    | _ => false
  | _ => false
theorem tyD_ok {T : String} {x : D} {cs : List D} {w : Wd} {v : V} (s : Sim K w cs) (r : Rep K w x v) (h : tyD T x cs = true) : tyV K T v w.H := by
  cases x with
  | str z =>
    cases (show v = .str z from r)
    exact eq_of_beq h
  | int z =>
    cases (show v = .int z from r)
    exact eq_of_beq h
  | lst l =>
    obtain ⟨a, xs, rfl, f, g, q⟩ := r
    exact .inl ⟨eq_of_beq h, xs, .inl (.inl g)⟩
  | dct ks l =>
    obtain ⟨a, xs, rfl, f, g, _, q⟩ := r
    exact .inr (.inr (.inl ⟨eq_of_beq h, .inl ⟨_, g⟩⟩))
  | ref i =>
    obtain ⟨a, rfl, hi⟩ := r
    unfold tyD at h
    cases hc : cs[i]? with
    | none =>
      simp only [hc] at h
      cases h
    | some d =>
      obtain ⟨_, _, o, _⟩ := s.cell i a d hi hc
      cases d with
      | lst l =>
        simp only [hc] at h
        obtain ⟨xs, g, _⟩ := o
        exact .inl ⟨eq_of_beq h, xs, .inl (.inl g)⟩
      | dct ks l =>
        simp only [hc] at h
        obtain ⟨xs, g, _⟩ := o
        exact .inr (.inr (.inl ⟨eq_of_beq h, .inl ⟨_, g⟩⟩))
      | _ =>
        simp only [hc] at h
        cases h
  | _ => cases h
def MtS (K : PySem.W.Frag) (r : V → List V → Hp → VK → Prop) (f : OpM) : Prop := ∀ (E : EE) (w : Wd) (cs : List D) (x : D) (vx : V) (ds : List D) (vs : List V) (Q : VK), Sim K w cs → Rep K w x vx → Reps K w ds vs →
  After K E w (f x ds cs) (fun d _ w' => ∀ v, Rep K w' d v → Q v w'.H) → r vx vs w.H Q
def mBM (T : String) (f : OpM) (mo : M) (ml : ML) : M := fun r cs => (mo r cs).bind fun x cs => if tyD T x cs = true then (ml r cs).bind fun ds cs => f x ds cs else .bad
theorem je_bm {o : Expr} {mo : M} {name : Str} {apos cpos : Pos} {T id : String} {r : V → List V → Hp → VK → Prop} {f : OpM} (pa : PlainAttrs T) (slot : Slot T name id) (hty : typeOf (.builtin id) = pure (.type "method_descriptor")) (hm : MtR X id r) (hs : MtS X.K r f) (ho : JE X W o mo) (ha : JA X W (e :: es) ml)
    (hbase : attributeBase o name X.env (eval o X.env) = eval o X.env := by rfl)
    (hfew : ((backTo cpos (starEach (e :: es) X.env)).all (fun x => !x.1) && (backToKw cpos (keywordEach [] X.env)).all (fun x => x.1.isSome)
      && decide ((e :: es).length + ([] : List Keyword).length + (if ([] : List Keyword).isEmpty then 0 else 1) < 30)) = true := by rfl)
    (hline : (apos.endLine == cpos.line) = true := by rfl) (hst : starEach (e :: es) X.env = (false, eval e X.env) :: starEach es X.env := by rfl) (hplain : (backTo cpos (starEach es X.env)).any (·.1) = false := by rfl) :
    JE X W (.Call (.Attribute o name apos) (e :: es) [] cpos) (mBM T f mo ml) := by
  refine peI (pe_bm pa slot hty hm ho ha hbase hfew hline hst hplain) fun σ H Q ⟨w, rr, cs, e, s, ev, a⟩ => ?_
  refine ⟨w, rr, cs, e, s, ev, (After.bind a).imp fun x cs1 w1 l1 s1 a1 v1 r1 => ?_⟩
  obtain ⟨hT, a1⟩ := if_bad a1
  refine ⟨tyD_ok s1 r1 hT, w1, rr, cs1, rfl, s1, ev.mono l1, (After.bind a1).imp fun ds cs2 w2 l2 s2 a2 vs r2 => ?_⟩
  exact hs _ w2 cs2 x v1 ds vs Q s2 (Rep.mono _ l2 x v1 r1) r2 a2
def mBM0 (T : String) (f : OpM) (mo : M) : M := fun r cs => (mo r cs).bind fun x cs => if tyD T x cs = true then f x [] cs else .bad
theorem je_bm0 {o : Expr} {mo : M} {name : Str} {apos cpos : Pos} {T id : String} {r : V → List V → Hp → VK → Prop} {f : OpM} (pa : PlainAttrs T) (slot : Slot T name id) (hty : typeOf (.builtin id) = pure (.type "method_descriptor")) (hm : MtR X id r) (hs : MtS X.K r f) (ho : JE X W o mo)
    (hbase : attributeBase o name X.env (eval o X.env) = eval o X.env := by rfl) (hline : (apos.endLine == cpos.line) = true := by rfl) : JE X W (.Call (.Attribute o name apos) [] [] cpos) (mBM0 T f mo) := by
  refine peI (pe_bm0 pa slot hty hm ho hbase hline) fun σ H Q ⟨w, rr, cs, e, s, ev, a⟩ => ?_
  refine ⟨w, rr, cs, e, s, ev, (After.bind a).imp fun x cs1 w1 l1 s1 a1 v1 r1 => ?_⟩
  obtain ⟨hT, a1⟩ := if_bad a1
  exact ⟨tyD_ok s1 r1 hT, hs _ w1 cs1 x v1 [] [] Q s1 r1 rfl a1⟩
/-! ### the call of a def -/
def spF (K : PySem.W.Frag) (f : Fn) : Sp := fun vs H Q E => ∃ w ds cs, w.H = H ∧ Sim K w cs ∧ Reps K w ds vs ∧ After K (fun _ w' c od => E c od w'.H) w (f ds cs) (fun d _ w' => ∀ v, Rep K w' d v → Q v w'.H)
def noteE {α : Type} (r : Env) : R α → R α
  | .err x _ cs => .err x r cs
  | o => o
theorem After.note {w : Wd} {α : Type} {rr : Env} {x : R α} {P : α → List D → Wd → Prop} {σ : L2.St} (ev : EnvR K w rr σ) (h : After K (EW K W) w (noteE rr x) P) : After K (fun _ w' c od => W c od σ w'.H) w x P := by
  cases x with
  | ok a cs => exact h
  | err x r cs => exact fun w' c od l s q => h w' c od l s q σ (ev.mono l)
  | bad => exact h
def mCall (f : Fn) (ml : ML) : M := fun r cs => (ml r cs).bind fun ds cs => noteE r (f ds cs)
variable {k : Nat} {f : Addr} {fd : FuncData} {ps : List Str} {fn : Fn} {x : Str} {p : Pos}
theorem je_call (F : FnOk X.prog X.w X.K X.mg X.base (L2.CX X.prog X.w) k f fd ps (spF X.K fn)) (hr : Room k X.A) (hg : Gl X x) (hm : X.mg x = some (.ref f)) (hk : PySem.W.keepIn X.K (.ref f) = true) (hb : Binds X.K fd ps []) (tk : Takes X W)
    (ha : JA X W (e :: es) ml) (hdb : (x == ("__debug__" : Str)) = false := by decide) (he : starEach (e :: es) X.env = (false, eval e X.env) :: starEach es X.env := by rfl) (hpl : (backTo pos (starEach es X.env)).any (·.1) = false := by rfl) :
    JE X W (.Call (.Name x p) (e :: es) [] pos) (mCall fn ml) := by
  refine peI (pe_callS F hr hg hm hk hb (passAt tk) ha hdb he hpl) fun σ H Q ⟨w, rr, cs, e, s, ev, a⟩ => ?_
  refine ⟨w, rr, cs, e, s, ev, (After.bind a).imp fun ds cs1 w1 l1 s1 a1 vs r1 => ?_⟩
  exact ⟨w1, ds, cs1, rfl, s1, r1, After.note (ev.mono l1) a1⟩
end
end Wf
set_option Elab.async false
set_option linter.all false
set_option maxRecDepth 100000
/-! Readings by mirrors: statements, targets, loops, comprehensions, defs. -/
namespace Wf
open PySem PySem.Spec PyProof.Rows L2
section
variable {X : Cx} {W : WX} {K : PySem.W.Frag} {a b c e : Expr} {es : List Expr} {ma mb mc m n : M} {ml : ML} {mt : MT} {pos : Pos} {st : Stmt} {sts : List Stmt} {ms ns : MS}
/-! ### statements -/
def mSkip : MS := fun r cs => .ok (.nx r) cs
def mSeq (m n : MS) : MS := fun r cs => (m r cs).bind fun fl cs => match fl with
  | .nx r' => n r' cs
  | o => .ok o cs
theorem jb_nil : JB X W [] mSkip := pssI pss_nil fun D σ H ⟨w, r, cs, e, s, ev, a⟩ => by
  have h : D.nx σ w.H := a w (Le.refl w) s σ ev
  rw [e] at h
  exact h
theorem js_pass {pos : Pos} : JS X W (.Pass pos) mSkip := psI ps_pass fun D σ H ⟨w, r, cs, e, s, ev, a⟩ => by
  have h : D.nx σ w.H := a w (Le.refl w) s σ ev
  rw [e] at h
  exact h
theorem t_seq : ∀ D σ H, tS K W (mSeq ms ns) D σ H → tSeq (tS K W ms) (tS K W ns) D σ H := fun D σ H ⟨w, rr, cs, e, s, ev, a⟩ => by
  refine ⟨w, rr, cs, e, s, ev, (After.bind a).imp fun fl cs1 w1 l1 s1 a1 => ?_⟩
  cases fl with
  | nx r' => exact fun σ' ev' => ⟨w1, r', cs1, rfl, s1, ev', a1⟩
  | ret d => exact a1 w1 (Le.refl w1) s1
  | brk r' => exact a1 w1 (Le.refl w1) s1
  | ct r' => exact a1 w1 (Le.refl w1) s1
theorem jb_cons (h : JS X W st ms) (k : JB X W sts ns) : JB X W (st :: sts) (mSeq ms ns) := pssI (pss_cons h k) t_seq
theorem jb_one (h : JS X W st ms) : JB X W [st] ms := pss_one h
def mBrk : MS := fun r cs => .ok (.brk r) cs
def mCt : MS := fun r cs => .ok (.ct r) cs
theorem js_brk {pos : Pos} : JS X W (.Break pos) mBrk := psI ps_break fun D σ H ⟨w, r, cs, e, s, ev, a⟩ => by
  have h : D.bk σ w.H := a w (Le.refl w) s σ ev
  rw [e] at h
  exact h
theorem js_ct {pos : Pos} : JS X W (.Continue pos) mCt := psI ps_continue fun D σ H ⟨w, r, cs, e, s, ev, a⟩ => by
  have h : D.ct σ w.H := a w (Le.refl w) s σ ev
  rw [e] at h
  exact h
def mExpr (m : M) : MS := fun r cs => (m r cs).bind fun _ cs => .ok (.nx r) cs
theorem js_expr (h : JE X W e m) (hs : swapsWith e none pos.line X.env = pure false := by rfl) : JS X W (.Expr e pos) (mExpr m) := psI (ps_expr h hs) fun D σ H ⟨w, rr, cs, e, s, ev, a⟩ =>
  ⟨w, rr, cs, e, s, ev, (After.bind a).imp fun x cs1 w1 l1 s1 a1 v1 r1 => a1 w1 (Le.refl w1) s1 σ (ev.mono l1)⟩
def mRet (m : M) : MS := fun r cs => (m r cs).bind fun d cs => .ok (.ret d) cs
theorem js_ret (h : JE X W e m) : JS X W (.Return (some e) pos) (mRet m) := psI (ps_ret h) fun D σ H ⟨w, rr, cs, e, s, ev, a⟩ =>
  ⟨w, rr, cs, e, s, ev, (After.bind a).imp fun x cs1 w1 l1 s1 a1 v1 r1 => a1 w1 (Le.refl w1) s1 v1 r1⟩
theorem js_retN : JS X W (.Return none pos) (mRet (mC .non)) := psI ps_retN fun D σ H ⟨w, rr, cs, e, s, ev, a⟩ => by
  have h : D.rt .non w.H := a w (Le.refl w) s .non rfl
  rw [e] at h
  exact h
def mIf (c : MT) (m n : MS) : MS := fun r cs => (c r cs).bind fun b cs => if b then m r cs else n r cs
theorem js_if {A B : List Stmt} {mc : MT} (hc : JT X W c mc) (ha : JB X W A ms) (hb : JB X W B ns) : JS X W (.If c A B pos) (mIf mc ms ns) := psI (ps_if hc ha hb) fun D σ H ⟨w, rr, cs, e, s, ev, a⟩ => by
  refine ⟨w, rr, cs, e, s, ev, (After.bind a).imp fun x cs1 w1 l1 s1 a1 => ?_⟩
  cases x with
  | true =>
    rw [if_pos rfl]
    exact ⟨w1, rr, cs1, rfl, s1, ev.mono l1, a1⟩
  | false =>
    rw [if_neg Bool.false_ne_true]
    exact ⟨w1, rr, cs1, rfl, s1, ev.mono l1, a1⟩
/-! ### targets: names, and tuples of names -/
def GT (K : PySem.W.Frag) (vs : List Nat) (g : TG) (f : D → Env → Option Env) : Prop := ∀ (w : Wd) (r r' : Env) (σ : L2.St) (d : D) (v : V) (Q : L2.St → Hp → Prop), EnvR K w r σ → Rep K w d v → f d r = some r' →
  (∀ σ', EnvR K w r' σ' → wipe σ' vs = wipe σ vs → Q σ' w.H) → g v σ w.H Q
def gtN (i : Nat) : D → Env → Option Env := fun d r => some (r.set i (some d))
theorem wipe_set {σ : L2.St} {i : Nat} {o : Option V} : ∀ {vs : List Nat}, i ∈ vs → wipe (σ.set i o) vs = wipe σ vs
  | v :: vs, h => by
    unfold wipe
    by_cases hv : i ∈ vs
    · rw [wipe_set hv]
    · have e : v = i := by
        rcases List.mem_cons.mp h with h | h
        · exact h.symm
        · exact absurd h hv
      subst e
      have aux : ∀ (us : List Nat) (τ : L2.St), (wipe (τ.set v o) us).set v none = (wipe τ us).set v none := by
        intro us
        induction us with
        | nil => intro τ; show (τ.set v o).set v none = τ.set v none; exact List.set_set _
        | cons u us ih =>
          intro τ
          unfold wipe
          by_cases hu : u = v
          · subst hu
            rw [List.set_set, List.set_set]
            exact ih τ
          · rw [List.set_comm _ _ hu, List.set_comm _ _ hu, ih τ]
      exact aux vs σ
theorem gt_name {vs : List Nat} {i : Nat} (h : i ∈ vs) : GT K vs (gName i) (gtN i) := fun w r r' σ d v Q ev rv e q => by
  have e2 : r.set i (some d) = r' := Option.some.inj e
  subst e2
  exact q _ (ev.set i rv) (wipe_set h)
abbrev GTs (K : PySem.W.Frag) (vs : List Nat) (g : TGs) (f : List D → Env → Option Env) : Prop := ∀ (w : Wd) (r r' : Env) (σ : L2.St) (ds : List D) (xs : List V) (Q : L2.St → Hp → Prop), EnvR K w r σ → Reps K w ds xs → f ds r = some r' →
  (∀ σ', EnvR K w r' σ' → wipe σ' vs = wipe σ vs → Q σ' w.H) → g xs σ w.H Q
def gtNil : List D → Env → Option Env := fun ds r => match ds with
  | [] => some r
  | _ => none
def gtCons (f : D → Env → Option Env) (g : List D → Env → Option Env) : List D → Env → Option Env := fun ds r => match ds with
  | d :: ds => (f d r).bind (g ds)
  | [] => none
theorem gts_nil {vs : List Nat} : GTs K vs gNil gtNil := fun w r r' σ ds xs Q ev rv e q => by
  cases ds with
  | nil =>
    cases (show xs = [] from rv)
    have e2 : r = r' := Option.some.inj e
    subst e2
    exact ⟨rfl, q σ ev rfl⟩
  | cons d ds => cases e
theorem gts_cons {vs : List Nat} {g : TG} {h : TGs} {f : D → Env → Option Env} {k : List D → Env → Option Env} (hg : GT K vs g f) (hh : GTs K vs h k) : GTs K vs (gCons g h) (gtCons f k) := fun w r r' σ ds xs Q ev rv e q => by
  cases ds with
  | nil => cases e
  | cons d ds =>
    obtain ⟨v, vs', rfl, rd, rds⟩ := rv
    unfold gtCons at e
    cases h1 : f d r with
    | none =>
      simp only [h1] at e
      cases e
    | some r1 =>
      simp only [h1] at e
      refine ⟨v, vs', rfl, hg w r r1 σ d v _ ev rd h1 fun σ1 ev1 w1 => ?_⟩
      exact hh w r1 r' σ1 ds vs' Q ev1 rds e fun σ2 ev2 w2 => q σ2 ev2 (w2.trans w1)
def gtTup (n : Nat) (f : List D → Env → Option Env) : D → Env → Option Env := fun d r => match d with
  | .tup ds => if ds.length = n then f ds r else none
  | _ => none
theorem gt_tup {vs : List Nat} {n : Nat} {h : TGs} {k : List D → Env → Option Env} (hh : GTs K vs h k) : GT K vs (gTup K n h) (gtTup n k) := fun w r r' σ d v Q ev rv e q => by
  cases d with
  | tup ds =>
    obtain ⟨a, xs, rfl, f, g, rs⟩ := rv
    unfold gtTup at e
    by_cases hn : ds.length = n
    · simp only [if_pos hn] at e
      exact ⟨a, xs, rfl, .inl (.inl g), by rw [← Reps.length _ rs]; exact hn, hh w r r' σ ds xs Q ev rs e q⟩
    · simp only [if_neg hn] at e
      cases e
  | _ => cases e
/-- target = e -/
def mAsg (f : D → Env → Option Env) (m : M) : MS := fun r cs => (m r cs).bind fun d cs => match f d r with
  | some r' => .ok (.nx r') cs
  | none => .bad
theorem t_asg {te : TE} {vs : List Nat} {g : TG} {f : D → Env → Option Env} (ht : ∀ σ H Q, tE K W m σ H Q → te σ H Q) (hg : GT K vs g f) : ∀ D σ H, tS K W (mAsg f m) D σ H → tAsg te g D σ H := fun D σ H ⟨w, rr, cs, e, s, ev, a⟩ => by
  refine ht σ H _ ⟨w, rr, cs, e, s, ev, (After.bind a).imp fun x cs1 w1 l1 s1 a1 v1 r1 => ?_⟩
  cases h1 : f x rr with
  | none =>
    simp only [h1] at a1
    exact a1.elim
  | some r' =>
    simp only [h1] at a1
    exact hg w1 rr r' σ x v1 _ (ev.mono l1) r1 h1 fun σ' ev' _ => a1 w1 (Le.refl w1) s1 σ' ev'
theorem js_set {i : Nat} {x : Str} {pos' : Pos} (hN : X.N.Nodup) (hi : X.N[i]? = some x) (hx : Loc X.env.scope x) (he : JE X W e m) (hs : swapsWith e (some (.Name x pos')) pos.line X.env = pure false := by rfl) (hf : X.fn x = true ∨ X.env.scope.names.lookup x = some .local := by first | exact .inl rfl | exact .inr rfl | assumption) :
    JS X W (.Assign [.Name x pos'] e pos) (mAsg (gtN i) m) := psI (ps_set hN hi hx he hs hf) (t_asg (fun _ _ _ h => h) (gt_name (vs := [i]) (by simp)))
theorem js_asg {tg : Expr} {vs : List Nat} {g : TG} {f : D → Env → Option Env} (he : JE X W e m) (hg : PG X tg g) (hG : GT X.K vs g f) (hs : swapsWithSole [tg] e pos.line X.env = pure false := by rfl) (hw : swappedStores [tg] e X.env = pure none := by rfl)
    (h1 : (assignEach [tg] X.env).map (·.2) = [assign tg X.env] := by rfl) : JS X W (.Assign [tg] e pos) (mAsg f m) := psI (ps_asg he hg hs hw h1) (t_asg (fun _ _ _ h => h) hG)
/-- o[i] = e -/
abbrev Op3 := D → D → D → List D → Option (List D)
def SetS (K : PySem.W.Frag) (r : V → V → V → Hp → (Hp → Prop) → Prop) (f : Op3) : Prop := ∀ (w : Wd) (cs cs' : List D) (o i d : D) (vo vi v : V) (Q : Hp → Prop), Sim K w cs → Rep K w o vo → Rep K w i vi → Rep K w d v → f o i d cs = some cs' →
  (∀ w', Le w w' → Sim K w' cs' → Q w'.H) → r vo vi v w.H Q
def mSub (f : Op3) (me mo mi : M) : MS := fun r cs => (me r cs).bind fun d cs => (mo r cs).bind fun o cs => (mi r cs).bind fun i cs => match f o i d cs with
  | some cs' => .ok (.nx r) cs'
  | none => .bad
theorem js_sub {o i : Expr} {mo mi : M} {r : V → V → V → Hp → (Hp → Prop) → Prop} {f : Op3} (hr : PSet X r) (hs : SetS X.K r f) (he : JE X W e m) (ho : JE X W o mo) (hi : JE X W i mi) {p2 : Pos}
    (ha : ∀ v, assign (.Subscript o i p2) X.env v = (do
      let ov ← holding [v] (eval o X.env)
      let iv ← holding [v, ov] (eval i X.env)
      standAt p2
      holding [v, ov, iv] (setItem ov iv v)
      release [v, ov, iv] []) := by intro _; rfl)
    (hsw : swapsWithSole [.Subscript o i p2] e pos.line X.env = pure false := by rfl) (hw : swappedStores [.Subscript o i p2] e X.env = pure none := by rfl)
    (h1 : (assignEach [.Subscript o i p2] X.env).map (·.2) = [assign (.Subscript o i p2) X.env] := by rfl) : JS X W (.Assign [.Subscript o i p2] e pos) (mSub f m mo mi) := by
  refine psI (ps_asg he (pg_sub ho hi hr ha) hsw hw h1) fun D σ H ⟨w, rr, cs, e, s, ev, a⟩ => ?_
  refine ⟨w, rr, cs, e, s, ev, (After.bind a).imp fun x cs1 w1 l1 s1 a1 v1 r1 => ?_⟩
  refine ⟨w1, rr, cs1, rfl, s1, ev.mono l1, (After.bind a1).imp fun y cs2 w2 l2 s2 a2 v2 r2 => ?_⟩
  refine ⟨w2, rr, cs2, rfl, s2, ev.mono (l1.trans l2), (After.bind a2).imp fun z cs3 w3 l3 s3 a3 v3 r3 => ?_⟩
  cases h1 : f y z x cs3 with
  | none =>
    simp only [h1] at a3
    exact a3.elim
  | some cs4 =>
    simp only [h1] at a3
    exact hs w3 cs3 cs4 y z x v2 v3 v1 _ s3 (Rep.mono _ l3 y v2 r2) r3 (Rep.mono _ (l2.trans l3) x v1 r1) h1 fun w4 l4 s4 => a3 w4 l4 s4 σ (ev.mono (l1.trans (l2.trans (l3.trans l4))))
/-! ### what a loop walks -/
def IterOk (K : PySem.W.Frag) (w : Wd) (J : It) (ds : List D) : Prop := ∀ w', Lx w w' → ∀ i : Nat, (ds.length ≤ i → J.stop i w'.H) ∧ ∀ d, ds[i]? = some d → J.go i w'.H ∧
  ∀ x H' cs, Sim K w' cs → J.yld i w'.H x H' → ∃ w2, w2.H = H' ∧ Le w' w2 ∧ Sim K w2 cs ∧ Rep K w2 d x
theorem IterOk.mono {w w' : Wd} {J : It} {ds : List D} (e : Lx w w') (h : IterOk K w J ds) : IterOk K w' J ds := fun w2 l => h w2 (e.trans l)
def tIt (K : PySem.W.Frag) (W : WX) (m : ML) : TI := fun σ H Rr => ∃ w r cs, w.H = H ∧ Sim K w cs ∧ EnvR K w r σ ∧ After K (EW K W) w (m r cs) (fun ds _ w' => ∀ J, IterOk K w' J ds → Rr J w'.H)
abbrev JI (X : Cx) (W : WX) (tg e : Expr) (m : ML) : Prop := PI X tg e (tIt X.K W m)
theorem piI {X : Cx} {tg e : Expr} {t t' : TI} (h : PI X tg e t) (k : ∀ σ H Q, t' σ H Q → t σ H Q) : PI X tg e t' := ⟨fun pins s σ H Q I q => h.run pins s σ H Q I (k σ H Q q)⟩
def itD (d : D) : Option (List D) := match d with
  | .lst l => some l
  | .tup l => some l
  | .wl l => some (l.map .int)
  | .str s => some (s.cps.toList.map fun c => .str ⟨#[c]⟩)
  | _ => none
def mIt (f : D → Option (List D)) (m : M) : ML := fun r cs => (m r cs).bind fun d cs => match f d with
  | some l => .ok l cs
  | none => .bad
def itL (d : D) : Option (List D) := match d with
  | .lst l => some l
  | .wl l => some (l.map .int)
  | _ => none
theorem IterOk.list {w : Wd} {a : Addr} {xs : List V} {ds : List D} (h : ∀ w', Lx w w' → SqL K w'.H a xs) (r : Reps K w ds xs) : IterOk K w (Itl K a) ds := fun w' l i => by
  refine ⟨fun hi => ⟨xs, h w' l, by rw [← Reps.length _ r]; exact hi⟩, fun d hd => ?_⟩
  obtain ⟨x, hx, rx⟩ := Reps.get _ r hd
  refine ⟨⟨xs, x, h w' l, hx⟩, fun y H' cs s ⟨e, hy⟩ => ⟨w', e.symm, Le.refl w', s, ?_⟩⟩
  have := hy xs (h w' l)
  rw [hx] at this
  cases this
  exact Rep.x l d x rx
theorem IterOk.tuple {w : Wd} {a : Addr} {xs : List V} {ds : List D} (h : ∀ w', Lx w w' → SqT K w'.H a xs) (r : Reps K w ds xs) : IterOk K w (Itt K a) ds := fun w' l i => by
  refine ⟨fun hi => ⟨xs, h w' l, by rw [← Reps.length _ r]; exact hi⟩, fun d hd => ?_⟩
  obtain ⟨x, hx, rx⟩ := Reps.get _ r hd
  refine ⟨⟨xs, x, h w' l, hx⟩, fun y H' cs s ⟨e, hy⟩ => ⟨w', e.symm, Le.refl w', s, ?_⟩⟩
  have := hy xs (h w' l)
  rw [hx] at this
  cases this
  exact Rep.x l d x rx
theorem ji_list {tg : Expr} (h : JE X W e m) : JI X W tg e (mIt itL m) := by
  refine piI (pi_list h) fun σ H Q ⟨w, rr, cs, e, s, ev, a⟩ => ?_
  refine ⟨w, rr, cs, e, s, ev, (After.bind a).imp fun x cs1 w1 l1 s1 a1 v1 r1 => ?_⟩
  cases x with
  | lst l =>
    obtain ⟨p, xs, rfl, f, g, q⟩ := r1
    refine ⟨p, rfl, ⟨xs, .inl (.inl g)⟩, a1 w1 (Le.refl w1) s1 _ (IterOk.list (fun w' l => .inl (.inl ((l.keep p f).trans g))) q)⟩
  | wl l =>
    obtain ⟨p, rfl, hq⟩ := r1
    have hs : ∀ w', Lx w1 w' → SqL X.K w'.H p (l.map V.int) := fun w' le => by
      rcases hq with ⟨f, q⟩ | q
      · exact le.sql f q
      · exact q w'.H
    exact ⟨p, rfl, ⟨_, hs w1 (Le.refl w1).x⟩, a1 w1 (Le.refl w1) s1 _ (IterOk.list hs (Reps.ints _ l))⟩
  | _ => exact a1.elim
def itT (d : D) : Option (List D) := match d with
  | .tup l => some l
  | _ => none
theorem ji_tup {tg : Expr} (h : JE X W e m) : JI X W tg e (mIt itT m) := by
  refine piI (pi_tup h) fun σ H Q ⟨w, rr, cs, e, s, ev, a⟩ => ?_
  refine ⟨w, rr, cs, e, s, ev, (After.bind a).imp fun x cs1 w1 l1 s1 a1 v1 r1 => ?_⟩
  cases x with
  | tup l =>
    obtain ⟨p, xs, rfl, f, g, q⟩ := r1
    refine ⟨p, rfl, ⟨xs, .inl (.inl g)⟩, a1 w1 (Le.refl w1) s1 _ (IterOk.tuple (fun w' l => .inl (.inl ((l.keep p f).trans g))) q)⟩
  | _ => exact a1.elim
def chrs (s : Str) : List D := s.cps.toList.map fun c => .str ⟨#[c]⟩
def itS (d : D) : Option (List D) := match d with
  | .str s => some (chrs s)
  | _ => none
theorem ji_str {tg : Expr} (h : JE X W e m) : JI X W tg e (mIt itS m) := by
  refine piI (pi_str h) fun σ H Q ⟨w, rr, cs, e, s, ev, a⟩ => ?_
  refine ⟨w, rr, cs, e, s, ev, (After.bind a).imp fun x cs1 w1 l1 s1 a1 v1 r1 => ?_⟩
  cases x with
  | str z =>
    refine ⟨z, r1, a1 w1 (Le.refl w1) s1 _ fun w' l i => ⟨fun hi => ?_, fun d hd => ?_⟩⟩
    · show z.cps.size ≤ i
      have : (chrs z).length = z.cps.size := by
        unfold chrs
        rw [List.length_map]
        rfl
      rw [← this]
      exact hi
    · unfold chrs at hd
      rw [List.getElem?_map] at hd
      cases hc : z.cps.toList[i]? with
      | none =>
        rw [hc] at hd
        cases hd
      | some c =>
        rw [hc] at hd
        have hd2 : D.str ⟨#[c]⟩ = d := Option.some.inj hd
        have hi : i < z.cps.size := (List.getElem?_eq_some_iff.mp hc).1
        refine ⟨hi, fun y H' cs s ⟨e1, c', hc', ey⟩ => ⟨w', e1.symm, Le.refl w', s, ?_⟩⟩
        have : z.cps[i]? = some c := by
          rw [← Array.getElem?_toList]
          exact hc
        rw [this] at hc'
        cases hc'
        rw [← hd2, ey]
        rfl
  | _ => exact a1.elim
def rng (lo : Int) (n : Nat) : List D := (List.range n).map fun k => .int (lo + (k : Nat))
theorem IterOk.rng {w : Wd} {lo : Int} {n : Nat} : IterOk K w (Itr lo n) (rng lo n) := fun w' l i => by
  refine ⟨fun hi => ?_, fun d hd => ?_⟩
  · show n ≤ i
    unfold Wf.rng at hi
    rw [List.length_map, List.length_range] at hi
    exact hi
  · unfold Wf.rng at hd
    rw [List.getElem?_map] at hd
    cases hc : (List.range n)[i]? with
    | none =>
      rw [hc] at hd
      cases hd
    | some c =>
      rw [hc] at hd
      have hi : i < n := by
        have := (List.getElem?_eq_some_iff.mp hc).1
        rw [List.length_range] at this
        exact this
      have ec : c = i := by
        rw [List.getElem?_range hi] at hc
        exact (Option.some.inj hc).symm
      subst ec
      refine ⟨hi, fun y H' cs s ⟨e1, ey⟩ => ⟨w', e1.symm, Le.refl w', s, ?_⟩⟩
      have hd2 : D.int (lo + (c : Nat)) = d := Option.some.inj hd
      rw [← hd2, ey]
      rfl
/-- range(n), range(a, b) -/
def mRng1 (ml : ML) : ML := fun r cs => (ml r cs).bind fun ds cs => match ds with
  | [.int j] => if -(2 ^ 62) ≤ j ∧ j < 2 ^ 62 then .ok (rng 0 j.toNat) cs else .bad
  | _ => .bad
def mRng2 (ml : ML) : ML := fun r cs => (ml r cs).bind fun ds cs => match ds with
  | [.int i, .int j] => if -(2 ^ 62) ≤ i ∧ i < 2 ^ 62 ∧ -(2 ^ 62) ≤ j ∧ j < 2 ^ 62 then .ok (rng i (j - i).toNat) cs else .bad
  | _ => .bad
theorem t_rng1 : ∀ σ H Q, tIt K W (mRng1 ml) σ H Q → iRng1 (tA K W ml) σ H Q := fun σ H Q ⟨w, rr, cs, e, s, ev, a⟩ => by
  refine ⟨w, rr, cs, e, s, ev, (After.bind a).imp fun x cs1 w1 l1 s1 a1 v1 r1 => ?_⟩
  split at a1
  · rename_i j
    obtain ⟨hj, a1⟩ := if_bad a1
    obtain ⟨v, vs, e1, r2, r3⟩ := r1
    cases (show v = .int j from r2)
    cases (show vs = [] from r3)
    exact ⟨j, e1, hj.1, hj.2, a1 w1 (Le.refl w1) s1 _ IterOk.rng⟩
  · exact a1.elim
theorem t_rng2 : ∀ σ H Q, tIt K W (mRng2 ml) σ H Q → iRng2 (tA K W ml) σ H Q := fun σ H Q ⟨w, rr, cs, e, s, ev, a⟩ => by
  refine ⟨w, rr, cs, e, s, ev, (After.bind a).imp fun x cs1 w1 l1 s1 a1 v1 r1 => ?_⟩
  split at a1
  · rename_i i j
    obtain ⟨hj, a1⟩ := if_bad a1
    obtain ⟨v, vs, e1, r2, v', vs', e2, r3, r4⟩ := r1
    cases (show v = .int i from r2)
    cases (show v' = .int j from r3)
    cases (show vs' = [] from r4)
    subst e2
    exact ⟨i, j, e1, hj, a1 w1 (Le.refl w1) s1 _ IterOk.rng⟩
  · exact a1.elim
/-! ### for, while -/
def forR (f : Env → D → List D → R Fl) : List D → Env → List D → R Fl
  | [], r, cs => .ok (.nx r) cs
  | d :: ds, r, cs => (f r d cs).bind fun fl cs => match fl with
    | .nx r' => forR f ds r' cs
    | .ct r' => forR f ds r' cs
    | .brk r' => .ok (.nx r') cs
    | .ret v => .ok (.ret v) cs
def mFor (mi : ML) (g : D → Env → Option Env) (b : MS) : MS := fun r cs => (mi r cs).bind fun ds cs => forR (fun r d cs => match g d r with
  | some r' => b r' cs
  | none => .bad) ds r cs
theorem js_for {tg iter : Expr} {body : List Stmt} {mi : ML} {vs : List Nat} {g : TG} {gf : D → Env → Option Env} (hp : PassesOwn (model X.prog X.w) X.A X.env X.xe) (hc : X.calm = true) (hi : JI X W tg iter mi) (hg : PG X tg g) (hG : GT X.K vs g gf) (hb : JB X W body ms)
    (hs : ∀ x, foldedSetIterable iter X.env x = pure x := by intro _; rfl) : JS X W (.For tg iter body [] pos) (mFor mi gf ms) := by
  refine psI (ps_for hp hc hi hg hb hs) fun D σ H ⟨w, rr, cs, e, s, ev, a⟩ => ?_
  refine ⟨w, rr, cs, e, s, ev, (After.bind a).imp fun ds cs1 w1 l1 s1 a1 J hJ => ?_⟩
  refine ⟨fun i n σ2 H2 => ∃ w2 r2 cs2, n + i = ds.length ∧ w2.H = H2 ∧ Sim X.K w2 cs2 ∧ EnvR X.K w2 r2 σ2 ∧ IterOk X.K w2 J ds ∧ After X.K (EW X.K W) w2 (forR (fun r d cs => match gf d r with
    | some r' => ms r' cs
    | none => .bad) (ds.drop i) r2 cs2) (fun fl _ w' => FlP X.K D fl w'), ⟨ds.length, w1, rr, cs1, rfl, rfl, s1, ev.mono l1, hJ, a1⟩, fun i n σ2 H2 ⟨w2, r2, cs2, en, e2, s2, ev2, J2, a2⟩ => ?_⟩
  subst e2
  obtain ⟨hstop, hgo⟩ := J2 w2 (Le.refl w2).x i
  by_cases hi : i < ds.length
  · right
    have hd : ds[i]? = some ds[i] := List.getElem?_eq_getElem hi
    obtain ⟨go, hy⟩ := hgo ds[i] hd
    rw [List.drop_eq_getElem_cons hi] at a2
    refine ⟨go, fun σ3 H3 => ∃ w3 r3 cs3, w3.H = H3 ∧ Sim X.K w3 cs3 ∧ EnvR X.K w3 r3 σ3 ∧ IterOk X.K w3 J ds ∧ After X.K (EW X.K W) w3 (forR (fun r d cs => match gf d r with
      | some r' => ms r' cs
      | none => .bad) (ds.drop (i + 1)) r3 cs3) (fun fl _ w' => FlP X.K D fl w'), fun σ3 H3 ⟨w3, r3, cs3, e3, s3, ev3, J3, a3⟩ => ⟨n - 1, by omega, w3, r3, cs3, by omega, e3, s3, ev3, J3, a3⟩, fun x H' yl => ?_⟩
    obtain ⟨w3, e3, l3, s3, rd⟩ := hy x H' cs2 s2 yl
    subst e3
    have a3 := After.bind (After.mono l3 a2)
    cases hgf : gf ds[i] r2 with
    | none =>
      simp only [hgf] at a3
      exact a3.elim
    | some r' =>
      simp only [hgf] at a3
      refine hG w3 r2 r' σ2 ds[i] x _ (ev2.mono l3) rd hgf fun σ4 ev4 _ => ?_
      refine ⟨w3, r', cs2, rfl, s3, ev4, a3.imp fun fl cs5 w5 l5 s5 a5 => ?_⟩
      cases fl with
      | nx r5 => exact fun σ5 ev5 => ⟨w5, r5, cs5, rfl, s5, ev5, J2.mono (l3.trans l5).x, a5⟩
      | ct r5 => exact fun σ5 ev5 => ⟨w5, r5, cs5, rfl, s5, ev5, J2.mono (l3.trans l5).x, a5⟩
      | brk r5 => exact a5 w5 (Le.refl w5) s5
      | ret v => exact a5 w5 (Le.refl w5) s5
  · left
    refine ⟨hstop (by omega), ?_⟩
    rw [List.drop_eq_nil_of_le (by omega)] at a2
    exact a2 w2 (Le.refl w2) s2 σ2 ev2
def whileR (c : MT) (b : MS) : Nat → Env → List D → R Fl
  | 0, _, _ => .bad
  | n + 1, r, cs => (c r cs).bind fun t cs => if t then (b r cs).bind fun fl cs => match fl with
      | .nx r' => whileR c b n r' cs
      | .ct r' => whileR c b n r' cs
      | .brk r' => .ok (.nx r') cs
      | .ret v => .ok (.ret v) cs
    else .ok (.nx r) cs
def mWhile (n : Nat) (c : MT) (b : MS) : MS := fun r cs => whileR c b n r cs
theorem js_while (n : Nat) {c : Expr} {body : List Stmt} {mc : MT} (hp : PassesOwn (model X.prog X.w) X.A X.env X.xe) (hc : JT X W c mc) (hb : JB X W body ms) : JS X W (.While c body [] pos) (mWhile n mc ms) := by
  refine psI (ps_while hp hc hb) fun D σ H ⟨w, rr, cs, e, s, ev, a⟩ => ?_
  refine ⟨fun k σ2 H2 => ∃ w2 r2 cs2, w2.H = H2 ∧ Sim X.K w2 cs2 ∧ EnvR X.K w2 r2 σ2 ∧ After X.K (EW X.K W) w2 (whileR mc ms k r2 cs2) (fun fl _ w' => FlP X.K D fl w'), ⟨n, w, rr, cs, e, s, ev, a⟩, fun k σ2 H2 ⟨w2, r2, cs2, e2, s2, ev2, a2⟩ => ?_⟩
  subst e2
  cases k with
  | zero => exact a2.elim
  | succ k =>
    refine ⟨w2, r2, cs2, rfl, s2, ev2, (After.bind a2).imp fun t cs3 w3 l3 s3 a3 => ?_⟩
    cases t with
    | false =>
      rw [if_neg Bool.false_ne_true]
      exact a3 w3 (Le.refl w3) s3 σ2 (ev2.mono l3)
    | true =>
      rw [if_pos rfl]
      refine ⟨fun σ4 H4 => ∃ w4 r4 cs4, w4.H = H4 ∧ Sim X.K w4 cs4 ∧ EnvR X.K w4 r4 σ4 ∧ After X.K (EW X.K W) w4 (whileR mc ms k r4 cs4) (fun fl _ w' => FlP X.K D fl w'), fun σ4 H4 h4 => ⟨k, Nat.lt_succ_self k, h4⟩, ?_⟩
      refine ⟨w3, r2, cs3, rfl, s3, ev2.mono l3, (After.bind a3).imp fun fl cs5 w5 l5 s5 a5 => ?_⟩
      cases fl with
      | nx r5 => exact fun σ5 ev5 => ⟨w5, r5, cs5, rfl, s5, ev5, a5⟩
      | ct r5 => exact fun σ5 ev5 => ⟨w5, r5, cs5, rfl, s5, ev5, a5⟩
      | brk r5 => exact a5 w5 (Le.refl w5) s5
      | ret v => exact a5 w5 (Le.refl w5) s5
end
end Wf
set_option Elab.async false
set_option linter.all false
set_option maxRecDepth 100000
/-! Readings by mirrors: comprehensions, calls by keywords, defs. -/
namespace Wf
open PySem PySem.Spec PyProof.Rows L2
section
variable {X : Cx} {W : WX} {K : PySem.W.Frag} {a b c e : Expr} {es : List Expr} {ma mb mc m n : M} {ml : ML} {mt : MT} {pos : Pos} {st : Stmt} {sts : List Stmt} {ms ns : MS}
/-! ### comprehensions -/
def addO (o : Option D) (ys : List D) : List D := match o with
  | some y => y :: ys
  | none => ys
def mapR (f : D → List D → R (Option D)) : List D → List D → R (List D)
  | [], cs => .ok [] cs
  | d :: ds, cs => (f d cs).bind fun o cs => (mapR f ds cs).bind fun ys cs => .ok (addO o ys) cs
def tW (W : WX) : WX := fun _ _ _ _ => False
abbrev W0 : WX := fun _ _ _ _ => False
def wipeD (r : Env) : List Nat → Env
  | [] => r
  | v :: vs => (wipeD r vs).set v none
theorem EnvR.wipe {w : Wd} {r : Env} {σ : L2.St} (h : EnvR K w r σ) : ∀ vs : List Nat, EnvR K w (wipeD r vs) (wipe σ vs)
  | [] => h
  | v :: vs => (EnvR.wipe h vs).unset v none
theorem wipe_get {σ : L2.St} {v : Nat} : ∀ {vs : List Nat}, v ∈ vs → (wipe σ vs)[v]? = none ∨ (wipe σ vs)[v]? = some none
  | u :: vs, h => by
    unfold L2.wipe
    by_cases e : u = v
    · subst e
      by_cases hl : u < (L2.wipe σ vs).length
      · exact .inr (List.getElem?_set_self hl)
      · exact .inl (List.getElem?_eq_none (by rw [List.length_set]; omega))
    · rw [List.getElem?_set_ne e]
      rcases List.mem_cons.mp h with h | h
      · exact absurd h.symm e
      · exact wipe_get h
theorem set_none {σ : L2.St} {v : Nat} (h : σ[v]? = none ∨ σ[v]? = some none) : σ.set v none = σ := by
  apply List.ext_getElem?
  intro j
  by_cases e : v = j
  · subst e
    by_cases hl : v < σ.length
    · rw [List.getElem?_set_self hl]
      rcases h with h | h
      · rw [List.getElem?_eq_none_iff] at h
        omega
      · exact h.symm
    · rw [List.getElem?_eq_none (by rw [List.length_set]; omega), List.getElem?_eq_none (by omega)]
  · rw [List.getElem?_set_ne e]
theorem wipe_sub {σ : L2.St} {us : List Nat} : ∀ {vs : List Nat}, (∀ v ∈ vs, v ∈ us) → L2.wipe (L2.wipe σ us) vs = L2.wipe σ us
  | [], _ => rfl
  | v :: vs, h => by
    show (L2.wipe (L2.wipe σ us) vs).set v none = L2.wipe σ us
    rw [wipe_sub (fun u hu => h u (List.mem_cons_of_mem _ hu))]
    exact set_none (wipe_get (h v (List.mem_cons_self ..)))
def lcF (g : D → Env → Option Env) (mt : MT) (me : M) (r : Env) : D → List D → R (Option D) := fun d cs => match g d r with
  | some r' => (mt r' cs).bind fun b cs => if b then (me r' cs).bind fun y cs => .ok (some y) cs else .ok none cs
  | none => .bad
/-- no exception leaves it -/
def calmR {α : Type} : R α → R α
  | .err _ _ _ => .bad
  | o => o
def mLcG (vs : List Nat) (mi : ML) (g : D → Env → Option Env) (mt : MT) (me : M) (k : List D → List D → R D) : M := fun r cs => (mi r cs).bind fun ds cs => (calmR (mapR (lcF g mt me (wipeD r vs)) ds cs)).bind fun ys cs => if ys.length < sizeLine then k ys cs else .bad
def mLc (vs : List Nat) (mi : ML) (g : D → Env → Option Env) (mt : MT) (me : M) : M := mLcG vs mi g mt me fun ys cs => .ok (.lst ys) cs
def mLcL (vs : List Nat) (mi : ML) (g : D → Env → Option Env) (mt : MT) (me : M) : M := mLcG vs mi g mt me fun ys cs => if nrs ys = true then .ok (.ref cs.length) (cs ++ [.lst ys]) else .bad
theorem mapR_len {f : D → List D → R (Option D)} : ∀ {ds : List D} {cs ys cs' : List D}, mapR f ds cs = .ok ys cs' → ys.length ≤ ds.length
  | [], cs, ys, cs', h => by
    cases h
    exact Nat.le_refl _
  | d :: ds, cs, ys, cs', h => by
    unfold mapR at h
    cases h1 : f d cs with
    | ok o cs1 =>
      rw [h1] at h
      simp only [R.bind_ok] at h
      cases h2 : mapR f ds cs1 with
      | ok zs cs2 =>
        rw [h2] at h
        simp only [R.bind_ok] at h
        have := mapR_len h2
        cases o with
        | none =>
          cases h
          exact Nat.le_succ_of_le this
        | some y =>
          cases h
          exact Nat.succ_le_succ this
      | err x r cs2 =>
        rw [h2] at h
        cases h
      | bad =>
        rw [h2] at h
        cases h
    | err x r cs1 =>
      rw [h1] at h
      cases h
    | bad =>
      rw [h1] at h
      cases h
theorem bind_ok_iff {α β : Type} {r : R α} {k : α → List D → R β} {b : β} {cs' : List D} (h : r.bind k = .ok b cs') : ∃ a cs, r = .ok a cs ∧ k a cs = .ok b cs' := by
  cases r with
  | ok a cs => exact ⟨a, cs, rfl, h⟩
  | err x r cs => cases h
  | bad => cases h
theorem calm_ok {α : Type} {E : EE} {w : Wd} {r : R α} {β : Type} {k : α → List D → R β} {P : β → List D → Wd → Prop} (h : After K E w ((calmR r).bind k) P) : ∃ a cs, r = .ok a cs ∧ After K E w (k a cs) P := by
  cases r with
  | ok a cs => exact ⟨a, cs, rfl, h⟩
  | err x r cs => exact h.elim
  | bad => exact h.elim
theorem t_lc {vs : List Nat} {wi : ML} {g : TG} {gf : D → Env → Option Env} {k : List D → List D → R D} {me : M}
    (hG : GT K vs g gf)
    (fin : ∀ (E : EE) (w0 w : Wd) (cs : List D) (p : Addr) (ys : List D) (acc : List V) (Q : VK), ¬ w0.G p → LeB p w0 w → Sim K w cs → w.G p → w.H p = some (.lst acc) → Reps K w ys acc → After K E w0 (k ys cs) (fun d _ w' => ∀ v, Rep K w' d v → Q v w'.H) → Q (.ref p) w.H) :
    ∀ σ H Q, tE K W (mLcG vs wi gf mt me k) σ H Q → tLc (tIt K W wi) g (tT K W0 mt) (tE K W0 me) vs σ H Q := fun σ H Q ⟨w, rr, cs, e, s, ev, a⟩ => by
  refine ⟨w, rr, cs, e, s, ev, (After.bind a).imp fun ds cs1 w1 l1 s1 a1 J hJ p np => ?_⟩
  obtain ⟨ys, csE, eq, a2⟩ := calm_ok a1
  obtain ⟨hz, a2⟩ := if_bad a2
  have ev1 := ev.mono l1
  refine ⟨fun i n H2 => ∃ w2 cs2 acc ad zs, n + i = ds.length ∧ w2.H = H2 ∧ Sim K w2 cs2 ∧ w2.G p ∧ w2.H p = some (.lst acc) ∧ Reps K w2 ad acc ∧ LeB p w1 w2 ∧ IterOk K w2 J ds ∧ mapR (lcF gf mt me (wipeD rr vs)) (ds.drop i) cs2 = .ok zs csE ∧ ad ++ zs = ys,
    ⟨ds.length, w1.hold p (.lst []), cs1, [], [], ys, rfl, rfl, s1.hold np, .inr rfl, upd_same, rfl, (s1.le_hold np).b p, hJ.mono (s1.le_hold np).x, eq, rfl⟩, fun i n H2 ⟨w2, cs2, acc, ad, zs, en, e2, s2, g2, hp, ra, lb, J2, m2, ez⟩ => ?_⟩
  subst e2
  obtain ⟨hstop, hgo⟩ := J2 w2 (Le.refl w2).x i
  by_cases hi : i < ds.length
  · right
    have hd : ds[i]? = some ds[i] := List.getElem?_eq_getElem hi
    obtain ⟨go, hy⟩ := hgo ds[i] hd
    rw [List.drop_eq_getElem_cons hi] at m2
    unfold mapR at m2
    obtain ⟨o, cs3, f3, m3⟩ := bind_ok_iff m2
    obtain ⟨zs', cs4, m4, m5⟩ := bind_ok_iff m3
    have ezs : addO o zs' = zs := by
      cases m5
      rfl
    have ecs : cs4 = csE := by
      cases m5
      rfl
    subst ecs
    refine ⟨go, fun H3 => ∃ w2 cs2 acc ad zs, w2.H = H3 ∧ Sim K w2 cs2 ∧ w2.G p ∧ w2.H p = some (.lst acc) ∧ Reps K w2 ad acc ∧ LeB p w1 w2 ∧ IterOk K w2 J ds ∧ mapR (lcF gf mt me (wipeD rr vs)) (ds.drop (i + 1)) cs2 = .ok zs cs4 ∧ ad ++ zs = ys, fun H3 ⟨w2, cs2, acc, ad, zs, h⟩ => ⟨n - 1, by omega, w2, cs2, acc, ad, zs, by omega, h⟩, fun x H' yl => ?_⟩
    obtain ⟨w3, e3, l3, s3, rd⟩ := hy x H' cs2 s2 yl
    subst e3
    unfold lcF at f3
    cases hgf : gf ds[i] (wipeD rr vs) with
    | none =>
      simp only [hgf] at f3
      cases f3
    | some r' =>
      simp only [hgf] at f3
      obtain ⟨b, cs5, t5, f5⟩ := bind_ok_iff f3
      have evw : EnvR K w3 (wipeD rr vs) (wipe σ vs) := ((ev1.b lb).mono l3).wipe vs
      refine hG w3 (wipeD rr vs) r' (wipe σ vs) ds[i] x _ evw rd hgf fun σ2 ev2 ew => ⟨?_, w3, r', cs2, rfl, s3, ev2, ?_⟩
      · rw [ew]
        exact wipe_sub fun _ h => h
      rw [t5]
      intro w5 l5 s5
      cases b with
      | false =>
        rw [if_neg Bool.false_ne_true] at f5 ⊢
        cases f5
        refine ⟨w5, _, acc, ad, zs', rfl, s5, ((l3.trans l5).gd p g2).1, ((l3.trans l5).gd p g2).2.trans hp, Reps.mono K (l3.trans l5) _ _ ra, lb.trans ((l3.trans l5).b p), J2.mono (l3.trans l5).x, m4, ?_⟩
        rw [← ez, ← ezs]
        rfl
      | true =>
        rw [if_pos rfl] at f5 ⊢
        obtain ⟨y, cs6, t6, f6⟩ := bind_ok_iff f5
        cases f6
        refine ⟨w5, r', cs5, rfl, s5, ev2.mono l5, ?_⟩
        rw [t6]
        intro w6 l6 s6 v rv
        have l36 := (l3.trans l5).trans l6
        have hp6 : w6.H p = some (.lst acc) := (l36.gd p g2).2.trans hp
        have g6 := (l36.gd p g2).1
        refine ⟨acc, hp6, ?_, ?_⟩
        · rw [← Reps.length K ra]
          have : ad.length ≤ ys.length := by
            rw [← ez, List.length_append]
            omega
          omega
        · have lt := s6.turnB (o := .lst (acc ++ [v])) g6
          refine ⟨w6.turn p (.lst (acc ++ [v])), _, acc ++ [v], ad ++ [y], zs', rfl, s6.turn g6, g6, upd_same, Reps.app K (Reps.b lt _ _ (Reps.mono K l36 _ _ ra)) ⟨v, [], rfl, Rep.b lt _ _ rv, rfl⟩, (lb.trans (l36.b p)).trans lt, ?_, m4, ?_⟩
          · exact (J2.mono l36.x).mono lt.x
          · rw [← ez, ← ezs, List.append_assoc]
            rfl
  · left
    refine ⟨hstop (by omega), ?_⟩
    rw [List.drop_eq_nil_of_le (by omega)] at m2
    cases m2
    rw [List.append_nil] at ez
    subst ez
    exact fin _ w1 w2 csE p ad acc Q (s1.fresh np).2.2 lb s2 g2 hp ra a2
theorem fin_lc (E : EE) (w0 w : Wd) (cs : List D) (p : Addr) (ys : List D) (acc : List V) (Q : VK) (np : ¬ w0.G p) (lb : LeB p w0 w) (s : Sim K w cs) (g : w.G p) (hp : w.H p = some (.lst acc)) (ra : Reps K w ys acc)
    (h : After K E w0 (.ok (.lst ys) cs) (fun d _ w' => ∀ v, Rep K w' d v → Q v w'.H)) : Q (.ref p) w.H := by
  have l2 := lb.trans (Wd.settleB w p)
  have le : Le w0 (w.settle p) := ⟨l2.pre, l2.fr, l2.keep, fun b gb => l2.gd b gb fun e => np (e ▸ gb)⟩
  exact h (w.settle p) le (s.settle g) (.ref p) ⟨p, acc, rfl, .inr rfl, hp, Reps.b (Wd.settleB w p) _ _ ra⟩
theorem fin_lcL (E : EE) (w0 w : Wd) (cs : List D) (p : Addr) (ys : List D) (acc : List V) (Q : VK) (np : ¬ w0.G p) (lb : LeB p w0 w) (s : Sim K w cs) (g : w.G p) (hp : w.H p = some (.lst acc)) (ra : Reps K w ys acc)
    (h : After K E w0 (if nrs ys = true then .ok (.ref cs.length) (cs ++ [.lst ys]) else .bad) (fun d _ w' => ∀ v, Rep K w' d v → Q v w'.H)) : Q (.ref p) w.H := by
  obtain ⟨hn, h⟩ := if_bad h
  have l2 := lb.trans (Wd.adoptB w p)
  have le : Le w0 (w.adopt p) := ⟨l2.pre, l2.fr, l2.keep, fun b gb => l2.gd b gb fun e => np (e ▸ gb)⟩
  refine h (w.adopt p) le (s.adopt g hn ⟨acc, hp, ra⟩) (.ref p) ⟨p, rfl, ?_⟩
  show (w.p ++ [p])[cs.length]? = some p
  rw [← s.len, List.getElem?_append_right (Nat.le_refl _), Nat.sub_self]
  rfl
section
variable {elt tg iter : Expr} {ifs : List Expr} {scope : Scope} {own : List (Str × Nat)} {wi : ML} {g : TG} {gf : D → Env → Option Env} {me : M}
theorem je_lc (hc : X.calm = true) (hN : X.N.Nodup) (hi : JI X W tg iter wi) (ok : BlkOk X.N X.env.scope scope own)
    (hg : ∀ (s : Shared) (H : Hp) (C : Addr) (cl : List (Str × Addr)) (fp : List Addr), PG (X.blk s H scope (compEnvC scope cl C X.env) fp) tg g) (hG : GT X.K (own.map (·.2)) g gf)
    (ht : ∀ (s : Shared) (H : Hp) (C : Addr) (cl : List (Str × Addr)) (fp : List Addr), PTs (X.blk s H scope (compEnvC scope cl C X.env) fp) ifs (tT X.K W0 mt))
    (he : ∀ (s : Shared) (H : Hp) (C : Addr) (cl : List (Str × Addr)) (fp : List Addr), JE (X.blk s H scope (compEnvC scope cl C X.env) fp) W0 elt me) (hs : ∀ x, foldedSetIterable iter X.env x = pure x := by intro _; rfl) :
    JE X W (.ListComp elt [⟨tg, iter, ifs, 0⟩] scope pos) (mLc (own.map (·.2)) wi gf mt me) := peI (pe_lc hc hN hi ok hg ht he hs) (t_lc hG fin_lc)
theorem je_lcL (hc : X.calm = true) (hN : X.N.Nodup) (hi : JI X W tg iter wi) (ok : BlkOk X.N X.env.scope scope own)
    (hg : ∀ (s : Shared) (H : Hp) (C : Addr) (cl : List (Str × Addr)) (fp : List Addr), PG (X.blk s H scope (compEnvC scope cl C X.env) fp) tg g) (hG : GT X.K (own.map (·.2)) g gf)
    (ht : ∀ (s : Shared) (H : Hp) (C : Addr) (cl : List (Str × Addr)) (fp : List Addr), PTs (X.blk s H scope (compEnvC scope cl C X.env) fp) ifs (tT X.K W0 mt))
    (he : ∀ (s : Shared) (H : Hp) (C : Addr) (cl : List (Str × Addr)) (fp : List Addr), JE (X.blk s H scope (compEnvC scope cl C X.env) fp) W0 elt me) (hs : ∀ x, foldedSetIterable iter X.env x = pure x := by intro _; rfl) :
    JE X W (.ListComp elt [⟨tg, iter, ifs, 0⟩] scope pos) (mLcL (own.map (·.2)) wi gf mt me) := peI (pe_lc hc hN hi ok hg ht he hs) (t_lc hG fin_lcL)
theorem js_setLc {i : Nat} {y : Str} {py spos : Pos} (hc : X.calm = true) (hN : X.N.Nodup) (hy : X.N[i]? = some y) (hyl : X.env.scope.names.lookup y = some .local)
    (hsw : swapsWith (.ListComp elt [⟨tg, iter, ifs, 0⟩] scope pos) (some (.Name y py)) spos.line X.env = pure true) (hi : JI X W tg iter wi) (ok : BlkOk X.N X.env.scope scope own)
    (hg : ∀ (s : Shared) (H : Hp) (C : Addr) (cl : List (Str × Addr)) (fp : List Addr), PG (X.blk s H scope (compEnvC scope cl C X.env) fp) tg g) (hG : GT X.K (own.map (·.2)) g gf)
    (ht : ∀ (s : Shared) (H : Hp) (C : Addr) (cl : List (Str × Addr)) (fp : List Addr), PTs (X.blk s H scope (compEnvC scope cl C X.env) fp) ifs (tT X.K W0 mt))
    (he : ∀ (s : Shared) (H : Hp) (C : Addr) (cl : List (Str × Addr)) (fp : List Addr), JE (X.blk s H scope (compEnvC scope cl C X.env) fp) W0 elt me) (hs : ∀ x, foldedSetIterable iter X.env x = pure x := by intro _; rfl) :
    JS X W (.Assign [.Name y py] (.ListComp elt [⟨tg, iter, ifs, 0⟩] scope pos) spos) (mAsg (gtN i) (mLc (own.map (·.2)) wi gf mt me)) := psI (ps_setLc hc hN hy hyl hsw hi ok hg ht he hs) (t_asg (t_lc hG fin_lc) (gt_name (vs := [i]) (by simp)))
theorem js_setLcL {i : Nat} {y : Str} {py spos : Pos} (hc : X.calm = true) (hN : X.N.Nodup) (hy : X.N[i]? = some y) (hyl : X.env.scope.names.lookup y = some .local)
    (hsw : swapsWith (.ListComp elt [⟨tg, iter, ifs, 0⟩] scope pos) (some (.Name y py)) spos.line X.env = pure true) (hi : JI X W tg iter wi) (ok : BlkOk X.N X.env.scope scope own)
    (hg : ∀ (s : Shared) (H : Hp) (C : Addr) (cl : List (Str × Addr)) (fp : List Addr), PG (X.blk s H scope (compEnvC scope cl C X.env) fp) tg g) (hG : GT X.K (own.map (·.2)) g gf)
    (ht : ∀ (s : Shared) (H : Hp) (C : Addr) (cl : List (Str × Addr)) (fp : List Addr), PTs (X.blk s H scope (compEnvC scope cl C X.env) fp) ifs (tT X.K W0 mt))
    (he : ∀ (s : Shared) (H : Hp) (C : Addr) (cl : List (Str × Addr)) (fp : List Addr), JE (X.blk s H scope (compEnvC scope cl C X.env) fp) W0 elt me) (hs : ∀ x, foldedSetIterable iter X.env x = pure x := by intro _; rfl) :
    JS X W (.Assign [.Name y py] (.ListComp elt [⟨tg, iter, ifs, 0⟩] scope pos) spos) (mAsg (gtN i) (mLcL (own.map (·.2)) wi gf mt me)) := psI (ps_setLc hc hN hy hyl hsw hi ok hg ht he hs) (t_asg (t_lc hG fin_lcL) (gt_name (vs := [i]) (by simp)))
def mYes : MT := fun _ cs => .ok true cs
theorem jts_nil : PTs X [] (tT X.K W mYes) := ⟨fun pins s σ H Q I ⟨w, r, cs, e, sm, ev, a⟩ => pts_nil.run pins s σ H Q I (by
  have h : Q true w.H := a w (Le.refl w) sm
  rw [e] at h
  exact h)⟩
theorem jts_one {c : Expr} (h : JT X W c mt) : PTs X [c] (tT X.K W mt) := pts_one h
end
/-! ### a call with keywords -/
def pick {α : Type} (ix : List Nat) (xs : List α) : List α := ix.filterMap fun i => xs[i]?
theorem Reps.pick {w : Wd} {l : List D} {xs : List V} (h : Reps K w l xs) : ∀ ix : List Nat, Reps K w (Wf.pick ix l) (Wf.pick ix xs)
  | [] => rfl
  | i :: ix => by
    have ih := Reps.pick h ix
    unfold Wf.pick at ih ⊢
    rw [List.filterMap_cons, List.filterMap_cons]
    cases e : l[i]? with
    | none =>
      have : xs[i]? = none := by
        rw [List.getElem?_eq_none_iff] at e ⊢
        rw [← Reps.length K h]
        exact e
      rw [this]
      exact ih
    | some d =>
      obtain ⟨v, hv, rv⟩ := Reps.get K h e
      rw [hv]
      exact ⟨v, _, rfl, rv, ih⟩
theorem Vals.pick {vs : List V} {us : List Value} (h : Vals vs us) : ∀ ix : List Nat, Vals (Wf.pick ix vs) (Wf.pick ix us)
  | [] => .nil
  | i :: ix => by
    have ih := Vals.pick h ix
    unfold Wf.pick at ih ⊢
    rw [List.filterMap_cons, List.filterMap_cons]
    cases e : vs[i]? with
    | none =>
      rw [Vals.none_of h e]
      exact ih
    | some d =>
      obtain ⟨u, hu, ru⟩ := Vals.get h e
      rw [hu]
      exact .cons ru ih
/-- how the keywords bind: n positional values, then those of the names ks; ix: the parameters' order of them all -/
def KBs (fd : FuncData) (ps : List Str) (n : Nat) (ks : List Str) (ix : List Nat) : Prop := ∀ (us ws : List Value), us.length = n → ws.length = ks.length → bindArgs fd ⟨us, ks.zip ws⟩ = pure (ps.zip (pick ix (us ++ ws)))
abbrev JK (X : Cx) (W : WX) (ks : List Keyword) (m : ML) : Prop := PK X ks (tA X.K W m)
theorem pkI {X : Cx} {e : List Keyword} {t t' : TA} (h : PK X e t) (k : ∀ σ H Q, t' σ H Q → t σ H Q) : PK X e t' := ⟨fun pos pins s σ H Q I q => h.run pos pins s σ H Q I (k σ H Q q)⟩
theorem jk_nil : JK X W [] mNil := pkI pk_nil fun σ H Q ⟨w, r, cs, e, s, ev, a⟩ => by
  have := a w (Le.refl w) s [] rfl
  rw [e] at this
  exact this
theorem jk_cons {nm : Option Str} {kpos : Pos} {kws : List Keyword} (h : JE X W e m) (k : JK X W kws ml) : JK X W (⟨nm, e, kpos⟩ :: kws) (mCons m ml) := pkI (pk_cons h k) t_cons
def mApp (ma mb : ML) : ML := fun r cs => (ma r cs).bind fun ds cs => (mb r cs).bind fun es cs => .ok (ds ++ es) cs
def mCallK0 (f : Fn) (k : Nat) (ix : List Nat) (mk : ML) : M := fun r cs => (mk r cs).bind fun es cs => if es.length = k then noteE r (f (pick ix es) cs) else .bad
def mCallK (f : Fn) (n k : Nat) (ix : List Nat) (ml mk : ML) : M := fun r cs => (ml r cs).bind fun ds cs => (mk r cs).bind fun es cs => if ds.length = n ∧ es.length = k then noteE r (f (pick ix (ds ++ es)) cs) else .bad
section
variable {k : Nat} {f : Addr} {fd : FuncData} {ps ks : List Str} {fn : Fn} {x : Str} {p : Pos} {mk : ML} {kws : List Keyword} {nn : Nat} {ix : List Nat}
theorem run_fnKS {pins : List (Addr × Obj)} {σ : L2.St} {H : Hp} {s : Shared} {Q : VK} {us ws : List Value} {vs zs : List V} {E : XK} (F : FnOk X.prog X.w X.K X.mg X.base (L2.CX X.prog X.w) k f fd ps (spF X.K fn)) (hr : Room k X.A) (hb : KBs fd ps nn ks ix)
    (hx : PassesAt (L2.CX X.prog X.w) X σ E) (I : Inv X pins σ H s) (r : Vals vs us) (rz : Vals zs ws) (h1 : vs.length = nn) (h2 : zs.length = ks.length) (h : spF X.K fn (pick ix (vs ++ zs)) H Q E) : wpAny (model X.prog X.w) X.A (call (.ref f) us (ks.zip ws)) (EP X pins σ Q) X.xe s := by
  have r2 : Vals (pick ix (vs ++ zs)) (pick ix (us ++ ws)) := Vals.pick (Vals.append r rz) ix
  have hl : (pick ix (us ++ ws)).length = ps.length := by rw [← r2.length]; exact F.len _ _ _ _ h
  have hbt : BindsTo s fd ⟨us, ks.zip ws⟩ (ps.zip (pick ix (us ++ ws))) := .of_eq (hb us ws (r.length ▸ h1) (rz.length ▸ h2))
  refine wpAny_call (codeAny_mono (F.run X.A X.stack s H ⟨us, ks.zip ws⟩ (pick ix (us ++ ws)) (pick ix (vs ++ zs)) Q E hr I.env0 hbt r2 h) fun r s' hq => ?_)
  cases r with
  | error e => exact hx pins H s e s' I hq
  | ok fl =>
    cases fl with
    | ret u => exact I.after hq
    | next => exact False.elim hq
    | brk => exact False.elim hq
    | cont => exact False.elim hq
theorem je_callK0 (F : FnOk X.prog X.w X.K X.mg X.base (L2.CX X.prog X.w) k f fd ps (spF X.K fn)) (hr : Room k X.A) (hg : Gl X x) (hm : X.mg x = some (.ref f)) (hk : PySem.W.keepIn X.K (.ref f) = true) (hb : KBs fd ps 0 ks ix) (tk : Takes X W)
    (hkw : JK X W kws mk) (hall : (backToKw pos (keywordEach kws X.env)).all (·.1.isSome) = true := by rfl) (hks : (backToKw pos (keywordEach kws X.env)).filterMap (·.1) = ks := by rfl) (hdb : (x == ("__debug__" : Str)) = false := by decide)
    (hpl : ((backTo pos (starEach [] X.env)).any (·.1) || (backToKw pos (keywordEach kws X.env)).any (·.1.isNone)) = false := by rfl) :
    JE X W (.Call (.Name x p) [] kws pos) (mCallK0 fn ks.length ix mk) := by
  refine ⟨fun pins s σ H Q I ⟨w, rr, cs, e, sm, ev, a⟩ => ?_⟩
  refine wpAny_Call_Name_kw (ld_glob I hg hm ?_ hdb)
  refine PySem.W.callWith_KW0 (h₀ := X.base) I.ok.mod.kin hk hall ?_ hpl
  have t : tA X.K W mk σ H (fun zs H2 => zs.length = ks.length ∧ spF X.K fn (pick ix ([] ++ zs)) H2 Q (WE W σ)) := by
    refine ⟨w, rr, cs, e, sm, ev, (After.bind a).imp fun ds cs1 w1 l1 s1 a1 vs r1 => ?_⟩
    obtain ⟨hz, a1⟩ := if_bad a1
    exact ⟨by rw [← Reps.length _ r1]; exact hz, w1, pick ix ds, cs1, rfl, s1, Reps.pick r1 ix, After.note (ev.mono l1) a1⟩
  refine thn (hkw.run pos pins s σ H _ I t) fun ws s2 ⟨zs, H2, I2, rz, q1, q2⟩ => ⟨I2.kIn, ?_⟩
  rw [hks]
  exact run_fnKS (us := []) (vs := []) F hr hb (passAt tk σ) I2 .nil rz rfl q1 q2
theorem je_callK (F : FnOk X.prog X.w X.K X.mg X.base (L2.CX X.prog X.w) k f fd ps (spF X.K fn)) (hr : Room k X.A) (hg : Gl X x) (hm : X.mg x = some (.ref f)) (hk : PySem.W.keepIn X.K (.ref f) = true) (hb : KBs fd ps nn ks ix) (tk : Takes X W)
    (ha : JA X W (e :: es) ml) (hkw : JK X W kws mk) (hall : (backToKw pos (keywordEach kws X.env)).all (·.1.isSome) = true := by rfl) (hks : (backToKw pos (keywordEach kws X.env)).filterMap (·.1) = ks := by rfl) (hdb : (x == ("__debug__" : Str)) = false := by decide)
    (he : starEach (e :: es) X.env = (false, eval e X.env) :: starEach es X.env := by rfl)
    (hpl : ((backTo pos (starEach (e :: es) X.env)).any (·.1) || (backToKw pos (keywordEach kws X.env)).any (·.1.isNone)) = false := by rfl) :
    JE X W (.Call (.Name x p) (e :: es) kws pos) (mCallK fn nn ks.length ix ml mk) := by
  refine ⟨fun pins s σ H Q I ⟨w, rr, cs, e, sm, ev, a⟩ => ?_⟩
  refine wpAny_Call_Name_kw (ld_glob I hg hm ?_ hdb)
  refine PySem.W.callWith_KW (h₀ := X.base) I.ok.mod.kin hk hall ?_ hpl he
  have t : tA X.K W ml σ H (fun us H1 => tA X.K W mk σ H1 (fun zs H2 => us.length = nn ∧ zs.length = ks.length ∧ spF X.K fn (pick ix (us ++ zs)) H2 Q (WE W σ))) := by
    refine ⟨w, rr, cs, e, sm, ev, (After.bind a).imp fun ds cs1 w1 l1 s1 a1 vs r1 => ?_⟩
    refine ⟨w1, rr, cs1, rfl, s1, ev.mono l1, (After.bind a1).imp fun es cs2 w2 l2 s2 a2 us r2 => ?_⟩
    obtain ⟨⟨h1, h2⟩, a2⟩ := if_bad a2
    exact ⟨by rw [← Reps.length _ r1]; exact h1, by rw [← Reps.length _ r2]; exact h2, w2, pick ix (ds ++ es), cs2, rfl, s2, Reps.pick (Reps.app _ (Reps.mono _ l2 _ _ r1) r2) ix, After.note (ev.mono (l1.trans l2)) a2⟩
  refine thn (ha.run pos pins s σ H _ I t) fun us s1 ⟨vs, H1, I1, r, t1⟩ => ?_
  refine thn (hkw.run pos pins s1 σ H1 _ I1 t1) fun ws s2 ⟨zs, H2, I2, rz, q0, q1, q2⟩ => ⟨I2.kIn, ?_⟩
  rw [hks]
  exact run_fnKS F hr hb (passAt tk σ) I2 r rz q0 q1 q2
end
end
/-! ### a def -/
/-- what a def hands back: cells of its own are left behind, but one list that it returns (also in a pair behind a word) -/
def outR (n : Nat) (d : D) (cs : List D) : R D := if nr d = true then .ok d (cs.take n) else match d with
  | .ref i => if i < n then .ok (.ref i) (cs.take n) else match cs[i]? with
    | some c => .ok (.ref n) (cs.take n ++ [c])
    | none => .bad
  | .tup [x, .ref i] => if nr x = true then match cs[i]? with
      | some c => if n ≤ i then .ok (.tup [x, .ref n]) (cs.take n ++ [c]) else .bad
      | none => .bad
    else .bad
  | _ => .bad
def finR (n : Nat) : R Fl → R D
  | .ok (.nx _) cs => .ok .non (cs.take n)
  | .ok (.ret d) cs => outR n d cs
  | .err x _ cs => if nr x = true then .err x [] (cs.take n) else .bad
  | _ => .bad
def env0 (n : Nat) (ds : List D) : Env := ds.map some ++ List.replicate (n - ds.length) none
/-- the def's function: nps parameters, nn names -/
def mDef (nps nn : Nat) (m : MS) : Fn := fun ds cs => if ds.length = nps then finR cs.length (m (env0 nn ds) cs) else .bad
section
variable {K : PySem.W.Frag}
def Wd.cut (w : Wd) (n : Nat) : Wd := ⟨w.p.take n, w.F, w.G, w.H⟩
theorem take_get {α : Type} {xs : List α} {n i : Nat} {x : α} (h : (xs.take n)[i]? = some x) : i < n ∧ xs[i]? = some x := by
  rw [List.getElem?_take] at h
  split at h
  · exact ⟨by assumption, h⟩
  · cases h
theorem ORep.cell {w w' : Wd} {a : Addr} (hp : ∀ a, w.F a → w'.F a) (hk : ∀ a, w.F a → w'.H a = w.H a) (hh : w'.H a = w.H a) : ∀ (d : D), nr d = true → ORep K w a d → ORep K w' a d := fun d c4 c3 => by
  cases d with
  | lst l => obtain ⟨xs, h, r⟩ := c3; exact ⟨xs, hh.trans h, Reps.nr K hp hk _ _ c4 r⟩
  | dct ks l => obtain ⟨xs, h, q, r⟩ := c3; exact ⟨xs, hh.trans h, q, Reps.nr K hp hk _ _ c4 r⟩
  | ins C ns l => obtain ⟨dx, xs, h, q, r⟩ := c3; exact ⟨dx, xs, hh.trans h, q, Reps.nr K hp hk _ _ c4 r⟩
  | _ => obtain ⟨u, h⟩ := c3; exact ⟨u, hh.trans h⟩
theorem Sim.cut {w : Wd} {cs : List D} (s : Sim K w cs) (n : Nat) : Sim K (w.cut n) (cs.take n) := by
  refine ⟨?_, fun i j a hi hj => s.nd i j a (take_get hi).2 (take_get hj).2, s.trk, fun a g => ?_, fun i a d hi hd => ?_⟩
  · show (w.p.take n).length = _
    rw [List.length_take, List.length_take, s.len]
  · obtain ⟨g1, g2, g3⟩ := s.gtr a g
    exact ⟨g1, g2, fun i hi => g3 i (take_get hi).2⟩
  · obtain ⟨c1, c2, c3, c4⟩ := s.cell i a d (take_get hi).2 (take_get hd).2
    exact ⟨c1, c2, ORep.cell (w := w) (w' := w.cut n) (fun _ h => h) (fun _ _ => rfl) rfl d c4 c3, c4⟩
theorem Le.cut {w0 w : Wd} {n : Nat} (l : Le w0 w) (h : w0.p.length ≤ n) : Le w0 (w.cut n) := by
  refine ⟨fun i a hi => ?_, l.fr, l.keep, l.gd⟩
  have hl : i < w0.p.length := (List.getElem?_eq_some_iff.mp hi).1
  show (w.p.take n)[i]? = some a
  rw [List.getElem?_take, if_pos (by omega)]
  exact l.pre i a hi
/-- one cell is kept, as the last -/
def Wd.keep1 (w : Wd) (n : Nat) (a : Addr) : Wd := ⟨w.p.take n ++ [a], w.F, w.G, w.H⟩
theorem Sim.keep1 {w : Wd} {cs : List D} {n i : Nat} {a : Addr} {c : D} (s : Sim K w cs) (hn : n ≤ i) (hi : w.p[i]? = some a) (hc : cs[i]? = some c) : Sim K (w.keep1 n a) (cs.take n ++ [c]) := by
  have hlen : i < w.p.length := (List.getElem?_eq_some_iff.mp hi).1
  have hl : (w.p.take n).length = n := by
    rw [List.length_take]
    omega
  have hl2 : (cs.take n).length = n := by
    rw [List.length_take, ← s.len]
    omega
  have get : ∀ (j : Nat) (b : Addr), (w.p.take n ++ [a])[j]? = some b → (j < n ∧ w.p[j]? = some b) ∨ (j = n ∧ b = a) := fun j b h => by
    by_cases hj : j < n
    · rw [List.getElem?_append_left (by omega)] at h
      exact .inl ⟨hj, (take_get h).2⟩
    · have hz := (List.getElem?_eq_some_iff.mp h).1
      rw [List.length_append, hl] at hz
      simp at hz
      have : j = n := by omega
      subst this
      rw [List.getElem?_append_right (by omega), hl, Nat.sub_self] at h
      exact .inr ⟨rfl, (Option.some.inj h).symm⟩
  refine ⟨?_, fun j k b hj hk => ?_, s.trk, fun b g => ?_, fun j b d hj hd => ?_⟩
  · show (w.p.take n ++ [a]).length = _
    rw [List.length_append, List.length_append, hl, hl2]
    rfl
  · rcases get j b hj with ⟨h1, h2⟩ | ⟨h1, h2⟩ <;> rcases get k b hk with ⟨h3, h4⟩ | ⟨h3, h4⟩
    · exact s.nd j k b h2 h4
    · subst h4
      have := s.nd j i b h2 hi
      omega
    · subst h2
      have := s.nd k i b h4 hi
      omega
    · omega
  · obtain ⟨g1, g2, g3⟩ := s.gtr b g
    refine ⟨g1, g2, fun j hj => ?_⟩
    rcases get j b hj with ⟨_, h2⟩ | ⟨_, h2⟩
    · exact g3 j h2
    · subst h2
      exact g3 i hi
  · have tr : ∀ (b : Addr) (d : D), nr d = true → ORep K w b d → ORep K (w.keep1 n a) b d := fun b d c4 c3 => ORep.cell (w := w) (w' := w.keep1 n a) (fun _ h => h) (fun _ _ => rfl) rfl d c4 c3
    rcases get j b hj with ⟨h1, h2⟩ | ⟨h1, h2⟩
    · rw [List.getElem?_append_left (by omega)] at hd
      obtain ⟨c1, c2, c3, c4⟩ := s.cell j b d h2 (take_get hd).2
      exact ⟨c1, c2, tr b d c4 c3, c4⟩
    · subst h1 h2
      rw [List.getElem?_append_right (by omega), hl2, Nat.sub_self] at hd
      have e : c = d := Option.some.inj hd
      subst e
      obtain ⟨c1, c2, c3, c4⟩ := s.cell i b c hi hc
      exact ⟨c1, c2, tr b c c4 c3, c4⟩
theorem Le.keep1 {w0 w : Wd} {n : Nat} {a : Addr} (l : Le w0 w) (h : w0.p.length = n) : Le w0 (w.keep1 n a) := by
  refine ⟨fun i b hi => ?_, l.fr, l.keep, l.gd⟩
  have hl : i < w0.p.length := (List.getElem?_eq_some_iff.mp hi).1
  have hi' := l.pre i b hi
  have hl' : i < w.p.length := (List.getElem?_eq_some_iff.mp hi').1
  show (w.p.take n ++ [a])[i]? = some b
  rw [List.getElem?_append_left (by rw [List.length_take]; omega), List.getElem?_take, if_pos (by omega)]
  exact hi'
theorem out_ok {E : EE} {w0 w : Wd} {n : Nat} {d : D} {cs : List D} {Q : VK} {v : V} (h0 : w0.p.length = n) (l : Le w0 w) (s : Sim K w cs) (rv : Rep K w d v) (h : After K E w0 (outR n d cs) (fun d _ w' => ∀ v, Rep K w' d v → Q v w'.H)) : Q v w.H := by
  unfold outR at h
  have hx : Lx w (w.cut n) → True := fun _ => trivial
  split at h
  · rename_i hn
    exact h (w.cut n) (l.cut (by omega)) (s.cut n) v (Rep.nr K (w := w) (w' := w.cut n) (fun _ h => h) (fun _ _ => rfl) d v hn rv)
  · split at h
    · rename_i i _
      obtain ⟨a, rfl, hi⟩ := rv
      split at h
      · rename_i hin
        refine h (w.cut n) (l.cut (by omega)) (s.cut n) (.ref a) ⟨a, rfl, ?_⟩
        show (w.p.take n)[i]? = some a
        rw [List.getElem?_take, if_pos hin]
        exact hi
      · rename_i hin
        split at h
        · rename_i c hc
          refine h (w.keep1 n a) (l.keep1 h0) (s.keep1 (by omega) hi hc) (.ref a) ⟨a, rfl, ?_⟩
          show (w.p.take n ++ [a])[n]? = some a
          have hlen : i < w.p.length := (List.getElem?_eq_some_iff.mp hi).1
          have hl : (w.p.take n).length = n := by
            rw [List.length_take]
            omega
          rw [List.getElem?_append_right (by omega), hl, Nat.sub_self]
          rfl
        · exact h.elim
    · rename_i x i _
      split at h
      · rename_i hnx
        split at h
        · rename_i c hc
          split at h
          · rename_i hin
            obtain ⟨p, xs, rfl, f, g, rs⟩ := rv
            obtain ⟨v1, vs1, rfl, r1, v2, vs2, e2, r2, r3⟩ := rs
            obtain ⟨a, rfl, hi⟩ := r2
            cases (show vs2 = [] from r3)
            subst e2
            refine h (w.keep1 n a) (l.keep1 h0) (s.keep1 hin hi hc) (.ref p) ⟨p, _, rfl, f, g, v1, _, rfl, Rep.nr K (w := w) (w' := w.keep1 n a) (fun _ h => h) (fun _ _ => rfl) x v1 hnx r1, .ref a, [], rfl, ⟨a, rfl, ?_⟩, rfl⟩
            show (w.p.take n ++ [a])[n]? = some a
            have hlen : i < w.p.length := (List.getElem?_eq_some_iff.mp hi).1
            have hl : (w.p.take n).length = n := by
              rw [List.length_take]
              omega
            rw [List.getElem?_append_right (by omega), hl, Nat.sub_self]
            rfl
          · exact h.elim
        · exact h.elim
      · exact h.elim
    · exact h.elim
theorem Reps.env {w : Wd} {n : Nat} {ds : List D} {vs : List V} {N : List Str} (h : Reps K w ds vs) (hn : N.length = n) : EnvR K w (env0 n ds) (L2.start N vs) := by
  have hl := Reps.length K h
  refine ⟨?_, fun i d e => ?_⟩
  · unfold env0 L2.start
    rw [List.length_append, List.length_append, List.length_map, List.length_map, List.length_replicate, List.length_replicate]
    omega
  · unfold env0 at e
    by_cases hi : i < ds.length
    · rw [List.getElem?_append_left (by rw [List.length_map]; exact hi), List.getElem?_map] at e
      cases hd : ds[i]? with
      | none =>
        rw [hd] at e
        cases e
      | some d' =>
        rw [hd] at e
        have e2 : d' = d := Option.some.inj (Option.some.inj e)
        subst e2
        obtain ⟨v, hv, rv⟩ := Reps.get K h hd
        refine ⟨v, ?_, rv⟩
        unfold L2.start
        rw [List.getElem?_append_left (by rw [List.length_map]; omega), List.getElem?_map, hv]
        rfl
    · rw [List.getElem?_append_right (by rw [List.length_map]; omega), List.getElem?_replicate] at e
      split at e <;> cases e
variable {P : Program} {w : World} {mg : Str → Option Value} {base : Heap} {x qual : Str} {st : Stmt} {f : Addr} {fd : FuncData} {N ps : List Str} {k : Nat}
/-- the wish of a def's own frame -/
abbrev WD (E : XK) : WX := fun c d _ H => E c d H
theorem fn_ok {m : MS} (F : Fun K x qual st f fd) (S : FnScope N ps (defScope st))
    (hb : ∀ (cdv : Value) (A : Around) (outer : List PySem.Env) (s : Shared) (H : Hp) (E : XK), Room k (A.deeper (envOfC qual (defScope st) s.heap.objs.size f cdv)) →
      JB (cxOf (L2.CX P w) P w K mg base N qual (defScope st) f cdv A outer s H E) (WD E) (defBody st) m) :
    FnOk P w K mg base (L2.CX P w) (k + 1) f fd ps (spF K (mDef ps.length N.length m)) := by
  refine F.okX S (fun vs H Q E h => ?_) (fun cdv A outer s H vs Q E hr h => ?_)
  · obtain ⟨w, ds, cs, e, sm, rs, a⟩ := h
    unfold mDef at a
    obtain ⟨hl, a⟩ := if_bad a
    rw [← Reps.length K rs]
    exact hl
  · obtain ⟨w0, ds, cs, e, sm, rs, a⟩ := h
    unfold mDef at a
    obtain ⟨hl, a⟩ := if_bad a
    refine ⟨_, hb cdv A outer s H E hr, w0, _, cs, e, sm, Reps.env rs rfl, ?_⟩
    have h0 : w0.p.length = cs.length := sm.len
    cases hm : m (env0 N.length ds) cs with
    | bad =>
      rw [hm] at a
      exact a
    | err x r cs' =>
      rw [hm] at a
      unfold finR at a
      obtain ⟨hn, a⟩ := if_bad a
      intro w1 c od l1 s1 xr σ' ev'
      refine a (w1.cut cs.length) c od (l1.cut (by omega)) (s1.cut _) ?_
      cases x with
      | ins C ns l =>
        obtain ⟨e1, h1⟩ := xr
        refine ⟨e1, ?_⟩
        rcases h1 with h1 | ⟨d, xs, h1, h2, h3, h4, h5⟩
        · exact .inl h1
        · exact .inr ⟨d, xs, h1, h2, h3, h4, Reps.nr K (w := w1) (w' := w1.cut cs.length) (fun _ h => h) (fun _ _ => rfl) l xs hn h5⟩
      | ty n => exact xr
      | _ => exact xr.elim
    | ok fl cs' =>
      rw [hm] at a
      intro w1 l1 s1
      cases fl with
      | nx r =>
        intro σ' ev'
        exact a (w1.cut cs.length) (l1.cut (by omega)) (s1.cut _) .non rfl
      | ret d =>
        intro v rv
        exact out_ok h0 l1 s1 rv a
      | brk r => exact a.elim
      | ct r => exact a.elim
end
end Wf
set_option Elab.async false
set_option linter.all false
set_option maxRecDepth 100000
/-! What the operations do on data. -/
namespace Wf
open PySem PySem.Spec PyProof.Rows L2
section
variable {K : PySem.W.Frag} {E : EE} {w : Wd} {cs : List D} {Q : VK}
theorem aft {d : D} {v : V} (s : Sim K w cs) (h : After K E w (.ok d cs) (fun d _ w' => ∀ v, Rep K w' d v → Q v w'.H)) (r : Rep K w d v) : Q v w.H := h w (Le.refl w) s v r
theorem aftL {l : List D} {xs : List V} {p : Addr} (s : Sim K w cs) (h : After K E w (.ok (.lst l) cs) (fun d _ w' => ∀ v, Rep K w' d v → Q v w'.H)) (np : w.H p = none) (r : Reps K w l xs) : Q (.ref p) (upd w.H p (.lst xs)) :=
  h (w.new p (.lst xs)) (s.le_new np) (s.new np) (.ref p) (Rep.newL s np r)
theorem aftT {l : List D} {xs : List V} {p : Addr} (s : Sim K w cs) (h : After K E w (.ok (.tup l) cs) (fun d _ w' => ∀ v, Rep K w' d v → Q v w'.H)) (np : w.H p = none) (r : Reps K w l xs) : Q (.ref p) (upd w.H p (.tup xs)) :=
  h (w.new p (.tup xs)) (s.le_new np) (s.new np) (.ref p) (Rep.newT s np r)
theorem aftC {l : List D} {xs : List V} {p : Addr} (s : Sim K w cs) (h : After K E w (.ok (.ref cs.length) (cs ++ [.lst l])) (fun d _ w' => ∀ v, Rep K w' d v → Q v w'.H)) (np : w.H p = none) (hn : nrs l = true) (r : Reps K w l xs) : Q (.ref p) (upd w.H p (.lst xs)) :=
  h (w.live p (.lst xs)) (s.le_live np) (s.liveL np hn r) (.ref p) (Rep.newC s)
/-- a list, whichever -/
def lstOf (cs : List D) (d : D) : Option (List D) := match d with
  | .lst l => some l
  | .wl l => some (l.map .int)
  | .ref i => match cs[i]? with
    | some (.lst l) => some l
    | _ => none
  | _ => none
/-- a list of the call's own -/
def lstOwn (cs : List D) (d : D) : Option (List D) := match d with
  | .lst l => some l
  | .ref i => match cs[i]? with
    | some (.lst l) => some l
    | _ => none
  | _ => none
theorem lstOwn_ok {d : D} {v : V} {l : List D} (s : Sim K w cs) (r : Rep K w d v) (h : lstOwn cs d = some l) : ∃ a xs, v = .ref a ∧ w.H a = some (.lst xs) ∧ Reps K w l xs := by
  cases d with
  | lst m =>
    obtain ⟨a, xs, rfl, f, g, q⟩ := r
    cases h
    exact ⟨a, xs, rfl, g, q⟩
  | ref i =>
    obtain ⟨a, rfl, hi⟩ := r
    unfold lstOwn at h
    cases hc : cs[i]? with
    | none =>
      simp only [hc] at h
      cases h
    | some c =>
      obtain ⟨_, _, o, _⟩ := s.cell i a c hi hc
      cases c with
      | lst m =>
        simp only [hc] at h
        cases h
        obtain ⟨xs, g, q⟩ := o
        exact ⟨a, xs, rfl, g, q⟩
      | _ =>
        simp only [hc] at h
        cases h
  | _ => cases h
theorem lstOf_ok {d : D} {v : V} {l : List D} (s : Sim K w cs) (r : Rep K w d v) (h : lstOf cs d = some l) : ∃ a xs, v = .ref a ∧ SqL K w.H a xs ∧ Reps K w l xs := by
  cases d with
  | wl m =>
    obtain ⟨a, rfl, q⟩ := r
    cases h
    refine ⟨a, m.map V.int, rfl, ?_, Reps.ints K m⟩
    rcases q with ⟨_, q⟩ | q
    · exact q
    · exact q w.H
  | lst m =>
    obtain ⟨a, xs, e, g, q⟩ := lstOwn_ok s r (show lstOwn cs (.lst m) = some l from h)
    exact ⟨a, xs, e, .inl (.inl g), q⟩
  | ref i =>
    obtain ⟨a, xs, e, g, q⟩ := lstOwn_ok s r (show lstOwn cs (.ref i) = some l from h)
    exact ⟨a, xs, e, .inl (.inl g), q⟩
  | _ => cases h
/-! ### ints -/
def liftI (f : Int → Int → D) : Op2 := fun x y cs => match x, y with
  | .int i, .int j => .ok (f i j) cs
  | _, _ => .bad
/-! ### + -/
def addD : Op2 := fun x y cs => match x, y with
  | .int i, .int j => .ok (.int (i + j)) cs
  | .str i, .str j => if i.length + j.length ≤ sizeLine then .ok (.str (i ++ j)) cs else .bad
  | .tup l, .tup m => if l ≠ [] ∧ m ≠ [] ∧ l.length + m.length ≤ sizeLine then .ok (.tup (l ++ m)) cs else .bad
  | _, _ => match lstOwn cs x, lstOwn cs y with
    | some l, some m => if l.length + m.length ≤ sizeLine then .ok (.lst (l ++ m)) cs else .bad
    | _, _ => .bad
def rAddAny (K : PySem.W.Frag) : R2 := fun x y H Q => (rI0 fun i j => .int (i + j)) x y H Q ∨ (∃ i j, x = .str i ∧ y = .str j ∧ i.length + j.length ≤ sizeLine ∧ Q (.str (i ++ j)) H) ∨ rCatT K x y H Q ∨ rCat x y H Q
theorem op_addD {X : Cx} : OpR X (binaryOp .Add) (rAddAny X.K) := op_add.or (op_add_str.or (op_catT.or op_cat))
theorem add_lst {x y : D} {vx vy : V} (s : Sim K w cs) (rx : Rep K w x vx) (ry : Rep K w y vy) (h : After K E w (match lstOwn cs x, lstOwn cs y with
    | some l, some m => if l.length + m.length ≤ sizeLine then .ok (.lst (l ++ m)) cs else .bad
    | _, _ => .bad) (fun d _ w' => ∀ v, Rep K w' d v → Q v w'.H)) : rCat vx vy w.H Q := by
  cases h1 : lstOwn cs x with
  | none =>
    simp only [h1] at h
    exact h.elim
  | some l =>
    cases h2 : lstOwn cs y with
    | none =>
      simp only [h1, h2] at h
      exact h.elim
    | some m =>
      simp only [h1, h2] at h
      obtain ⟨hz, h⟩ := if_bad h
      obtain ⟨a, xs, rfl, ga, qa⟩ := lstOwn_ok s rx h1
      obtain ⟨b, ys, rfl, gb, qb⟩ := lstOwn_ok s ry h2
      exact ⟨a, b, xs, ys, rfl, rfl, ga, gb, by rw [← Reps.length K qa, ← Reps.length K qb]; exact hz, fun p np => aftL s h np (Reps.app K qa qb)⟩
theorem sp_add : OpS K (rAddAny K) addD := fun E w cs x y vx vy Q s rx ry h => by
  unfold addD at h
  split at h
  · cases (show vx = .int _ from rx)
    cases (show vy = .int _ from ry)
    exact .inl ⟨_, _, rfl, rfl, aft s h rfl⟩
  · cases (show vx = .str _ from rx)
    cases (show vy = .str _ from ry)
    obtain ⟨hz, h⟩ := if_bad h
    exact .inr (.inl ⟨_, _, rfl, rfl, hz, aft s h rfl⟩)
  · obtain ⟨⟨hl, hm, hz⟩, h⟩ := if_bad h
    obtain ⟨a, xs, rfl, fa, ga, qa⟩ := rx
    obtain ⟨b, ys, rfl, fb, gb, qb⟩ := ry
    have ex := Reps.length K qa
    have ey := Reps.length K qb
    refine .inr (.inr (.inl ⟨a, b, xs, ys, rfl, rfl, .inl (.inl ga), .inl (.inl gb), fun e => ?_, by omega, fun e => ?_, fun _ p np => aftT s h np (Reps.app K qa qb)⟩))
    · subst e
      exact hl (List.eq_nil_of_length_eq_zero ex)
    · subst e
      exact absurd (List.eq_nil_of_length_eq_zero ey) hm
  · exact .inr (.inr (.inr (add_lst s rx ry h)))
/-! ### -, *, //, %, ** -/
def subD : Op2 := liftI fun i j => .int (i - j)
theorem sp_I0 {f : Int → Int → V} {g : Int → Int → D} (hr : ∀ w i j, Rep K w (g i j) (f i j)) : OpS K (rI0 f) (liftI g) := fun E w cs x y vx vy Q s rx ry h => by
  unfold liftI at h
  split at h
  · cases (show vx = .int _ from rx)
    cases (show vy = .int _ from ry)
    exact ⟨_, _, rfl, rfl, aft s h (hr _ _ _)⟩
  · exact h.elim
theorem sp_sub : OpS K (rI0 fun i j => .int (i - j)) subD := sp_I0 fun _ _ _ => rfl
def mulI (i j : Int) : Prop := (-(2 ^ 64) < i ∧ i < 2 ^ 64) ∨ (-(2 ^ 64) < j ∧ j < 2 ^ 64)
instance (i j : Int) : Decidable (mulI i j) := by unfold mulI; exact inferInstance
/-- a text n times: what the model makes of it -/
def strMul (x : Str) (n : Int) : Str := Txt.mul x n
def mulD : Op2 := fun x y cs => match x, y with
  | .int i, .int j => if mulI i j then .ok (.int (i * j)) cs else .bad
  | .str z, .int n => if 0 ≤ n ∧ n < 2 ^ 24 ∧ z.length * n.toNat ≤ sizeLine then .ok (.str (strMul z n)) cs else .bad
  | _, .int n => match lstOwn cs x with
    | some l => if -(2 ^ 63) ≤ n ∧ n < 2 ^ 63 ∧ l.length * n.toNat ≤ sizeLine then .ok (.lst (List.replicate n.toNat l).flatten) cs else .bad
    | none => .bad
  | _, _ => .bad
def rMulS : R2 := fun x y H Q => ∃ z n, x = .str z ∧ y = .int n ∧ MulOk z n ∧ Q (.str (Txt.mul z n)) H
theorem op_mulS {X : Cx} : OpR X (binaryOp .Mult) rMulS := by
  intro pins s σ H x y v u Q I rx ry h
  obtain ⟨z, n, rfl, rfl, ok, q⟩ := h
  obtain ⟨t, rfl⟩ := rx
  obtain ⟨t2, rfl⟩ := ry
  refine SB.mul ok fun t' k => ?_
  exact ⟨.str (Txt.mul z n), H, I.tok k, ⟨_, rfl⟩, q⟩
theorem mulOk_of {z : Str} {n : Int} (h0 : 0 ≤ n) (h1 : n < 2 ^ 24) (h2 : z.length * n.toNat ≤ sizeLine) : MulOk z n := by
  refine ⟨?_, fun h3 _ h4 => ?_, fun _ _ => ?_⟩
  · rw [decide_eq_false (by omega), decide_eq_false (by omega)]
    rfl
  · have h5 : (z.length : Int) * n ≤ 2 ^ 24 := by
      have : (z.length * n.toNat : Nat) ≤ 2 ^ 24 := h2
      have e : ((z.length * n.toNat : Nat) : Int) = (z.length : Int) * n := by
        rw [Int.natCast_mul, Int.toNat_of_nonneg h0]
      omega
    have h6 : (z.length : Int) ≤ (2 ^ 63 - 1) / n := (Int.le_ediv_iff_mul_le (by omega)).mpr (by omega)
    omega
  · unfold PySem.Builtin.Str.tooLong
    rw [decide_eq_false (by omega)]
def rMulAny : R2 := fun x y H Q => rI CMul (fun i j => .int (i * j)) x y H Q ∨ rMulS x y H Q ∨ rRep x y H Q
theorem op_mulD {X : Cx} : OpR X (binaryOp .Mult) rMulAny := op_mul.or (op_mulS.or op_rep)
theorem Reps.rep {l : List D} {xs : List V} (h : Reps K w l xs) : ∀ n : Nat, Reps K w (List.replicate n l).flatten (List.replicate n xs).flatten
  | 0 => rfl
  | n + 1 => by
    rw [List.replicate_succ, List.replicate_succ, List.flatten_cons, List.flatten_cons]
    exact Reps.app K h (Reps.rep h n)
theorem sp_mul : OpS K rMulAny mulD := fun E w cs x y vx vy Q s rx ry h => by
  unfold mulD at h
  split at h
  · cases (show vx = .int _ from rx)
    cases (show vy = .int _ from ry)
    obtain ⟨hc, h⟩ := if_bad h
    exact .inl ⟨_, _, rfl, rfl, hc, aft s h rfl⟩
  · cases (show vx = .str _ from rx)
    cases (show vy = .int _ from ry)
    obtain ⟨⟨h0, h1, h2⟩, h⟩ := if_bad h
    exact .inr (.inl ⟨_, _, rfl, rfl, mulOk_of h0 h1 h2, aft s h rfl⟩)
  · cases (show vy = .int _ from ry)
    rename_i n _ _
    cases h1 : lstOwn cs x with
    | none =>
      simp only [h1] at h
      exact h.elim
    | some l =>
      simp only [h1] at h
      obtain ⟨⟨h2, h3, h4⟩, h⟩ := if_bad h
      obtain ⟨a, xs, rfl, ga, qa⟩ := lstOwn_ok s rx h1
      exact .inr (.inr ⟨a, n, xs, rfl, rfl, ga, h2, h3, by rw [← Reps.length K qa]; exact h4, fun p np => aftL s h np (Reps.rep qa _)⟩)
  · exact h.elim
def modD : Op2 := fun x y cs => match x, y with
  | .int i, .int j => if j ≠ 0 then .ok (.int (i.fmod j)) cs else .bad
  | _, _ => .bad
theorem sp_mod : OpS K (rI (fun _ j => j ≠ 0) fun i j => .int (i.fmod j)) modD := fun E w cs x y vx vy Q s rx ry h => by
  unfold modD at h
  split at h
  · cases (show vx = .int _ from rx)
    cases (show vy = .int _ from ry)
    obtain ⟨hc, h⟩ := if_bad h
    exact ⟨_, _, rfl, rfl, hc, aft s h rfl⟩
  · exact h.elim
def fdivD : Op2 := fun x y cs => match x, y with
  | .int i, .int j => if j ≠ 0 ∧ j.natAbs < 1073741824 then .ok (.int (i.fdiv j)) cs else .bad
  | _, _ => .bad
theorem sp_fdiv : OpS K (rI CDivN fun i j => .int (i.fdiv j)) fdivD := fun E w cs x y vx vy Q s rx ry h => by
  unfold fdivD at h
  split at h
  · cases (show vx = .int _ from rx)
    cases (show vy = .int _ from ry)
    obtain ⟨hc, h⟩ := if_bad h
    exact ⟨_, _, rfl, rfl, hc, aft s h rfl⟩
  · exact h.elim
def powD : Op2 := fun x y cs => match x, y with
  | .int i, .int j => if 0 ≤ j ∧ j ≤ 1000000 ∧ i.natAbs < 2 ^ 64 then .ok (.int (i ^ j.toNat)) cs else .bad
  | _, _ => .bad
theorem sp_pow : OpS K (rI CPow fun i j => .int (i ^ j.toNat)) powD := fun E w cs x y vx vy Q s rx ry h => by
  unfold powD at h
  split at h
  · cases (show vx = .int _ from rx)
    cases (show vy = .int _ from ry)
    obtain ⟨hc, h⟩ := if_bad h
    exact ⟨_, _, rfl, rfl, hc, aft s h rfl⟩
  · exact h.elim
def negD : Op1 := fun x cs => match x with
  | .int i => .ok (.int (-i)) cs
  | _ => .bad
theorem sp_neg : UnS K (rU fun i => .int (-i)) negD := fun E w cs x vx Q s rx h => by
  unfold negD at h
  split at h
  · cases (show vx = .int _ from rx)
    exact ⟨_, rfl, aft s h rfl⟩
  · exact h.elim
/-! ### comparisons -/
def ltD : Op2 := fun x y cs => match x, y with
  | .int i, .int j => .ok (.bl (decide (i < j))) cs
  | .str i, .str j => .ok (.bl (decide (i.cps.toList < j.cps.toList))) cs
  | _, _ => .bad
def rLtAny : R2 := fun x y H Q => (rI0 fun i j => .bl (decide (i < j))) x y H Q ∨ ∃ i j, x = .str i ∧ y = .str j ∧ Q (.bl (decide (i.cps.toList < j.cps.toList))) H
theorem op_ltD {X : Cx} : OpR X (compareOp .Lt) rLtAny := op_lt.or op_lt_str
theorem sp_lt : OpS K rLtAny ltD := fun E w cs x y vx vy Q s rx ry h => by
  unfold ltD at h
  split at h
  · cases (show vx = .int _ from rx)
    cases (show vy = .int _ from ry)
    exact .inl ⟨_, _, rfl, rfl, aft s h rfl⟩
  · cases (show vx = .str _ from rx)
    cases (show vy = .str _ from ry)
    exact .inr ⟨_, _, rfl, rfl, aft s h rfl⟩
  · exact h.elim
def leD : Op2 := fun x y cs => match x, y with
  | .int i, .int j => .ok (.bl (decide (i ≤ j))) cs
  | .str i, .str j => .ok (.bl (!decide (j.cps.toList < i.cps.toList))) cs
  | _, _ => .bad
def rLeAny : R2 := fun x y H Q => (rI0 fun i j => .bl (decide (i ≤ j))) x y H Q ∨ ∃ i j, x = .str i ∧ y = .str j ∧ Q (.bl (!decide (j.cps.toList < i.cps.toList))) H
theorem op_leD {X : Cx} : OpR X (compareOp .LtE) rLeAny := op_le.or op_le_str
theorem sp_le : OpS K rLeAny leD := fun E w cs x y vx vy Q s rx ry h => by
  unfold leD at h
  split at h
  · cases (show vx = .int _ from rx)
    cases (show vy = .int _ from ry)
    exact .inl ⟨_, _, rfl, rfl, aft s h rfl⟩
  · cases (show vx = .str _ from rx)
    cases (show vy = .str _ from ry)
    exact .inr ⟨_, _, rfl, rfl, aft s h rfl⟩
  · exact h.elim
def gtD : Op2 := liftI fun i j => .bl (decide (j < i))
theorem sp_gt : OpS K (rI0 fun i j => .bl (decide (j < i))) gtD := sp_I0 fun _ _ _ => rfl
def geD : Op2 := liftI fun i j => .bl (decide (j ≤ i))
theorem sp_ge : OpS K (rI0 fun i j => .bl (decide (j ≤ i))) geD := sp_I0 fun _ _ _ => rfl
-- == of scalars; of nested data by the library's own
mutual
def pyOf : D → Option PyData
  | .non => some .none
  | .bl b => some (.bool b)
  | .int i => some (.int i)
  | .str s => some (.str s)
  | .lst l => (pysOf l).map .list
  | .tup l => (pysOf l).map .tuple
  | _ => none
def pysOf : List D → Option (List PyData)
  | [] => some []
  | d :: ds => match pyOf d, pysOf ds with
    | some a, some as => some (a :: as)
    | _, _ => none
end
def pyTop (cs : List D) (d : D) : Option PyData := match d with
  | .ref i => match cs[i]? with
    | some (.lst l) => (pysOf l).map .list
    | _ => none
  | d => pyOf d
mutual
theorem pyOf_ok {w : Wd} : ∀ (d : D) (v : V) (p : PyData), Rep K w d v → pyOf d = some p → Dp K w.H v p
  | .non, v, p, r, h => by
    cases (show v = .non from r)
    cases h
    exact .non
  | .bl b, v, p, r, h => by
    cases (show v = .bl b from r)
    cases h
    exact .bl b
  | .int i, v, p, r, h => by
    cases (show v = .int i from r)
    cases h
    exact .int i
  | .str z, v, p, r, h => by
    cases (show v = .str z from r)
    cases h
    exact .str z
  | .lst l, v, p, r, h => by
    obtain ⟨a, xs, rfl, f, g, q⟩ := r
    have h' : (pysOf l).map PyData.list = some p := h
    cases h1 : pysOf l with
    | none =>
      rw [h1] at h'
      cases h'
    | some ps =>
      rw [h1] at h'
      cases h'
      exact .lst (.inl (.inl g)) (pysOf_ok l xs ps q h1)
  | .tup l, v, p, r, h => by
    obtain ⟨a, xs, rfl, f, g, q⟩ := r
    have h' : (pysOf l).map PyData.tuple = some p := h
    cases h1 : pysOf l with
    | none =>
      rw [h1] at h'
      cases h'
    | some ps =>
      rw [h1] at h'
      cases h'
      exact .tup (.inl (.inl g)) (pysOf_ok l xs ps q h1)
  | .ty _, v, p, r, h => by cases h
  | .rf _, v, p, r, h => by cases h
  | .wl _, v, p, r, h => by cases h
  | .dct _ _, v, p, r, h => by cases h
  | .ins _ _ _, v, p, r, h => by cases h
  | .ref _, v, p, r, h => by cases h
theorem pysOf_ok {w : Wd} : ∀ (l : List D) (xs : List V) (ps : List PyData), Reps K w l xs → pysOf l = some ps → DpAll K w.H xs ps
  | [], xs, ps, r, h => by
    cases (show xs = [] from r)
    cases h
    exact .nil
  | d :: ds, xs, ps, r, h => by
    obtain ⟨v, vs, rfl, rv, rs⟩ := r
    have h' : (match pyOf d, pysOf ds with
      | some a, some as => some (a :: as)
      | _, _ => none) = some ps := h
    cases h1 : pyOf d with
    | none =>
      simp only [h1] at h'
      cases h'
    | some a =>
      cases h2 : pysOf ds with
      | none =>
        simp only [h1, h2] at h'
        cases h'
      | some as =>
        simp only [h1, h2] at h'
        cases h'
        exact .cons (pyOf_ok d v a rv h1) (pysOf_ok ds vs as rs h2)
end
theorem pyTop_ok {d : D} {v : V} {p : PyData} (s : Sim K w cs) (r : Rep K w d v) (h : pyTop cs d = some p) : Dp K w.H v p := by
  cases d with
  | ref i =>
    obtain ⟨a, rfl, hi⟩ := r
    unfold pyTop at h
    cases hc : cs[i]? with
    | none =>
      simp only [hc] at h
      cases h
    | some c =>
      obtain ⟨_, _, o, _⟩ := s.cell i a c hi hc
      cases c with
      | lst l =>
        simp only [hc] at h
        obtain ⟨xs, g, q⟩ := o
        cases h1 : pysOf l with
        | none =>
          rw [h1] at h
          cases h
        | some ps =>
          rw [h1] at h
          cases h
          exact .lst (.inl (.inl g)) (pysOf_ok l xs ps q h1)
      | _ =>
        simp only [hc] at h
        cases h
  | _ => exact pyOf_ok _ v p r h
def eqS (x y : D) : Option Bool := match x, y with
  | .int i, .int j => some (decide (i = j))
  | .str i, .str j => some (decide (i = j))
  | .bl i, .bl j => some (decide (i = j))
  | _, _ => none
def eqB (cs : List D) (x y : D) : Option Bool := match eqS x y with
  | some b => some b
  | none => match pyTop cs x, pyTop cs y with
    | some a, some b => if SeqAt.shaped a = true ∧ SeqAt.shaped b = true then some (PyData.eqv a b) else none
    | _, _ => none
def eqD : Op2 := fun x y cs => match eqB cs x y with
  | some b => .ok (.bl b) cs
  | none => .bad
def neD : Op2 := fun x y cs => match eqB cs x y with
  | some b => .ok (.bl (!b)) cs
  | none => .bad
def rEqAny (K : PySem.W.Frag) : R2 := fun x y H Q => rEq x y H Q ∨ rEqD K x y H Q
def rNeAny (K : PySem.W.Frag) : R2 := fun x y H Q => rNe x y H Q ∨ rNeD K x y H Q
theorem op_eqA {X : Cx} (hu : X.A.units + 64 < cLine) : OpR X (compareOp .Eq) (rEqAny X.K) := op_eq.or (op_eqD hu)
theorem op_neA {X : Cx} (hu : X.A.units + 64 < cLine) : OpR X (compareOp .NotEq) (rNeAny X.K) := op_ne.or (op_neD hu)
theorem eqS_ok {x y : D} {vx vy : V} {b : Bool} (rx : Rep K w x vx) (ry : Rep K w y vy) (h : eqS x y = some b) : scal vx vy = true ∧ decide (vx = vy) = b := by
  unfold eqS at h
  split at h
  · cases (show vx = .int _ from rx)
    cases (show vy = .int _ from ry)
    cases h
    refine ⟨rfl, ?_⟩
    rw [Bool.eq_iff_iff]
    simp
  · cases (show vx = .str _ from rx)
    cases (show vy = .str _ from ry)
    cases h
    refine ⟨rfl, ?_⟩
    rw [Bool.eq_iff_iff]
    simp
  · cases (show vx = .bl _ from rx)
    cases (show vy = .bl _ from ry)
    cases h
    refine ⟨rfl, ?_⟩
    rw [Bool.eq_iff_iff]
    simp
  · cases h
theorem eqB_ok {x y : D} {vx vy : V} {b : Bool} (s : Sim K w cs) (rx : Rep K w x vx) (ry : Rep K w y vy) (h : eqB cs x y = some b) :
    (scal vx vy = true ∧ decide (vx = vy) = b) ∨ ∃ d e, Dp K w.H vx d ∧ Dp K w.H vy e ∧ SeqAt.shaped d = true ∧ SeqAt.shaped e = true ∧ PyData.eqv d e = b := by
  unfold eqB at h
  cases h1 : eqS x y with
  | some b' =>
    simp only [h1] at h
    cases h
    exact .inl (eqS_ok rx ry h1)
  | none =>
    simp only [h1] at h
    cases h2 : pyTop cs x with
    | none =>
      simp only [h2] at h
      cases h
    | some d =>
      cases h3 : pyTop cs y with
      | none =>
        simp only [h2, h3] at h
        cases h
      | some e =>
        simp only [h2, h3] at h
        split at h
        · rename_i hs
          cases h
          exact .inr ⟨d, e, pyTop_ok s rx h2, pyTop_ok s ry h3, hs.1, hs.2, rfl⟩
        · cases h
theorem sp_eq : OpS K (rEqAny K) eqD := fun E w cs x y vx vy Q s rx ry h => by
  unfold eqD at h
  cases h1 : eqB cs x y with
  | none =>
    simp only [h1] at h
    exact h.elim
  | some b =>
    simp only [h1] at h
    have q := aft s h (v := .bl b) rfl
    rcases eqB_ok s rx ry h1 with ⟨e1, e2⟩ | ⟨d, e, e1, e2, e3, e4, e5⟩
    · exact .inl ⟨e1, by rw [e2]; exact q⟩
    · exact .inr ⟨d, e, e1, e2, e3, e4, by rw [e5]; exact q⟩
theorem sp_ne : OpS K (rNeAny K) neD := fun E w cs x y vx vy Q s rx ry h => by
  unfold neD at h
  cases h1 : eqB cs x y with
  | none =>
    simp only [h1] at h
    exact h.elim
  | some b =>
    simp only [h1] at h
    have q := aft s h (v := .bl (!b)) rfl
    rcases eqB_ok s rx ry h1 with ⟨e1, e2⟩ | ⟨d, e, e1, e2, e3, e4, e5⟩
    · exact .inl ⟨e1, by rw [e2]; exact q⟩
    · exact .inr ⟨d, e, e1, e2, e3, e4, by rw [e5]; exact q⟩
/-- x is None -/
def isNon : D → Bool
  | .non => true
  | _ => false
def isND : Op2 := fun x y cs => match y with
  | .non => .ok (.bl (isNon x)) cs
  | _ => .bad
def notND : Op2 := fun x y cs => match y with
  | .non => .ok (.bl (!isNon x)) cs
  | _ => .bad
theorem rep_non {x : D} {vx : V} (r : Rep K w x vx) : decide (vx = .non) = isNon x := by
  cases x with
  | non =>
    cases (show vx = .non from r)
    rfl
  | bl b => cases (show vx = .bl b from r); rfl
  | int b => cases (show vx = .int b from r); rfl
  | str b => cases (show vx = .str b from r); rfl
  | ty b => cases (show vx = .ty b from r); rfl
  | rf b => cases (show vx = .ref b from r); rfl
  | wl l => obtain ⟨a, rfl, _⟩ := r; rfl
  | lst l => obtain ⟨a, xs, rfl, _⟩ := r; rfl
  | tup l => obtain ⟨a, xs, rfl, _⟩ := r; rfl
  | dct k l => obtain ⟨a, xs, rfl, _⟩ := r; rfl
  | ins c k l => obtain ⟨a, dx, xs, rfl, _⟩ := r; rfl
  | ref i => obtain ⟨a, rfl, _⟩ := r; rfl
theorem sp_isN : OpS K (fun x y H Q => y = .non ∧ Q (.bl (decide (x = .non))) H) isND := fun E w cs x y vx vy Q s rx ry h => by
  unfold isND at h
  split at h
  · refine ⟨ry, ?_⟩
    rw [rep_non rx]
    exact aft s h rfl
  · exact h.elim
theorem sp_notN : OpS K (fun x y H Q => y = .non ∧ Q (.bl (!decide (x = .non))) H) notND := fun E w cs x y vx vy Q s rx ry h => by
  unfold notND at h
  split at h
  · refine ⟨ry, ?_⟩
    rw [rep_non rx]
    exact aft s h rfl
  · exact h.elim
/-! ### in -/
def inS (i j : Str) : Bool := !(Builtin.Str.occurrences j i 0 j.length 1).isEmpty
def flatD : D → Bool
  | .non => true
  | .bl _ => true
  | .int _ => true
  | .str _ => true
  | _ => false
def eqF : D → D → Bool
  | .non, .non => true
  | .bl a, .bl b => a == b
  | .bl a, .int b => (if a then 1 else 0) == b
  | .int a, .bl b => a == (if b then 1 else 0)
  | .int a, .int b => a == b
  | .str a, .str b => a == b
  | _, _ => false
def inF (x : D) (l : List D) : Bool := l.any fun y => eqF y x
def seqOf (cs : List D) (d : D) : Option (List D) := match d with
  | .tup l => some l
  | d => lstOf cs d
def inB (cs : List D) (x y : D) : Option Bool := match x, y with
  | .str i, .str j => some (inS i j)
  | _, _ => match seqOf cs y with
    | some l => if flatD x = true ∧ l.all flatD = true then some (inF x l) else none
    | none => none
def inD : Op2 := fun x y cs => match inB cs x y with
  | some b => .ok (.bl b) cs
  | none => .bad
def notInD : Op2 := fun x y cs => match inB cs x y with
  | some b => .ok (.bl (!b)) cs
  | none => .bad
theorem flatD_ok {x : D} {v : V} (r : Rep K w x v) (h : flatD x = true) : flatV v = true := by
  cases x with
  | non => cases (show v = .non from r); rfl
  | bl b => cases (show v = .bl b from r); rfl
  | int b => cases (show v = .int b from r); rfl
  | str b => cases (show v = .str b from r); rfl
  | _ => cases h
theorem eqF_ok {x y : D} {v u : V} (rx : Rep K w x v) (ry : Rep K w y u) (hx : flatD x = true) (hy : flatD y = true) : eqV v u = eqF x y := by
  cases x <;> cases hx <;> cases y <;> cases hy <;> (cases rx; cases ry; rfl)
theorem flatDs_ok : ∀ {l : List D} {xs : List V}, Reps K w l xs → l.all flatD = true → xs.all flatV = true
  | [], xs, r, _ => by
    cases (show xs = [] from r)
    rfl
  | d :: ds, xs, r, h => by
    obtain ⟨v, vs, rfl, rv, rs⟩ := r
    rw [List.all_cons, Bool.and_eq_true] at h
    rw [List.all_cons, flatD_ok rv h.1, flatDs_ok rs h.2]
    rfl
theorem inF_ok {x : D} {v : V} (rx : Rep K w x v) (hx : flatD x = true) : ∀ {l : List D} {xs : List V}, Reps K w l xs → l.all flatD = true → inV v xs = inF x l
  | [], xs, r, _ => by
    cases (show xs = [] from r)
    rfl
  | d :: ds, xs, r, h => by
    obtain ⟨u, vs, rfl, rv, rs⟩ := r
    rw [List.all_cons, Bool.and_eq_true] at h
    have ih := inF_ok rx hx rs h.2
    unfold inV inF at ih ⊢
    rw [List.any_cons, List.any_cons, eqF_ok rv rx h.1 hx, ih]
theorem seqOf_ok {d : D} {v : V} {l : List D} (s : Sim K w cs) (r : Rep K w d v) (h : seqOf cs d = some l) : ∃ a xs, v = .ref a ∧ (SqL K w.H a xs ∨ SqT K w.H a xs) ∧ Reps K w l xs := by
  by_cases ht : ∃ m, d = .tup m
  · obtain ⟨m, rfl⟩ := ht
    obtain ⟨a, xs, rfl, f, g, q⟩ := r
    cases h
    exact ⟨a, xs, rfl, .inr (.inl (.inl g)), q⟩
  · have h' : lstOf cs d = some l := by
      cases d with
      | tup m => exact absurd ⟨m, rfl⟩ ht
      | _ => exact h
    obtain ⟨a, xs, e, g, q⟩ := lstOf_ok s r h'
    exact ⟨a, xs, e, .inl g, q⟩
def rInAny (K : PySem.W.Frag) (neg : Bool) : R2 := fun x y H Q => (∃ i j, x = .str i ∧ y = .str j ∧ Q (.bl (if neg then !inS i j else inS i j)) H) ∨ rIn K neg x y H Q
theorem op_inA {X : Cx} : OpR X (compareOp .In) (rInAny X.K false) := op_in_str.or op_in_seq
theorem op_notInA {X : Cx} : OpR X (compareOp .NotIn) (rInAny X.K true) := op_notIn_str.or op_notIn_seq
theorem in_ok {neg : Bool} {x y : D} {vx vy : V} {b : Bool} (s : Sim K w cs) (rx : Rep K w x vx) (ry : Rep K w y vy) (h : inB cs x y = some b) (q : Q (.bl (if neg then !b else b)) w.H) : rInAny K neg vx vy w.H Q := by
  unfold inB at h
  split at h
  · cases (show vx = .str _ from rx)
    cases (show vy = .str _ from ry)
    cases h
    exact .inl ⟨_, _, rfl, rfl, q⟩
  · cases h1 : seqOf cs y with
    | none =>
      simp only [h1] at h
      cases h
    | some l =>
      simp only [h1] at h
      split at h
      · rename_i hf
        cases h
        obtain ⟨a, xs, rfl, g, qs⟩ := seqOf_ok s ry h1
        exact .inr ⟨a, xs, rfl, g, flatD_ok rx hf.1, flatDs_ok qs hf.2, by rw [inF_ok rx hf.1 qs hf.2]; exact q⟩
      · cases h
theorem sp_in : OpS K (rInAny K false) inD := fun E w cs x y vx vy Q s rx ry h => by
  unfold inD at h
  cases h1 : inB cs x y with
  | none =>
    simp only [h1] at h
    exact h.elim
  | some b =>
    simp only [h1] at h
    exact in_ok s rx ry h1 (aft s h rfl)
theorem sp_notIn : OpS K (rInAny K true) notInD := fun E w cs x y vx vy Q s rx ry h => by
  unfold notInD at h
  cases h1 : inB cs x y with
  | none =>
    simp only [h1] at h
    exact h.elim
  | some b =>
    simp only [h1] at h
    exact in_ok s rx ry h1 (aft s h rfl)
/-! ### items, slices -/
def ixD : Op2 := fun x y cs => match y with
  | .int i => match x with
    | .str z => if z.length ≤ sizeLine then match atI z.cps.toList i with
        | some c => .ok (.str ⟨#[c]⟩) cs
        | none => .bad
      else .bad
    | x => match seqOf cs x with
      | some l => match atI l i with
        | some d => .ok d cs
        | none => .bad
      | none => .bad
  | _ => .bad
theorem atI_rep {l : List D} {xs : List V} {i : Int} {d : D} (r : Reps K w l xs) (h : atI l i = some d) : ∃ v, atI xs i = some v ∧ Rep K w d v := by
  unfold atI at h ⊢
  rw [← Reps.length K r]
  cases h1 : ixN l.length i with
  | none =>
    rw [h1] at h
    cases h
  | some j =>
    rw [h1] at h
    exact Reps.get K r h
theorem sp_ix : OpS K (rIx K) ixD := fun E w cs x y vx vy Q s rx ry h => by
  unfold ixD at h
  split at h
  · cases (show vy = .int _ from ry)
    rename_i i
    split at h
    · cases (show vx = .str _ from rx)
      rename_i z
      obtain ⟨hz, h⟩ := if_bad h
      cases h1 : atI z.cps.toList i with
      | none =>
        simp only [h1] at h
        exact h.elim
      | some c =>
        simp only [h1] at h
        exact .inr (.inr ⟨z, i, c, rfl, rfl, hz, h1, aft s h rfl⟩)
    · cases h1 : seqOf cs x with
      | none =>
        simp only [h1] at h
        exact h.elim
      | some l =>
        simp only [h1] at h
        cases h2 : atI l i with
        | none =>
          simp only [h2] at h
          exact h.elim
        | some d =>
          simp only [h2] at h
          obtain ⟨a, xs, rfl, g, q⟩ := seqOf_ok s rx h1
          obtain ⟨v, hv, rv⟩ := atI_rep q h2
          rcases g with g | g
          · exact .inl ⟨a, xs, i, v, rfl, rfl, g, hv, aft s h rv⟩
          · exact .inr (.inl ⟨a, xs, i, v, rfl, rfl, g, hv, aft s h rv⟩)
  · exact h.elim
def cutD (l : List D) (lo hi : Option Int) : List D := (l.drop (HT.sIx l.length 0 lo)).take (HT.sIx l.length l.length hi - HT.sIx l.length 0 lo)
theorem cut_rep {l : List D} {xs : List V} (r : Reps K w l xs) (lo hi : Option Int) : Reps K w (cutD l lo hi) (cutV xs lo hi) := by
  unfold cutD cutV
  rw [← Reps.length K r]
  exact Reps.take K _ (Reps.drop K _ r)
def slD : OpSl := fun x lo hi cs => match x with
  | .str z => if z.length ≤ sizeLine then .ok (.str (cutS z lo hi)) cs else .bad
  | .tup l => if ¬ (HT.sIx l.length 0 lo = 0 ∧ HT.sIx l.length l.length hi = l.length) then .ok (.tup (cutD l lo hi)) cs else .bad
  | x => match lstOf cs x with
    | some l => .ok (.lst (cutD l lo hi)) cs
    | none => .bad
/-- the same, a list of one's own -/
def slDL : OpSl := fun x lo hi cs => match lstOf cs x with
    | some l => if nrs l = true then .ok (.ref cs.length) (cs ++ [.lst (cutD l lo hi)]) else .bad
    | none => .bad
def rSlAny (K : PySem.W.Frag) : V → Option Int → Option Int → Hp → VK → Prop := fun x lo hi H Q => rSlS x lo hi H Q ∨ rSlT K x lo hi H Q ∨ rSlL K x lo hi H Q
theorem sl_any {X : Cx} : SlR X (rSlAny X.K) := sl_str.or (sl_tup.or sl_list)
theorem sp_sl : SlS K (rSlAny K) slD := fun E w cs x vx lo hi Q s rx h => by
  unfold slD at h
  split at h
  · cases (show vx = .str _ from rx)
    obtain ⟨hz, h⟩ := if_bad h
    exact .inl ⟨_, rfl, hz, aft s h rfl⟩
  · obtain ⟨hz, h⟩ := if_bad h
    obtain ⟨a, xs, rfl, f, g, q⟩ := rx
    exact .inr (.inl ⟨a, xs, rfl, .inl (.inl g), by rw [← Reps.length K q]; exact hz, fun p np => aftT s h np (cut_rep q lo hi)⟩)
  · cases h1 : lstOf cs x with
    | none =>
      simp only [h1] at h
      exact h.elim
    | some l =>
      simp only [h1] at h
      obtain ⟨a, xs, rfl, g, q⟩ := lstOf_ok s rx h1
      exact .inr (.inr ⟨a, xs, rfl, g, fun p np => aftL s h np (cut_rep q lo hi)⟩)
/-! ### o[i] = v over lists -/
def setD : Op3 := fun o i d cs => match o, i with
  | .ref k, .int i => match cs[k]? with
    | some (.lst l) => match ixN l.length i with
      | some j => if nr d = true then some (cs.set k (.lst (l.set j d))) else none
      | none => none
    | _ => none
  | _, _ => none
theorem nrs_set {l : List D} {d : D} : ∀ {j : Nat}, nrs l = true → nr d = true → nrs (l.set j d) = true := by
  induction l with
  | nil => exact fun _ _ => rfl
  | cons a l ih =>
    intro j hl hd
    have hl' : (nr a && nrs l) = true := hl
    rw [Bool.and_eq_true] at hl'
    cases j with
    | zero =>
      show (nr d && nrs l) = true
      rw [hd, hl'.2]
      rfl
    | succ j =>
      show (nr a && nrs (l.set j d)) = true
      rw [hl'.1, ih hl'.2 hd]
      rfl
theorem sp_set : SetS K rSetL setD := fun w cs cs' o i d vo vi v Q s ro ri rd h q => by
  unfold setD at h
  split at h
  · rename_i k i
    cases (show vi = .int _ from ri)
    obtain ⟨a, rfl, hk⟩ := ro
    split at h
    · rename_i l hc
      split at h
      · rename_i j hj
        split at h
        · rename_i hn
          cases h
          obtain ⟨_, _, ⟨xs, g, qs⟩, hl⟩ := s.cell k a _ hk hc
          refine ⟨a, xs, i, j, rfl, rfl, g, by rw [← Reps.length K qs]; exact hj, ?_⟩
          have le := s.le_put (o := .lst (xs.set j v)) hk hc
          exact q (w.put a (.lst (xs.set j v))) le (s.put hk hc (nrs_set hl hn) ⟨_, upd_same, Reps.set K (Rep.mono K le d v rd) j (Reps.mono K le _ _ qs)⟩)
        · cases h
      · cases h
    · cases h
  · cases h
end
end Wf
set_option Elab.async false
set_option linter.all false
set_option maxRecDepth 100000
/-! What built-ins and methods do on data. -/
namespace Wf
open PySem PySem.Spec PyProof.Rows L2
section
variable {K : PySem.W.Frag} {E : EE} {w : Wd} {cs : List D} {Q : VK}
theorem r1 {d : D} {vs : List V} (r : Reps K w [d] vs) : ∃ v, vs = [v] ∧ Rep K w d v := by
  obtain ⟨v, vs', e, rv, q⟩ := r
  cases (show vs' = [] from q)
  exact ⟨v, e, rv⟩
theorem r2 {d e : D} {vs : List V} (r : Reps K w [d, e] vs) : ∃ v u, vs = [v, u] ∧ Rep K w d v ∧ Rep K w e u := by
  obtain ⟨v, vs', e1, rv, q⟩ := r
  obtain ⟨u, rfl, ru⟩ := r1 q
  exact ⟨v, u, e1, rv, ru⟩
def lenD : OpC := fun ds cs => match ds with
  | [.str z] => if z.length ≤ sizeLine then .ok (.int z.length) cs else .bad
  | [.dct ks l] => .bad
  | [d] => match seqOf cs d with
    | some l => .ok (.int l.length) cs
    | none => .bad
  | _ => .bad
theorem cs_len : CallS K (fun xs H Q => ∃ x n, xs = [x] ∧ LenV K x H n ∧ Q (.int n) H) lenD := fun E w cs ds vs Q s rs h => by
  unfold lenD at h
  split at h
  · obtain ⟨v, rfl, rv⟩ := r1 rs
    cases (show v = .str _ from rv)
    obtain ⟨hz, h⟩ := if_bad h
    exact ⟨_, _, rfl, ⟨hz, rfl⟩, aft s h rfl⟩
  · exact h.elim
  · rename_i d _ _
    obtain ⟨v, rfl, rv⟩ := r1 rs
    cases h1 : seqOf cs d with
    | none =>
      simp only [h1] at h
      exact h.elim
    | some l =>
      simp only [h1] at h
      obtain ⟨a, xs, rfl, g, q⟩ := seqOf_ok s rv h1
      refine ⟨_, l.length, rfl, ?_, aft s h rfl⟩
      rcases g with g | g
      · exact .inl ⟨xs, g, Reps.length K q⟩
      · exact .inr ⟨xs, g, Reps.length K q⟩
  · exact h.elim
def intD : OpC := fun ds cs => match ds with
  | [.int i] => .ok (.int i) cs
  | [.bl b] => .ok (.int (if b then 1 else 0)) cs
  | _ => .bad
theorem cs_int : CallS K (fun xs H Q => (∃ i, xs = [.int i] ∧ Q (.int i) H) ∨ ∃ k, xs = [.bl k] ∧ Q (.int (if k then 1 else 0)) H) intD := fun E w cs ds vs Q s rs h => by
  unfold intD at h
  split at h
  · obtain ⟨v, rfl, rv⟩ := r1 rs
    cases (show v = .int _ from rv)
    exact .inl ⟨_, rfl, aft s h rfl⟩
  · obtain ⟨v, rfl, rv⟩ := r1 rs
    cases (show v = .bl _ from rv)
    exact .inr ⟨_, rfl, aft s h rfl⟩
  · exact h.elim
def absD : OpC := fun ds cs => match ds with
  | [.int i] => .ok (.int (if i < 0 then -i else i)) cs
  | _ => .bad
theorem cs_abs : CallS K (fun xs H Q => ∃ i, xs = [.int i] ∧ Q (.int (if i < 0 then -i else i)) H) absD := fun E w cs ds vs Q s rs h => by
  unfold absD at h
  split at h
  · obtain ⟨v, rfl, rv⟩ := r1 rs
    cases (show v = .int _ from rv)
    exact ⟨_, rfl, aft s h rfl⟩
  · exact h.elim
def minD : OpC := fun ds cs => match ds with
  | [.int i, .int j] => .ok (.int (if j < i then j else i)) cs
  | _ => .bad
def maxD : OpC := fun ds cs => match ds with
  | [.int i, .int j] => .ok (.int (if j > i then j else i)) cs
  | _ => .bad
theorem cs_min : CallS K (fun xs H Q => ∃ i j, xs = [.int i, .int j] ∧ Q (.int (if j < i then j else i)) H) minD := fun E w cs ds vs Q s rs h => by
  unfold minD at h
  split at h
  · obtain ⟨v, u, rfl, rv, ru⟩ := r2 rs
    cases (show v = .int _ from rv)
    cases (show u = .int _ from ru)
    exact ⟨_, _, rfl, aft s h rfl⟩
  · exact h.elim
theorem cs_max : CallS K (fun xs H Q => ∃ i j, xs = [.int i, .int j] ∧ Q (.int (if j > i then j else i)) H) maxD := fun E w cs ds vs Q s rs h => by
  unfold maxD at h
  split at h
  · obtain ⟨v, u, rfl, rv, ru⟩ := r2 rs
    cases (show v = .int _ from rv)
    cases (show u = .int _ from ru)
    exact ⟨_, _, rfl, aft s h rfl⟩
  · exact h.elim
/-- list(x), a list of one's own, or one that stays -/
def listD : OpC := fun ds cs => match ds with
  | [d] => match seqOf cs d with
    | some l => .ok (.lst l) cs
    | none => .bad
  | _ => .bad
def listDL : OpC := fun ds cs => match ds with
  | [d] => match seqOf cs d with
    | some l => if nrs l = true then .ok (.ref cs.length) (cs ++ [.lst l]) else .bad
    | none => .bad
  | _ => .bad
def rListAny (K : PySem.W.Frag) : List V → Hp → VK → Prop := fun xs H Q => ∃ p ys, xs = [.ref p] ∧ (SqL K H p ys ∨ SqT K H p ys) ∧ ∀ l, H l = none → Q (.ref l) (upd H l (.lst ys))
theorem call_listA {X : Cx} : CallR X (.type "list") (rListAny X.K) := call_list_of
theorem cs_list : CallS K (rListAny K) listD := fun E w cs ds vs Q s rs h => by
  unfold listD at h
  split at h
  · rename_i d
    obtain ⟨v, rfl, rv⟩ := r1 rs
    cases h1 : seqOf cs d with
    | none =>
      simp only [h1] at h
      exact h.elim
    | some l =>
      simp only [h1] at h
      obtain ⟨a, xs, rfl, g, q⟩ := seqOf_ok s rv h1
      exact ⟨a, xs, rfl, g, fun p np => aftL s h np q⟩
  · exact h.elim
theorem cs_listL : CallS K (rListAny K) listDL := fun E w cs ds vs Q s rs h => by
  unfold listDL at h
  split at h
  · rename_i d
    obtain ⟨v, rfl, rv⟩ := r1 rs
    cases h1 : seqOf cs d with
    | none =>
      simp only [h1] at h
      exact h.elim
    | some l =>
      simp only [h1] at h
      obtain ⟨hn, h⟩ := if_bad h
      obtain ⟨a, xs, rfl, g, q⟩ := seqOf_ok s rv h1
      exact ⟨a, xs, rfl, g, fun p np => aftC s h np hn q⟩
  · exact h.elim
/-! ### isinstance with built-in classes -/
def tyN (cs : List D) (d : D) : Option String := match d with
  | .non => some "NoneType"
  | .bl _ => some "bool"
  | .int _ => some "int"
  | .str _ => some "str"
  | .lst _ => some "list"
  | .tup _ => some "tuple"
  | .dct _ _ => some "dict"
  | .ref i => match cs[i]? with
    | some (.lst _) => some "list"
    | some (.dct _ _) => some "dict"
    | _ => none
  | _ => none
def tyNames : List String := ["NoneType", "bool", "int", "str", "list", "tuple", "dict"]
def isT (a T : String) : Option Bool := if a ∈ tyNames ∧ T ∈ ["bool", "int", "str", "list", "tuple", "dict"] then some (a == T || (a == "bool" && T == "int")) else none
theorem isT_ok {a T : String} {b : Bool} (h : isT a T = some b) : PySem.W.kitOne K (.type a) (.type T) = some b := by
  unfold isT at h
  split at h
  · rename_i hm
    cases h
    have all : ∀ a ∈ tyNames, ∀ T ∈ ["bool", "int", "str", "list", "tuple", "dict"], kitB a T = some (a == T || (a == "bool" && T == "int")) := by decide +kernel
    exact kit_ty (all a hm.1 T hm.2)
  · cases h
theorem tyN_ok {d : D} {v : V} {t : String} (s : Sim K w cs) (r : Rep K w d v) (h : tyN cs d = some t) : TyX K w.H v (.type t) := by
  cases d with
  | non => cases (show v = .non from r); cases h; exact .base .non
  | bl b => cases (show v = .bl b from r); cases h; exact .base (.bl b)
  | int b => cases (show v = .int b from r); cases h; exact .base (.int b)
  | str b => cases (show v = .str b from r); cases h; exact .base (.str b)
  | lst l =>
    obtain ⟨a, xs, rfl, f, g, q⟩ := r
    cases h
    exact .base (.lst g)
  | tup l =>
    obtain ⟨a, xs, rfl, f, g, q⟩ := r
    cases h
    exact .base (.tup g)
  | dct k l =>
    obtain ⟨a, xs, rfl, f, g, q⟩ := r
    cases h
    exact .base (.dK g)
  | ref i =>
    obtain ⟨a, rfl, hi⟩ := r
    unfold tyN at h
    cases hc : cs[i]? with
    | none =>
      simp only [hc] at h
      cases h
    | some c =>
      obtain ⟨_, _, o, _⟩ := s.cell i a c hi hc
      cases c with
      | lst l =>
        simp only [hc] at h
        cases h
        obtain ⟨xs, g, q⟩ := o
        exact .base (.lst g)
      | dct k l =>
        simp only [hc] at h
        cases h
        obtain ⟨xs, g, _⟩ := o
        exact .base (.dK g)
      | _ =>
        simp only [hc] at h
        cases h
  | _ => cases h
def isiD : OpC := fun ds cs => match ds with
  | [d, .ty T] => match tyN cs d with
    | some t => match isT t T with
      | some b => .ok (.bl b) cs
      | none => .bad
    | none => .bad
  | _ => .bad
theorem cs_isi : CallS K (rIsi K) isiD := fun E w cs ds vs Q s rs h => by
  unfold isiD at h
  split at h
  · rename_i d T
    obtain ⟨v, u, rfl, rv, ru⟩ := r2 rs
    cases (show u = .ty T from ru)
    cases h1 : tyN cs d with
    | none =>
      simp only [h1] at h
      exact h.elim
    | some t =>
      simp only [h1] at h
      cases h2 : isT t T with
      | none =>
        simp only [h2] at h
        exact h.elim
      | some b =>
        simp only [h2] at h
        exact ⟨v, .ty T, .type t, .type T, b, rfl, .ty T, tyN_ok s rv h1, isT_ok h2, aft s h rfl⟩
  · exact h.elim
/-! ### methods -/
def find3D : OpM := fun x ds cs => match x, ds with
  | .str a, [.str b, .int i] => .ok (.int (Txt.find3 a b i)) cs
  | _, _ => .bad
theorem ms_find3 : MtS K (fun x xs H Q => ∃ (a b : Str) (i : Int), x = .str a ∧ xs = [.str b, .int i] ∧ Q (.int (Txt.find3 a b i)) H) find3D := fun E w cs x vx ds vs Q s rx rs h => by
  unfold find3D at h
  split at h
  · cases (show vx = .str _ from rx)
    obtain ⟨v, u, rfl, rv, ru⟩ := r2 rs
    cases (show v = .str _ from rv)
    cases (show u = .int _ from ru)
    exact ⟨_, _, _, rfl, rfl, aft s h rfl⟩
  · exact h.elim
def findD : OpM := fun x ds cs => match x, ds with
  | .str a, [.str b] => .ok (.int (Txt.find a b)) cs
  | _, _ => .bad
theorem ms_find : MtS K (fun x xs H Q => ∃ a b, x = .str a ∧ xs = [.str b] ∧ Q (.int (Txt.find a b)) H) findD := fun E w cs x vx ds vs Q s rx rs h => by
  unfold findD at h
  split at h
  · cases (show vx = .str _ from rx)
    obtain ⟨v, rfl, rv⟩ := r1 rs
    cases (show v = .str _ from rv)
    exact ⟨_, _, rfl, rfl, aft s h rfl⟩
  · exact h.elim
def strsOf : List D → Option (List Str)
  | [] => some []
  | .str s :: ds => (strsOf ds).map (s :: ·)
  | _ => none
theorem strsOf_ok : ∀ {l : List D} {ss : List Str}, strsOf l = some ss → l = ss.map D.str
  | [], ss, h => by
    cases h
    rfl
  | d :: ds, ss, h => by
    cases d with
    | str s =>
      have h' : (strsOf ds).map (s :: ·) = some ss := h
      cases h1 : strsOf ds with
      | none =>
        rw [h1] at h'
        cases h'
      | some ys =>
        rw [h1] at h'
        cases h'
        rw [strsOf_ok h1]
        rfl
    | _ => cases h
@[simp] theorem strsOf_map (ss : List Str) : strsOf (ss.map D.str) = some ss := by
  induction ss with
  | nil => rfl
  | cons s ss ih =>
    show (strsOf (ss.map D.str)).map (s :: ·) = some (s :: ss)
    rw [ih]
    rfl
def joinD : OpM := fun x ds cs => match x, ds with
  | .str a, [d] => match seqOf cs d with
    | some l => match strsOf l with
      | some ys => if (ys.map (·.length)).sum + ys.length * a.length ≤ 16777216 then .ok (.str (Txt.join a ys)) cs else .bad
      | none => .bad
    | none => .bad
  | _, _ => .bad
theorem ms_join : MtS K (fun x xs H Q => ∃ a p, ∃ ys : List Str, x = .str a ∧ xs = [.ref p] ∧ (SqL K H p (ys.map V.str) ∨ SqT K H p (ys.map V.str)) ∧
    (ys.map (·.length)).sum + ys.length * a.length ≤ 16777216 ∧ Q (.str (Txt.join a ys)) H) joinD := fun E w cs x vx ds vs Q s rx rs h => by
  unfold joinD at h
  split at h
  · rename_i a d
    cases (show vx = .str _ from rx)
    obtain ⟨v, rfl, rv⟩ := r1 rs
    cases h1 : seqOf cs d with
    | none =>
      simp only [h1] at h
      exact h.elim
    | some l =>
      cases h2 : strsOf l with
      | none =>
        simp only [h1, h2] at h
        exact h.elim
      | some ys =>
        simp only [h1, h2] at h
        obtain ⟨hz, h⟩ := if_bad h
        obtain ⟨p, xs, rfl, g, q⟩ := seqOf_ok s rv h1
        rw [strsOf_ok h2] at q
        have e := Reps.strs_eq K q
        rw [e] at g
        exact ⟨a, p, ys, rfl, rfl, g, hz, aft s h rfl⟩
  · exact h.elim
theorem aftP {l l0 : List D} {xs : List V} {a : Addr} {i : Nat} (s : Sim K w cs) (h : After K E w (.ok .non (cs.set i (.lst l))) (fun d _ w' => ∀ v, Rep K w' d v → Q v w'.H)) (hi : w.p[i]? = some a) (hc : cs[i]? = some (.lst l0)) (hn : nrs l = true) (r : ∀ w', Le w w' → Reps K w' l xs) : Q .non (upd w.H a (.lst xs)) := by
  have le := s.le_put (o := .lst xs) hi hc
  exact h (w.put a (.lst xs)) le (s.put hi hc hn ⟨xs, upd_same, r _ le⟩) .non rfl
def appendD : OpM := fun x ds cs => match x, ds with
  | .ref i, [d] => match cs[i]? with
    | some (.lst l) => if l.length < sizeLine ∧ nr d = true ∧ nrs l = true then .ok .non (cs.set i (.lst (l ++ [d]))) else .bad
    | _ => .bad
  | _, _ => .bad
theorem ms_append : MtS K rAppend appendD := fun E w cs x vx ds vs Q s rx rs h => by
  unfold appendD at h
  split at h
  · rename_i i d
    obtain ⟨a, rfl, hi⟩ := rx
    obtain ⟨v, rfl, rv⟩ := r1 rs
    split at h
    · rename_i l hc
      obtain ⟨⟨hz, hn, hl⟩, h⟩ := if_bad h
      obtain ⟨_, _, ⟨xs, g, q⟩, _⟩ := s.cell i a _ hi hc
      refine ⟨a, xs, v, rfl, rfl, g, by rw [← Reps.length K q]; exact hz, ?_⟩
      refine aftP s h hi hc ?_ fun w' le => Reps.app K (Reps.mono K le _ _ q) ⟨v, [], rfl, Rep.mono K le d v rv, rfl⟩
      rw [nrs_app, hl]
      show (true && (nr d && true)) = true
      rw [hn]
      rfl
    · exact h.elim
  · exact h.elim
/-- a list that nobody else holds any more settles into data -/
def mFrz (m : M) : M := fun r cs => (m r cs).bind fun d cs' => match d with
  | .ref i => if cs.length ≤ i ∧ i + 1 = cs'.length then match cs'[i]? with
      | some (.lst l) => .ok (.lst l) (cs'.take i)
      | _ => .bad
    else .bad
  | d => .ok d cs'
def Wd.frz (w : Wd) (i : Nat) (a : Addr) : Wd := ⟨w.p.take i, fun b => w.F b ∨ b = a, w.G, w.H⟩
theorem Sim.frz {w : Wd} {cs : List D} {i : Nat} {a : Addr} {c : D} (s : Sim K w cs) (hi : w.p[i]? = some a) (hc : cs[i]? = some c) : Sim K (w.frz i a) (cs.take i) := by
  obtain ⟨f1, f2, f3, f4⟩ := s.cell i a c hi hc
  refine ⟨?_, fun j k b hj hk => s.nd j k b (take_get hj).2 (take_get hk).2, fun b f => ?_, fun b g => ?_, fun j b d hj hd => ?_⟩
  · show (w.p.take i).length = _
    rw [List.length_take, List.length_take, s.len]
  · rcases f with f | f
    · exact s.trk b f
    · rw [f]
      exact f2
  · obtain ⟨g1, g2, g3⟩ := s.gtr b g
    refine ⟨fun f => f.elim g1 fun e => ?_, g2, fun j hj => g3 j (take_get hj).2⟩
    subst e
    exact g3 i hi
  · obtain ⟨c1, c2, c3, c4⟩ := s.cell j b d (take_get hj).2 (take_get hd).2
    refine ⟨fun f => f.elim c1 fun e => ?_, c2, ORep.cell (w := w) (w' := w.frz i a) (fun _ h => .inl h) (fun _ _ => rfl) rfl d c4 c3, c4⟩
    subst e
    have := s.nd j i b (take_get hj).2 hi
    have := (take_get hj).1
    omega
theorem je_frz {X : Cx} {W : WX} {e : Expr} {m : M} (h : JE X W e m) : JE X W e (mFrz m) := peI h fun σ H Q ⟨w, rr, cs, e, s, ev, a⟩ => by
  refine ⟨w, rr, cs, e, s, ev, ?_⟩
  unfold mFrz at a
  cases hm : m rr cs with
  | bad =>
    rw [hm] at a
    exact a
  | err x r cs' =>
    rw [hm] at a
    exact a
  | ok d cs' =>
    rw [hm] at a
    simp only [R.bind_ok] at a
    split at a
    · rename_i i
      obtain ⟨⟨h1, h2⟩, a⟩ := if_bad a
      split at a
      · rename_i l hc
        intro w1 l1 s1 v ⟨p, e2, hp⟩
        subst e2
        obtain ⟨f1, f2, ⟨xs, g, q⟩, f4⟩ := s1.cell i p _ hp hc
        have hlen : w.p.length = cs.length := s.len
        have le : Le w (w1.frz i p) := by
          refine ⟨fun j b hj => ?_, fun b f => .inl (l1.fr b f), l1.keep, l1.gd⟩
          have hl : j < w.p.length := (List.getElem?_eq_some_iff.mp hj).1
          show (w1.p.take i)[j]? = some b
          rw [List.getElem?_take, if_pos (by omega)]
          exact l1.pre j b hj
        exact a (w1.frz i p) le (s1.frz hp hc) (.ref p) ⟨p, xs, rfl, .inr rfl, g, Reps.nr _ (w := w1) (w' := w1.frz i p) (fun _ h => .inl h) (fun _ _ => rfl) l xs f4 q⟩
      · exact a.elim
    · exact a
/-- a walk over a list, a tuple, a text -/
def itA (d : D) : Option (List D) := match d with
  | .lst l => some l
  | .wl l => some (l.map .int)
  | .tup l => some l
  | .str s => some (chrs s)
  | _ => none
theorem PI.or {X : Cx} {tg e : Expr} {t u : TI} (h : PI X tg e t) (k : PI X tg e u) : PI X tg e (fun σ H R => t σ H R ∨ u σ H R) := ⟨fun pins s σ H R I q => q.elim (h.run pins s σ H R I) (k.run pins s σ H R I)⟩
theorem ji_any {X : Cx} {W : WX} {tg e : Expr} {m : M} (h : JE X W e m) : JI X W tg e (mIt itA m) := piI (PI.or (ji_list h) (PI.or (ji_tup h) (ji_str h))) fun σ H Q ⟨w, rr, cs, e, s, ev, a⟩ => by
  unfold mIt at a
  cases hm : m rr cs with
  | bad =>
    rw [hm] at a
    exact a.elim
  | err x r cs' =>
    refine .inl ⟨w, rr, cs, e, s, ev, ?_⟩
    unfold mIt
    rw [hm] at a ⊢
    exact a
  | ok d cs' =>
    rw [hm] at a
    simp only [R.bind_ok] at a
    cases d with
    | lst l =>
      refine .inl ⟨w, rr, cs, e, s, ev, ?_⟩
      unfold mIt
      rw [hm]
      exact a
    | wl l =>
      refine .inl ⟨w, rr, cs, e, s, ev, ?_⟩
      unfold mIt
      rw [hm]
      exact a
    | tup l =>
      refine .inr (.inl ⟨w, rr, cs, e, s, ev, ?_⟩)
      unfold mIt
      rw [hm]
      exact a
    | str l =>
      refine .inr (.inr ⟨w, rr, cs, e, s, ev, ?_⟩)
      unfold mIt
      rw [hm]
      exact a
    | _ => exact a.elim
end
/-- turns enough for any while here -/
def whl : Nat := 1000000
theorem law_sp {f : Fn} {ns : List Int} (h : ∃ cs, f [.wl ns] [] = .ok (.bl true) cs) {K : PySem.W.Frag} {H : Hp} {a : Addr} (hS : SqL K H a (ns.map V.int)) : spF K f [.ref a] H (fun v _ => v = .bl true) (fun _ _ _ => False) := by
  obtain ⟨cs, h⟩ := h
  refine ⟨⟨[], fun b => ∃ o, H b = some o, fun _ => False, H⟩, [.wl ns], [], rfl, Sim.mk rfl (fun i j a h => by cases i <;> cases h) (fun _ h => h) (fun _ h => False.elim h) (fun i a d h => by cases i <;> cases h), ⟨.ref a, [], rfl, ⟨a, rfl, ?_⟩, rfl⟩, ?_⟩
  · rcases hS with z | z
    · refine .inl ⟨?_, .inl z⟩
      rcases z with z | ⟨o, z⟩
      · exact ⟨_, z⟩
      · exact ⟨_, z⟩
    · exact .inr fun H' => .inr z
  · rw [h]
    intro w' _ _ v rv
    exact rv
theorem cx_none {P : Program} {w : World} {H : Hp} {s : Shared} {e : Value} {s' : Shared} (h : L2.CX P w [] H s (fun _ _ _ => False) e s') : False := by
  obtain ⟨_, _, _, _, _, _, _, _, _, _, _, _, z⟩ := h
  exact z
end Wf
set_option Elab.async false
set_option linter.all false
set_option maxRecDepth 100000
/-! What a mirror hands back: Ok r P; and texts. -/
namespace Wf
open PySem PySem.Spec PyProof.Rows L2
def OkM {α : Type} (r : R α) (P : α → List D → Prop) : Prop := match r with
  | .ok a cs => P a cs
  | _ => False
structure Ok {α : Type} (r : R α) (P : α → List D → Prop) : Prop where
  h : OkM r P
theorem Ok_M {α : Type} {r : R α} {P : α → List D → Prop} : Ok r P = OkM r P := propext ⟨fun h => h.h, fun h => ⟨h⟩⟩
@[simp] theorem Ok_ok {α : Type} (a : α) (cs : List D) (P : α → List D → Prop) : Ok (.ok a cs) P = P a cs := Ok_M
@[simp] theorem Ok_bad {α : Type} (P : α → List D → Prop) : Ok (.bad : R α) P = False := Ok_M
theorem Ok_err {α : Type} (x : D) (e : Env) (cs : List D) (P : α → List D → Prop) : Ok (.err x e cs : R α) P = False := Ok_M
@[simp] theorem Ok_bind {α β : Type} (r : R α) (k : α → List D → R β) (P : β → List D → Prop) : Ok (r.bind k) P = Ok r (fun a cs => Ok (k a cs) P) := by
  cases r with
  | ok a cs => rw [R.bind_ok, Ok_ok]
  | err x e cs => rw [R.bind_err, Ok_err, Ok_err]
  | bad => rw [R.bind_bad, Ok_bad, Ok_bad]
@[simp] theorem Ok_note {α : Type} (e : Env) (r : R α) (P : α → List D → Prop) : Ok (noteE e r) P = Ok r P := by
  cases r with
  | ok a cs => exact (rfl)
  | err x e cs =>
    show Ok (.err x _ cs) P = _
    rw [Ok_err, Ok_err]
  | bad => exact (rfl)
@[simp] theorem Ok_calm {α : Type} (r : R α) (P : α → List D → Prop) : Ok (calmR r) P = Ok r P := by
  cases r with
  | ok a cs => exact (rfl)
  | err x e cs =>
    show Ok .bad P = _
    rw [Ok_err, Ok_bad]
  | bad => exact (rfl)
theorem Ok_mono {α : Type} {r : R α} {P Q : α → List D → Prop} (h : Ok r P) (k : ∀ a cs, P a cs → Q a cs) : Ok r Q := by
  cases r with
  | ok a cs => exact ⟨k a cs h.h⟩
  | err x e cs => exact h.h.elim
  | bad => exact h.h.elim
theorem Ok_iff {α : Type} {r : R α} {P : α → List D → Prop} : Ok r P ↔ ∃ a cs, r = .ok a cs ∧ P a cs := by
  cases r with
  | ok a cs =>
    refine ⟨fun h => ⟨a, cs, rfl, h.h⟩, fun ⟨a', cs', e, h⟩ => ?_⟩
    cases e
    exact ⟨h⟩
  | err x e cs => exact ⟨fun h => h.h.elim, fun ⟨_, _, e, _⟩ => by cases e⟩
  | bad => exact ⟨fun h => h.h.elim, fun ⟨_, _, e, _⟩ => by cases e⟩
theorem Ok_get {α : Type} {r : R α} {P : α → List D → Prop} (h : Ok r P) : ∃ a cs, r = .ok a cs ∧ P a cs := Ok_iff.mp h
theorem Ok_if {α : Type} {p : Prop} [Decidable p] {a b : R α} {P : α → List D → Prop} : Ok (if p then a else b) P = if p then Ok a P else Ok b P := by
  split <;> rfl
/-- a def's end -/
theorem Ok_fin {n : Nat} {r : R Fl} {P : D → List D → Prop} (h : Ok r (fun fl cs => match fl with
    | .nx _ => P .non (cs.take n)
    | .ret d => Ok (outR n d cs) P
    | _ => False)) : Ok (finR n r) P := by
  cases r with
  | ok fl cs =>
    rw [Ok_ok] at h
    cases fl with
    | nx e => exact ⟨h⟩
    | ret d => exact h
    | brk e => exact h.elim
    | ct e => exact h.elim
  | err x e cs => exact h.h.elim
  | bad => exact h.h.elim
theorem Ok_finB {α : Type} {n : Nat} {r : R α} {k : α → List D → R Fl} {P : D → List D → Prop} : Ok (finR n (r.bind k)) P = Ok r (fun a cs => Ok (finR n (k a cs)) P) := by
  cases r with
  | ok a cs => rw [R.bind_ok, Ok_ok]
  | err x e cs =>
    rw [R.bind_err, Ok_err]
    unfold finR
    simp only
    split
    · rw [Ok_err]
    · rw [Ok_bad]
  | bad =>
    rw [R.bind_bad, Ok_bad]
    show Ok .bad P = False
    rw [Ok_bad]
theorem Ok_finO {n : Nat} {r : R Fl} {P : D → List D → Prop} : Ok (finR n r) P = Ok r (fun a cs => Ok (finR n (.ok a cs)) P) := by
  cases r with
  | ok a cs => rw [Ok_ok]
  | err x e cs =>
    rw [Ok_err]
    unfold finR
    simp only
    split
    · rw [Ok_err]
    · rw [Ok_bad]
  | bad =>
    rw [Ok_bad]
    show Ok .bad P = False
    rw [Ok_bad]
theorem out_nr {n : Nat} {d : D} {cs : List D} (h : nr d = true) : outR n d cs = .ok d (cs.take n) := by
  unfold outR
  rw [if_pos h]
theorem out_ref {n : Nat} {cs : List D} {c : D} {i : Nat} (hi : n ≤ i) (h : cs[i]? = some c) : outR n (.ref i) cs = .ok (.ref n) (cs.take n ++ [c]) := by
  unfold outR
  rw [if_neg (by simp [nr])]
  simp only [if_neg (show ¬ i < n by omega), h]
theorem Ok_def {nps nn : Nat} {m : MS} {ds cs : List D} {P : D → List D → Prop} (hl : ds.length = nps) (h : Ok (m (env0 nn ds) cs) (fun fl cs' => match fl with
    | .nx _ => P .non (cs'.take cs.length)
    | .ret d => Ok (outR cs.length d cs') P
    | _ => False)) : Ok (mDef nps nn m ds cs) P := by
  unfold mDef
  rw [if_pos hl]
  exact Ok_fin h
/-- loops: an invariant over the items that are left -/
theorem Ok_for {f : Env → D → List D → R Fl} {P : Fl → List D → Prop} (I : List D → Env → List D → Prop) (h0 : ∀ r cs, I [] r cs → P (.nx r) cs)
    (hs : ∀ d ds r cs, I (d :: ds) r cs → Ok (f r d cs) (fun fl cs' => match fl with
      | .nx r' => I ds r' cs'
      | .ct r' => I ds r' cs'
      | .brk r' => P (.nx r') cs'
      | .ret v => P (.ret v) cs')) : ∀ ds r cs, I ds r cs → Ok (forR f ds r cs) P
  | [], r, cs, h => ⟨h0 r cs h⟩
  | d :: ds, r, cs, h => by
    unfold forR
    rw [Ok_bind]
    refine Ok_mono (hs d ds r cs h) fun fl cs' q => ?_
    cases fl with
    | nx r' => exact Ok_for I h0 hs ds r' cs' q
    | ct r' => exact Ok_for I h0 hs ds r' cs' q
    | brk r' => exact ⟨q⟩
    | ret v => exact ⟨q⟩
theorem Ok_while {c : MT} {b : MS} {P : Fl → List D → Prop} (I : Nat → Env → List D → Prop)
    (hs : ∀ n r cs, I n r cs → Ok (c r cs) (fun t cs' => if t = true then Ok (b r cs') (fun fl cs2 => match fl with
      | .nx r' => ∃ m, m < n ∧ I m r' cs2
      | .ct r' => ∃ m, m < n ∧ I m r' cs2
      | .brk r' => P (.nx r') cs2
      | .ret v => P (.ret v) cs2) else P (.nx r) cs')) : ∀ k n r cs, I n r cs → n < k → Ok (whileR c b k r cs) P
  | 0, n, r, cs, _, h => by omega
  | k + 1, n, r, cs, hI, h => by
    unfold whileR
    rw [Ok_bind]
    refine Ok_mono (hs n r cs hI) fun t cs' q => ?_
    cases t with
    | false => exact ⟨q⟩
    | true =>
      show Ok ((b r cs').bind _) P
      rw [Ok_bind]
      refine Ok_mono q fun fl cs2 q2 => ?_
      cases fl with
      | nx r' =>
        obtain ⟨m, hm, q3⟩ := q2
        exact Ok_while I hs k m r' cs2 q3 (by omega)
      | ct r' =>
        obtain ⟨m, hm, q3⟩ := q2
        exact Ok_while I hs k m r' cs2 q3 (by omega)
      | brk r' => exact ⟨q2⟩
      | ret v => exact ⟨q2⟩
theorem Ok_finF {n : Nat} {f : Env → D → List D → R Fl} {ds : List D} {e : Env} {cs : List D} {P : D → List D → Prop} : Ok (finR n (forR f ds e cs)) P = Ok (forR f ds e cs) (fun a cs => Ok (finR n (.ok a cs)) P) := Ok_finO
theorem Ok_finW {n k : Nat} {c : MT} {b : MS} {e : Env} {cs : List D} {P : D → List D → Prop} : Ok (finR n (whileR c b k e cs)) P = Ok (whileR c b k e cs) (fun a cs => Ok (finR n (.ok a cs)) P) := Ok_finO
/-- a comprehension: an invariant over the items that are left and the items made -/
theorem Ok_map {f : D → List D → R (Option D)} {P : List D → List D → Prop} (I : List D → List D → List D → Prop) (h0 : ∀ ys cs, I [] ys cs → P ys cs)
    (hs : ∀ d ds ys cs, I (d :: ds) ys cs → Ok (f d cs) (fun o cs' => I ds (ys ++ o.toList) cs')) : ∀ ds cs, I ds [] cs → Ok (mapR f ds cs) P := by
  have gen : ∀ ds ys cs, I ds ys cs → Ok (mapR f ds cs) (fun zs cs' => P (ys ++ zs) cs') := by
    intro ds
    induction ds with
    | nil =>
      intro ys cs h
      unfold mapR
      rw [Ok_ok, List.append_nil]
      exact h0 ys cs h
    | cons d ds ih =>
      intro ys cs h
      unfold mapR
      rw [Ok_bind]
      refine Ok_mono (hs d ds ys cs h) fun o cs' q => ?_
      rw [Ok_bind]
      refine Ok_mono (ih _ cs' q) fun zs cs2 q2 => ?_
      rw [Ok_ok]
      cases o with
      | none =>
        rw [Option.toList_none, List.append_nil] at q2
        exact q2
      | some y =>
        rw [Option.toList_some, List.append_assoc] at q2
        exact q2
  intro ds cs h
  exact Ok_mono (gen ds [] cs h) fun zs cs' q => by rw [List.nil_append] at q; exact q
/-- where every turn makes one item and leaves the cells alone -/
theorem map_pure {f : D → List D → R (Option D)} {cs : List D} {g : D → D} : ∀ {ds : List D}, (∀ d ∈ ds, f d cs = .ok (some (g d)) cs) → mapR f ds cs = .ok (ds.map g) cs
  | [], _ => rfl
  | d :: ds, h => by
    unfold mapR
    rw [h d (List.mem_cons_self ..), R.bind_ok, map_pure (ds := ds) fun e he => h e (List.mem_cons_of_mem _ he), R.bind_ok]
    rfl
theorem map_filter {f : D → List D → R (Option D)} {cs : List D} {p : D → Bool} : ∀ {ds : List D}, (∀ d ∈ ds, f d cs = .ok (if p d then some d else none) cs) → mapR f ds cs = .ok (ds.filter p) cs
  | [], _ => rfl
  | d :: ds, h => by
    unfold mapR
    rw [h d (List.mem_cons_self ..), R.bind_ok, map_filter (ds := ds) fun e he => h e (List.mem_cons_of_mem _ he), R.bind_ok]
    cases hp : p d with
    | true => rw [List.filter_cons_of_pos hp]; rfl
    | false => rw [List.filter_cons_of_neg (by rw [hp]; exact Bool.false_ne_true)]; rfl
/-! ### texts -/
def At (x y : Str) (i : Nat) : Bool := decide (i + y.length ≤ x.length) && Builtin.Str.subAt x y i
theorem occ_stay (s sub : Str) (hi : Nat) : ∀ (l : List Nat) (st : Array Nat × Nat), 1 ≤ st.fst.size → (forIn l st (StrLaws.occBody s sub hi 1)).run.fst = st.fst
  | [], st, h => rfl
  | a :: l, st, h => by
    rw [List.forIn_cons]
    unfold StrLaws.occBody
    rw [if_neg (fun z => by have := z.1.1.1; omega)]
    exact occ_stay s sub hi l (st.fst, st.snd) h
theorem occ_find (s sub : Str) : ∀ (l : List Nat) (free : Nat), (∀ i ∈ l, free ≤ i) →
    (forIn l ((#[] : Array Nat), free) (StrLaws.occBody s sub s.length 1)).run.fst.toList = (l.find? (At s sub)).toList
  | [], free, _ => rfl
  | a :: l, free, hf => by
    rw [List.forIn_cons]
    unfold StrLaws.occBody
    have ha : free ≤ a := hf a (List.mem_cons_self ..)
    by_cases hc : a + sub.length ≤ s.length ∧ Builtin.Str.subAt s sub a = true
    · rw [if_pos ⟨⟨⟨by simp, ha⟩, hc.1⟩, hc.2⟩]
      have hA : At s sub a = true := by
        unfold At
        rw [decide_eq_true hc.1, hc.2]
        rfl
      rw [List.find?_cons_of_pos hA]
      have := occ_stay s sub s.length l ((#[] : Array Nat).push a, a + sub.length) (by simp)
      show (forIn l ((#[] : Array Nat).push a, a + sub.length) (StrLaws.occBody s sub s.length 1)).run.fst.toList = _
      rw [this]
      rfl
    · rw [if_neg fun h => hc ⟨h.1.2, h.2⟩]
      have hA : ¬ At s sub a = true := by
        unfold At
        rw [Bool.and_eq_true, decide_eq_true_eq]
        exact hc
      rw [List.find?_cons_of_neg hA]
      exact occ_find s sub l free fun i hi => hf i (List.mem_cons_of_mem _ hi)
theorem occ1 (x y : Str) (lo : Nat) : Builtin.Str.occurrences x y lo x.length 1 = ((List.range' lo (x.length + 1 - lo)).find? (At x y)).toList := by
  rw [StrLaws.occ_eq]
  exact occ_find x y _ lo fun i hi => (List.mem_range'_1.mp hi).1
theorem find3_eq (x y : Str) (lo : Nat) : Txt.find3 x y (lo : Int) = match (List.range' lo (x.length + 1 - lo)).find? (At x y) with
    | some k => (k : Int)
    | none => -1 := by
  unfold Txt.find3
  have e : PySem.fromIndex x.length (lo : Int) = lo := by
    unfold PySem.fromIndex
    rw [if_neg (by omega)]
    omega
  rw [e, occ1]
  cases (List.range' lo (x.length + 1 - lo)).find? (At x y) <;> rfl
end Wf
set_option Elab.async false
set_option linter.all false
set_option maxRecDepth 100000
/-! Mirrors step by step: what comes next stands under a name, and is looked at when its value is there. -/
namespace Wf
open PySem PySem.Spec PyProof.Rows L2
variable {m n ma mb mc me mo mi : M} {ml mk : ML} {mt nt : MT} {ms ns b : MS} {r : Env} {cs : List D} {f g : Op2} {d x y : D} {ds es : List D}
theorem sz : sizeLine = 16777216 := (rfl)
def kSeq (n : MS) : Fl → List D → R Fl := fun fl cs => match fl with
  | .nx r' => n r' cs
  | o => .ok o cs
theorem e_seq : mSeq ms ns r cs = (ms r cs).bind (kSeq ns) := (rfl)
theorem k_seqN {e : Env} : kSeq ns (.nx e) cs = ns e cs := (rfl)
theorem k_seqR : kSeq ns (.ret d) cs = .ok (.ret d) cs := (rfl)
theorem k_seqB {e : Env} : kSeq ns (.brk e) cs = .ok (.brk e) cs := (rfl)
theorem k_seqC {e : Env} : kSeq ns (.ct e) cs = .ok (.ct e) cs := (rfl)
theorem n_ok {α : Type} {e : Env} {a : α} : noteE e (.ok a cs) = .ok a cs := (rfl)
theorem c_ok {α : Type} {a : α} : calmR (.ok a cs) = .ok a cs := (rfl)
theorem e_skip : mSkip r cs = .ok (.nx r) cs := (rfl)
theorem e_brk : mBrk r cs = .ok (.brk r) cs := (rfl)
theorem e_ct : mCt r cs = .ok (.ct r) cs := (rfl)
def kIf (m n : MS) (r : Env) : Bool → List D → R Fl := fun b cs => if b then m r cs else n r cs
theorem e_if : mIf mt ms ns r cs = (mt r cs).bind (kIf ms ns r) := (rfl)
theorem k_ifT : kIf ms ns r true cs = ms r cs := (rfl)
theorem k_ifF : kIf ms ns r false cs = ns r cs := (rfl)
def kIfE (m n : M) (r : Env) : Bool → List D → R D := fun b cs => if b then m r cs else n r cs
theorem e_ifE : mIfE mt m n r cs = (mt r cs).bind (kIfE m n r) := (rfl)
theorem k_ifET : kIfE m n r true cs = m r cs := (rfl)
theorem k_ifEF : kIfE m n r false cs = n r cs := (rfl)
def kOp (f : Op2) (mb : M) (r : Env) : D → List D → R D := fun x cs => (mb r cs).bind fun y cs => f x y cs
theorem e_op : mOp f ma mb r cs = (ma r cs).bind (kOp f mb r) := (rfl)
theorem k_op : kOp f mb r x cs = (mb r cs).bind (f x) := (rfl)
theorem e_un {f : Op1} : mUn f ma r cs = (ma r cs).bind f := (rfl)
def kB : D → List D → R Bool := fun d cs => match d with
  | .bl b => .ok b cs
  | _ => .bad
theorem e_B : mB m r cs = (m r cs).bind kB := (rfl)
theorem k_B {b : Bool} : kB (.bl b) cs = .ok b cs := (rfl)
def kCh3 (g : Op2) (mc : M) (r : Env) (y : D) : D → List D → R D := fun z cs => match z with
  | .bl true => (mc r cs).bind fun u cs => g y u cs
  | .bl false => .ok (.bl false) cs
  | _ => .bad
def kCh2 (f g : Op2) (mc : M) (r : Env) (x : D) : D → List D → R D := fun y cs => (f x y cs).bind (kCh3 g mc r y)
def kCh1 (f g : Op2) (mb mc : M) (r : Env) : D → List D → R D := fun x cs => (mb r cs).bind (kCh2 f g mc r x)
theorem e_chain : mChain f g ma mb mc r cs = (ma r cs).bind (kCh1 f g mb mc r) := (rfl)
theorem k_ch1 : kCh1 f g mb mc r x cs = (mb r cs).bind (kCh2 f g mc r x) := (rfl)
theorem k_ch2 : kCh2 f g mc r x y cs = (f x y cs).bind (kCh3 g mc r y) := (rfl)
theorem k_ch3T : kCh3 g mc r y (.bl true) cs = (mc r cs).bind (g y) := (rfl)
theorem k_ch3F : kCh3 g mc r y (.bl false) cs = .ok (.bl false) cs := (rfl)
def kNot : Bool → List D → R Bool := fun b cs => .ok (!b) cs
theorem e_not : mNot mt r cs = (mt r cs).bind kNot := (rfl)
theorem k_not {b : Bool} : kNot b cs = .ok (!b) cs := (rfl)
def kAnd (n : MT) (r : Env) : Bool → List D → R Bool := fun b cs => if b then n r cs else .ok false cs
theorem e_and : mAnd mt nt r cs = (mt r cs).bind (kAnd nt r) := (rfl)
theorem k_andT : kAnd nt r true cs = nt r cs := (rfl)
theorem k_andF : kAnd nt r false cs = .ok false cs := (rfl)
def kOr (n : MT) (r : Env) : Bool → List D → R Bool := fun b cs => if b then .ok true cs else n r cs
theorem e_or : mOr mt nt r cs = (mt r cs).bind (kOr nt r) := (rfl)
theorem k_orT : kOr nt r true cs = .ok true cs := (rfl)
theorem k_orF : kOr nt r false cs = nt r cs := (rfl)
def kAndV (n : M) (r : Env) : D → List D → R D := fun d cs => match d with
  | .bl true => n r cs
  | .bl false => .ok (.bl false) cs
  | _ => .bad
theorem e_andV : mAndV m n r cs = (m r cs).bind (kAndV n r) := (rfl)
theorem k_andVT : kAndV n r (.bl true) cs = n r cs := (rfl)
theorem k_andVF : kAndV n r (.bl false) cs = .ok (.bl false) cs := (rfl)
def kOrV (n : M) (r : Env) : D → List D → R D := fun d cs => match d with
  | .bl true => .ok (.bl true) cs
  | .bl false => n r cs
  | _ => .bad
theorem e_orV : mOrV m n r cs = (m r cs).bind (kOrV n r) := (rfl)
theorem k_orVT : kOrV n r (.bl true) cs = .ok (.bl true) cs := (rfl)
theorem k_orVF : kOrV n r (.bl false) cs = n r cs := (rfl)
def kNotV : D → List D → R D := fun d cs => match d with
  | .bl b => .ok (.bl (!b)) cs
  | _ => .bad
theorem e_notV : mNotV m r cs = (m r cs).bind kNotV := (rfl)
theorem k_notV {b : Bool} : kNotV (.bl b) cs = .ok (.bl (!b)) cs := (rfl)
theorem e_nil : mNil r cs = .ok [] cs := (rfl)
def kCons2 (d : D) : List D → List D → R (List D) := fun ds cs => .ok (d :: ds) cs
def kCons (ml : ML) (r : Env) : D → List D → R (List D) := fun d cs => (ml r cs).bind (kCons2 d)
theorem e_cons : mCons m ml r cs = (m r cs).bind (kCons ml r) := (rfl)
theorem k_cons : kCons ml r d cs = (ml r cs).bind (kCons2 d) := (rfl)
theorem k_cons2 : kCons2 d ds cs = .ok (d :: ds) cs := (rfl)
def kTup : List D → List D → R D := fun ds cs => if ds.length ≤ sizeLine then .ok (.tup ds) cs else .bad
def kLst : List D → List D → R D := fun ds cs => if ds.length ≤ sizeLine then .ok (.lst ds) cs else .bad
def kLstL : List D → List D → R D := fun ds cs => if ds.length ≤ sizeLine ∧ nrs ds = true then .ok (.ref cs.length) (cs ++ [.lst ds]) else .bad
theorem e_tup : mTup ml r cs = (ml r cs).bind kTup := (rfl)
theorem e_lst : mLst ml r cs = (ml r cs).bind kLst := (rfl)
theorem e_lstL : mLstL ml r cs = (ml r cs).bind kLstL := (rfl)
theorem k_tup (h : ds.length ≤ 16777216) : kTup ds cs = .ok (.tup ds) cs := if_pos h
theorem k_lst (h : ds.length ≤ 16777216) : kLst ds cs = .ok (.lst ds) cs := if_pos h
theorem k_lstL (h : ds.length ≤ 16777216 ∧ nrs ds = true) : kLstL ds cs = .ok (.ref cs.length) (cs ++ [.lst ds]) := if_pos h
def kSl3 (f : OpSl) (x : D) (l : Option Int) : Option Int → List D → R D := fun u cs => f x l u cs
def kSl2 (f : OpSl) (hi : MO) (r : Env) (x : D) : Option Int → List D → R D := fun l cs => (hi r cs).bind (kSl3 f x l)
def kSl1 (f : OpSl) (lo hi : MO) (r : Env) : D → List D → R D := fun x cs => (lo r cs).bind (kSl2 f hi r x)
theorem e_sl {f : OpSl} {lo hi : MO} : mSl f m lo hi r cs = (m r cs).bind (kSl1 f lo hi r) := (rfl)
theorem k_sl1 {f : OpSl} {lo hi : MO} : kSl1 f lo hi r x cs = (lo r cs).bind (kSl2 f hi r x) := (rfl)
theorem k_sl2 {f : OpSl} {hi : MO} {l : Option Int} : kSl2 f hi r x l cs = (hi r cs).bind (kSl3 f x l) := (rfl)
theorem k_sl3 {f : OpSl} {l u : Option Int} : kSl3 f x l u cs = f x l u cs := (rfl)
theorem e_noP : mNoP r cs = .ok none cs := (rfl)
def kP : D → List D → R (Option Int) := fun d cs => match d with
  | .int i => .ok (some i) cs
  | _ => .bad
theorem e_P : mP m r cs = (m r cs).bind kP := (rfl)
theorem k_P {i : Int} : kP (.int i) cs = .ok (some i) cs := (rfl)
theorem e_CB {f : OpC} : mCB f ml r cs = (ml r cs).bind f := (rfl)
def kBM (T : String) (f : OpM) (ml : ML) (r : Env) : D → List D → R D := fun x cs => if tyD T x cs = true then (ml r cs).bind (f x) else .bad
theorem e_BM {T : String} {f : OpM} : mBM T f mo ml r cs = (mo r cs).bind (kBM T f ml r) := (rfl)
theorem k_BM {T : String} {f : OpM} (h : tyD T x cs = true) : kBM T f ml r x cs = (ml r cs).bind (f x) := if_pos h
def kCall (f : Fn) (r : Env) : List D → List D → R D := fun ds cs => noteE r (f ds cs)
theorem e_call {f : Fn} : mCall f ml r cs = (ml r cs).bind (kCall f r) := (rfl)
theorem k_call {f : Fn} : kCall f r ds cs = noteE r (f ds cs) := (rfl)
def kCallK (f : Fn) (k : Nat) (ix : List Nat) (r : Env) : List D → List D → R D := fun es cs => if es.length = k then noteE r (f (pick ix es) cs) else .bad
theorem e_callK {f : Fn} {k : Nat} {ix : List Nat} : mCallK0 f k ix mk r cs = (mk r cs).bind (kCallK f k ix r) := (rfl)
theorem k_callK {f : Fn} {k : Nat} {ix : List Nat} (h : es.length = k) : kCallK f k ix r es cs = noteE r (f (pick ix es) cs) := if_pos h
def kAsg (g : D → Env → Option Env) (r : Env) : D → List D → R Fl := fun d cs => match g d r with
  | some r' => .ok (.nx r') cs
  | none => .bad
theorem e_asg {g : D → Env → Option Env} : mAsg g m r cs = (m r cs).bind (kAsg g r) := (rfl)
theorem k_asgN {i : Nat} : kAsg (gtN i) r d cs = .ok (.nx (r.set i (some d))) cs := (rfl)
theorem k_asg {g : D → Env → Option Env} {r' : Env} (h : g d r = some r') : kAsg g r d cs = .ok (.nx r') cs := by
  unfold kAsg
  rw [h]
def kSub3 (f : Op3) (r : Env) (d o : D) : D → List D → R Fl := fun i cs => match f o i d cs with
  | some cs' => .ok (.nx r) cs'
  | none => .bad
def kSub2 (f : Op3) (mi : M) (r : Env) (d : D) : D → List D → R Fl := fun o cs => (mi r cs).bind (kSub3 f r d o)
def kSub1 (f : Op3) (mo mi : M) (r : Env) : D → List D → R Fl := fun d cs => (mo r cs).bind (kSub2 f mi r d)
theorem e_sub {f : Op3} : mSub f me mo mi r cs = (me r cs).bind (kSub1 f mo mi r) := (rfl)
theorem k_sub1 {f : Op3} : kSub1 f mo mi r d cs = (mo r cs).bind (kSub2 f mi r d) := (rfl)
theorem k_sub2 {f : Op3} : kSub2 f mi r d x cs = (mi r cs).bind (kSub3 f r d x) := (rfl)
theorem k_sub3 {f : Op3} {cs' : List D} (h : f x y d cs = some cs') : kSub3 f r d x y cs = .ok (.nx r) cs' := by
  unfold kSub3
  rw [h]
def kExpr (r : Env) : D → List D → R Fl := fun _ cs => .ok (.nx r) cs
theorem e_expr : mExpr m r cs = (m r cs).bind (kExpr r) := (rfl)
theorem k_expr : kExpr r d cs = .ok (.nx r) cs := (rfl)
def kRet : D → List D → R Fl := fun d cs => .ok (.ret d) cs
theorem e_ret : mRet m r cs = (m r cs).bind kRet := (rfl)
theorem k_ret : kRet d cs = .ok (.ret d) cs := (rfl)
def bFor (g : D → Env → Option Env) (b : MS) : Env → D → List D → R Fl := fun r d cs => match g d r with
  | some r' => b r' cs
  | none => .bad
theorem b_for {i : Nat} : bFor (gtN i) b r d cs = b (r.set i (some d)) cs := (rfl)
def kFor (g : D → Env → Option Env) (b : MS) (r : Env) : List D → List D → R Fl := fun ds cs => forR (bFor g b) ds r cs
theorem e_for {g : D → Env → Option Env} {mi : ML} : mFor mi g b r cs = (mi r cs).bind (kFor g b r) := (rfl)
theorem k_for {g : D → Env → Option Env} : kFor g b r ds cs = forR (bFor g b) ds r cs := (rfl)
theorem e_while {k : Nat} : mWhile k mt b r cs = whileR mt b k r cs := (rfl)
def kIt (f : D → Option (List D)) : D → List D → R (List D) := fun d cs => match f d with
  | some l => .ok l cs
  | none => .bad
theorem e_it {f : D → Option (List D)} : mIt f m r cs = (m r cs).bind (kIt f) := (rfl)
theorem k_itL : kIt itA (.lst ds) cs = .ok ds cs := (rfl)
theorem k_itT : kIt itA (.tup ds) cs = .ok ds cs := (rfl)
theorem k_itW {l : List Int} : kIt itA (.wl l) cs = .ok (l.map .int) cs := (rfl)
theorem k_itS {z : Str} : kIt itA (.str z) cs = .ok (chrs z) cs := (rfl)
def kRng1 : List D → List D → R (List D) := fun ds cs => match ds with
  | [.int j] => if -(2 ^ 62) ≤ j ∧ j < 2 ^ 62 then .ok (rng 0 j.toNat) cs else .bad
  | _ => .bad
def kRng2 : List D → List D → R (List D) := fun ds cs => match ds with
  | [.int i, .int j] => if -(2 ^ 62) ≤ i ∧ i < 2 ^ 62 ∧ -(2 ^ 62) ≤ j ∧ j < 2 ^ 62 then .ok (rng i (j - i).toNat) cs else .bad
  | _ => .bad
theorem e_rng1 : mRng1 ml r cs = (ml r cs).bind kRng1 := (rfl)
theorem e_rng2 : mRng2 ml r cs = (ml r cs).bind kRng2 := (rfl)
theorem p62 : (2 : Int) ^ 62 = 4611686018427387904 := by decide +kernel
theorem k_rng1 {j : Int} (h : -1000000000 ≤ j ∧ j < 1000000000) : kRng1 [.int j] cs = .ok (rng 0 j.toNat) cs := if_pos (by rw [p62]; omega)
theorem k_rng2 {i j : Int} (h : (-1000000000 ≤ i ∧ i < 1000000000) ∧ -1000000000 ≤ j ∧ j < 1000000000) : kRng2 [.int i, .int j] cs = .ok (rng i (j - i).toNat) cs := if_pos (by rw [p62]; omega)
/-! comprehensions -/
def kLcE : D → List D → R (Option D) := fun y cs => .ok (some y) cs
def kLcT (me : M) (r : Env) : Bool → List D → R (Option D) := fun b cs => if b then (me r cs).bind kLcE else .ok none cs
theorem k_lcTT : kLcT me r true cs = (me r cs).bind kLcE := (rfl)
theorem k_lcTF : kLcT me r false cs = .ok none cs := (rfl)
theorem k_lcE : kLcE d cs = .ok (some d) cs := (rfl)
theorem e_lcF {i : Nat} {r : Env} : lcF (gtN i) mt me r d cs = (mt (r.set i (some d)) cs).bind (kLcT me (r.set i (some d))) := (rfl)
theorem e_yes : mYes r cs = .ok true cs := (rfl)
def kLc2 (k : List D → List D → R D) : List D → List D → R D := fun ys cs => if ys.length < sizeLine then k ys cs else .bad
def kLc1 (vs : List Nat) (g : D → Env → Option Env) (mt : MT) (me : M) (r : Env) (k : List D → List D → R D) : List D → List D → R D := fun ds cs => (calmR (mapR (lcF g mt me (wipeD r vs)) ds cs)).bind (kLc2 k)
def kDone : List D → List D → R D := fun ys cs => .ok (.lst ys) cs
def kDoneL : List D → List D → R D := fun ys cs => if nrs ys = true then .ok (.ref cs.length) (cs ++ [.lst ys]) else .bad
theorem e_lc {vs : List Nat} {mi : ML} {g : D → Env → Option Env} : mLc vs mi g mt me r cs = (mi r cs).bind (kLc1 vs g mt me r kDone) := (rfl)
theorem e_lcL {vs : List Nat} {mi : ML} {g : D → Env → Option Env} : mLcL vs mi g mt me r cs = (mi r cs).bind (kLc1 vs g mt me r kDoneL) := (rfl)
theorem k_lc1 {vs : List Nat} {g : D → Env → Option Env} {k : List D → List D → R D} : kLc1 vs g mt me r k ds cs = (calmR (mapR (lcF g mt me (wipeD r vs)) ds cs)).bind (kLc2 k) := (rfl)
theorem k_lc2 {k : List D → List D → R D} (h : ds.length < 16777216) : kLc2 k ds cs = k ds cs := if_pos h
theorem k_done : kDone ds cs = .ok (.lst ds) cs := (rfl)
theorem k_doneL (h : nrs ds = true) : kDoneL ds cs = .ok (.ref cs.length) (cs ++ [.lst ds]) := if_pos h
def kFrz (n : Nat) : D → List D → R D := fun d cs' => match d with
  | .ref i => if n ≤ i ∧ i + 1 = cs'.length then match cs'[i]? with
      | some (.lst l) => .ok (.lst l) (cs'.take i)
      | _ => .bad
    else .bad
  | d => .ok d cs'
theorem e_frz : mFrz m r cs = (m r cs).bind (kFrz cs.length) := (rfl)
theorem k_frz {l : List D} : kFrz cs.length (.ref cs.length) (cs ++ [.lst l]) = .ok (.lst l) cs := by
  unfold kFrz
  simp
theorem k_frzL {k : Nat} {l : List D} : kFrz k (.lst l) cs = .ok (.lst l) cs := (rfl)
/-! values -/
theorem e_C : mC d r cs = .ok d cs := (rfl)
theorem e_V {i : Nat} (h : r[i]? = some (some d)) : mV i r cs = .ok d cs := by
  unfold mV
  rw [h]
theorem e_V0 {a : List (Option D)} : mV 0 (some d :: a) cs = .ok d cs := (rfl)
theorem e_V1 {o : Option D} {a : List (Option D)} : mV 1 (o :: some d :: a) cs = .ok d cs := (rfl)
theorem e_V2 {o p : Option D} {a : List (Option D)} : mV 2 (o :: p :: some d :: a) cs = .ok d cs := (rfl)
theorem e_V3 {o p q : Option D} {a : List (Option D)} : mV 3 (o :: p :: q :: some d :: a) cs = .ok d cs := (rfl)
theorem e_V4 {o p q s : Option D} {a : List (Option D)} : mV 4 (o :: p :: q :: s :: some d :: a) cs = .ok d cs := (rfl)
theorem e_V5 {o p q s t : Option D} {a : List (Option D)} : mV 5 (o :: p :: q :: s :: t :: some d :: a) cs = .ok d cs := (rfl)
theorem e_V6 {o p q s t u : Option D} {a : List (Option D)} : mV 6 (o :: p :: q :: s :: t :: u :: some d :: a) cs = .ok d cs := (rfl)
theorem e_V7 {o p q s t u v : Option D} {a : List (Option D)} : mV 7 (o :: p :: q :: s :: t :: u :: v :: some d :: a) cs = .ok d cs := (rfl)
theorem e_V8 {o p q s t u v w : Option D} {a : List (Option D)} : mV 8 (o :: p :: q :: s :: t :: u :: v :: w :: some d :: a) cs = .ok d cs := (rfl)
theorem e_V9 {o p q s t u v w x : Option D} {a : List (Option D)} : mV 9 (o :: p :: q :: s :: t :: u :: v :: w :: x :: some d :: a) cs = .ok d cs := (rfl)
/-! operations on known kinds -/
section
variable {i j : Int} {z y : Str} {l k : List D}
theorem o_addI : addD (.int i) (.int j) cs = .ok (.int (i + j)) cs := (rfl)
theorem o_addS (h : z.length + y.length ≤ 16777216) : addD (.str z) (.str y) cs = .ok (.str (z ++ y)) cs := if_pos h
theorem o_addL (h : l.length + k.length ≤ 16777216) : addD (.lst l) (.lst k) cs = .ok (.lst (l ++ k)) cs := if_pos h
theorem o_sub : subD (.int i) (.int j) cs = .ok (.int (i - j)) cs := (rfl)
theorem o_mulI (h : mulI i j) : mulD (.int i) (.int j) cs = .ok (.int (i * j)) cs := if_pos h
theorem o_mulS (h : 0 ≤ i ∧ i < 2 ^ 24 ∧ z.length * i.toNat ≤ 16777216) : mulD (.str z) (.int i) cs = .ok (.str (strMul z i)) cs := if_pos h
theorem o_mulL (h : -(2 ^ 63) ≤ i ∧ i < 2 ^ 63 ∧ l.length * i.toNat ≤ 16777216) : mulD (.lst l) (.int i) cs = .ok (.lst (List.replicate i.toNat l).flatten) cs := if_pos h
theorem o_mod (h : j ≠ 0) : modD (.int i) (.int j) cs = .ok (.int (i.fmod j)) cs := if_pos h
theorem o_fdiv (h : j ≠ 0 ∧ j.natAbs < 1073741824) : fdivD (.int i) (.int j) cs = .ok (.int (i.fdiv j)) cs := if_pos h
theorem o_pow (h : 0 ≤ j ∧ j ≤ 1000000 ∧ i.natAbs < 2 ^ 64) : powD (.int i) (.int j) cs = .ok (.int (i ^ j.toNat)) cs := if_pos h
theorem o_neg : negD (.int i) cs = .ok (.int (-i)) cs := (rfl)
theorem o_ltI : ltD (.int i) (.int j) cs = .ok (.bl (decide (i < j))) cs := (rfl)
theorem o_ltS : ltD (.str z) (.str y) cs = .ok (.bl (decide (z.cps.toList < y.cps.toList))) cs := (rfl)
theorem o_leI : leD (.int i) (.int j) cs = .ok (.bl (decide (i ≤ j))) cs := (rfl)
theorem o_leS : leD (.str z) (.str y) cs = .ok (.bl (!decide (y.cps.toList < z.cps.toList))) cs := (rfl)
theorem o_gt : gtD (.int i) (.int j) cs = .ok (.bl (decide (j < i))) cs := (rfl)
theorem o_ge : geD (.int i) (.int j) cs = .ok (.bl (decide (j ≤ i))) cs := (rfl)
theorem o_eqI : eqD (.int i) (.int j) cs = .ok (.bl (decide (i = j))) cs := (rfl)
theorem o_eqS : eqD (.str z) (.str y) cs = .ok (.bl (decide (z = y))) cs := (rfl)
theorem o_eqB {a b : Bool} : eqD (.bl a) (.bl b) cs = .ok (.bl (decide (a = b))) cs := (rfl)
theorem o_neI : neD (.int i) (.int j) cs = .ok (.bl (!decide (i = j))) cs := (rfl)
theorem o_neS : neD (.str z) (.str y) cs = .ok (.bl (!decide (z = y))) cs := (rfl)
theorem o_isN : isND x .non cs = .ok (.bl (isNon x)) cs := (rfl)
theorem o_notN : notND x .non cs = .ok (.bl (!isNon x)) cs := (rfl)
theorem o_ixS {c : Nat} (h : z.length ≤ 16777216) (e : atI z.cps.toList i = some c) : ixD (.str z) (.int i) cs = .ok (.str ⟨#[c]⟩) cs := by
  unfold ixD
  simp only [sz, if_pos h, e]
theorem o_ixL (e : atI l i = some d) : ixD (.lst l) (.int i) cs = .ok d cs := by
  unfold ixD
  simp only [seqOf, lstOf, e]
theorem o_ixT (e : atI l i = some d) : ixD (.tup l) (.int i) cs = .ok d cs := by
  unfold ixD
  simp only [seqOf, e]
theorem o_ixR {n : Nat} (h : cs[n]? = some (.lst l)) (e : atI l i = some d) : ixD (.ref n) (.int i) cs = .ok d cs := by
  unfold ixD
  simp only [seqOf, lstOf, h, e]
theorem o_slS {lo hi : Option Int} (h : z.length ≤ 16777216) : slD (.str z) lo hi cs = .ok (.str (cutS z lo hi)) cs := if_pos h
theorem o_slL {lo hi : Option Int} : slD (.lst l) lo hi cs = .ok (.lst (cutD l lo hi)) cs := (rfl)
theorem o_lenS (h : z.length ≤ 16777216) : lenD [.str z] cs = .ok (.int z.length) cs := if_pos h
theorem o_lenL : lenD [.lst l] cs = .ok (.int l.length) cs := (rfl)
theorem o_lenT : lenD [.tup l] cs = .ok (.int l.length) cs := (rfl)
theorem o_lenR {n : Nat} (h : cs[n]? = some (.lst l)) : lenD [.ref n] cs = .ok (.int l.length) cs := by
  unfold lenD
  simp only [seqOf, lstOf, h]
theorem o_int : intD [.int i] cs = .ok (.int i) cs := (rfl)
theorem o_abs : absD [.int i] cs = .ok (.int (if i < 0 then -i else i)) cs := (rfl)
theorem o_min : minD [.int i, .int j] cs = .ok (.int (if j < i then j else i)) cs := (rfl)
theorem o_max : maxD [.int i, .int j] cs = .ok (.int (if j > i then j else i)) cs := (rfl)
theorem o_list : listD [.lst l] cs = .ok (.lst l) cs := (rfl)
theorem o_find3 : find3D (.str z) [.str y, .int i] cs = .ok (.int (Txt.find3 z y i)) cs := (rfl)
theorem o_join {ss : List Str} (h : (ss.map (·.length)).sum + ss.length * z.length ≤ 16777216) : joinD (.str z) [.lst (ss.map D.str)] cs = .ok (.str (Txt.join z ss)) cs := by
  unfold joinD
  simp only [seqOf, lstOf, strsOf_map, if_pos h]
theorem o_append {n : Nat} (hc : cs[n]? = some (.lst l)) (h : l.length < 16777216 ∧ nr d = true ∧ nrs l = true) : appendD (.ref n) [d] cs = .ok .non (cs.set n (.lst (l ++ [d]))) := by
  unfold appendD
  simp only [hc]
  exact if_pos h
theorem o_set {n j' : Nat} (hc : cs[n]? = some (.lst l)) (hj : ixN l.length i = some j') (hd : nr d = true) : setD (.ref n) (.int i) d cs = some (cs.set n (.lst (l.set j' d))) := by
  unfold setD
  simp only [hc, hj, if_pos hd]
theorem t_str : tyD "str" (.str z) cs = true := (rfl)
theorem t_ref {n : Nat} (h : cs[n]? = some (.lst l)) : tyD "list" (.ref n) cs = true := by
  unfold tyD
  simp only [h]
  rfl
theorem atI_nat {α : Type} {l : List α} {n : Nat} {a : α} (h : l[n]? = some a) : atI l (n : Int) = some a := by
  unfold atI ixN
  have hl := (List.getElem?_eq_some_iff.mp h).1
  rw [if_pos (by omega), if_pos (by omega)]
  show l[(n : Int).toNat]? = some a
  rw [Int.toNat_natCast]
  exact h
theorem ixN_nat {m n : Nat} (h : n < m) : ixN m (n : Int) = some n := by
  unfold ixN
  rw [if_pos (by omega), if_pos (by omega), Int.toNat_natCast]
end
/-! a def's end, by kinds -/
section
variable {n : Nat} {i : Int} {b : Bool} {z : Str} {l : List D} {e : Env}
theorem f_int : finR n (.ok (.ret (.int i)) cs) = .ok (.int i) (cs.take n) := (rfl)
theorem f_bl : finR n (.ok (.ret (.bl b)) cs) = .ok (.bl b) (cs.take n) := (rfl)
theorem f_str : finR n (.ok (.ret (.str z)) cs) = .ok (.str z) (cs.take n) := (rfl)
theorem f_non : finR n (.ok (.ret .non) cs) = .ok .non (cs.take n) := (rfl)
theorem f_nx : finR n (.ok (.nx e) cs) = .ok .non (cs.take n) := (rfl)
theorem f_nr (h : nr d = true) : finR n (.ok (.ret d) cs) = .ok d (cs.take n) := out_nr h
theorem f_new {c : D} : finR cs.length (.ok (.ret (.ref cs.length)) (cs ++ [c])) = .ok (.ref cs.length) (cs ++ [c]) := by
  show outR cs.length (.ref cs.length) (cs ++ [c]) = _
  rw [out_ref (c := c) (Nat.le_refl _) (by simp)]
  simp
theorem take_self : cs.take cs.length = cs := List.take_length
theorem take_app {es : List D} : (cs ++ es).take cs.length = cs := by simp
end
/-! ### cuts of texts -/
theorem cutS_list (z : Str) (lo hi : Option Int) : (cutS z lo hi).cps.toList = (z.cps.toList.drop (HT.sIx z.length 0 lo)).take (HT.sIx z.length z.length hi - HT.sIx z.length 0 lo) := by
  unfold cutS
  rw [List.toList_toArray]
theorem str_ext {x y : Str} (h : x.cps.toList = y.cps.toList) : x = y := by
  cases x with
  | mk a =>
    cases y with
    | mk b =>
      have : a = b := Array.toList_inj.mp h
      rw [this]
theorem str_len (z : Str) : z.length = z.cps.toList.length := (rfl)
theorem cut_at {w p : Str} {i : Nat} (h : i + p.length ≤ w.length) : decide (cutS w (some (i : Int)) (some ((i : Int) + (p.length : Int))) = p) = At w p i := by
  have e : cutS w (some (i : Int)) (some ((i : Int) + (p.length : Int))) = p ↔ Builtin.Str.subAt w p i = true := by
    rw [StrLaws.subAt_eq, beq_iff_eq]
    have e2 : (i : Int) + (p.length : Int) = ((i + p.length : Nat) : Int) := by omega
    have e1 : (cutS w (some (i : Int)) (some ((i : Int) + (p.length : Int)))).cps.toList = (w.cps.toList.drop i).take p.length := by
      rw [cutS_list, e2, HT.sIx_nat, HT.sIx_nat, Nat.min_eq_left (by omega), Nat.min_eq_left (by omega)]
      congr 1
      omega
    constructor
    · intro z
      rw [← e1, z]
    · intro z
      exact str_ext (e1.trans z)
  unfold At
  rw [decide_eq_true h, Bool.true_and]
  by_cases z : Builtin.Str.subAt w p i = true
  · rw [z, decide_eq_true (e.mpr z)]
  · rw [decide_eq_false fun q => z (e.mp q)]
    exact (Bool.eq_false_iff.mpr z).symm
theorem At_le {w p : Str} {i : Nat} (h : At w p i = true) : i + p.length ≤ w.length := by
  unfold At at h
  rw [Bool.and_eq_true, decide_eq_true_eq] at h
  exact h.1
theorem At_no {w p : Str} {i : Nat} (h : ¬ i + p.length ≤ w.length) : At w p i = false := by
  unfold At
  rw [decide_eq_false h]
  rfl
theorem filter_step {p : Nat → Bool} {lo k : Nat} (hl : lo ≤ k) (hn : ∀ j, lo ≤ j → j < k → p j = false) (hk : p k = true) : (List.range (k + 1)).filter p = (List.range lo).filter p ++ [k] := by
  rw [List.range_succ, List.filter_append, List.filter_cons_of_pos hk, List.filter_nil]
  congr 1
  obtain ⟨d, rfl⟩ : ∃ d, k = lo + d := ⟨k - lo, by omega⟩
  clear hk hl
  induction d with
  | zero => rfl
  | succ d ih =>
    rw [← Nat.add_assoc, List.range_succ, List.filter_append, ih fun j h1 h2 => hn j h1 (by omega)]
    rw [List.filter_cons_of_neg (by rw [hn (lo + d) (by omega) (by omega)]; exact Bool.false_ne_true)]
    simp
theorem filter_rest {p : Nat → Bool} {lo n : Nat} (hl : lo ≤ n) (hn : ∀ j, lo ≤ j → j < n → p j = false) : (List.range n).filter p = (List.range lo).filter p := by
  obtain ⟨d, rfl⟩ : ∃ d, n = lo + d := ⟨n - lo, by omega⟩
  clear hl
  induction d with
  | zero => rfl
  | succ d ih =>
    rw [← Nat.add_assoc, List.range_succ, List.filter_append, ih fun j h1 h2 => hn j h1 (by omega)]
    rw [List.filter_cons_of_neg (by rw [hn (lo + d) (by omega) (by omega)]; exact Bool.false_ne_true)]
    simp
/-! the last cell -/
theorem t_last {l : List D} : tyD "list" (.ref cs.length) (cs ++ [.lst l]) = true := t_ref (l := l) (by simp)
theorem o_appendA {l : List D} (h : l.length < 16777216 ∧ nr d = true ∧ nrs l = true) : appendD (.ref cs.length) [d] (cs ++ [.lst l]) = .ok .non (cs ++ [.lst (l ++ [d])]) := by
  rw [o_append (l := l) (by simp) h]
  simp
theorem o_lenA {l : List D} : lenD [.ref cs.length] (cs ++ [.lst l]) = .ok (.int l.length) (cs ++ [.lst l]) := o_lenR (l := l) (by simp)
theorem nrs_map {α : Type} {l : List α} {f : α → D} (h : ∀ a, nr (f a) = true) : nrs (l.map f) = true := by
  rw [nrs_all, List.all_eq_true]
  intro d hd
  obtain ⟨a, _, rfl⟩ := List.mem_map.mp hd
  exact h a
/-! isinstance -/
section
variable {i : Int} {bb : Bool} {z : Str} {l : List D} {k : Nat}
theorem i_non_bool : isiD [D.non, .ty "bool"] cs = .ok (.bl false) cs := by
  have e : isT "NoneType" "bool" = some false := by decide +kernel
  unfold isiD
  simp only [tyN, e]
theorem i_non_int : isiD [D.non, .ty "int"] cs = .ok (.bl false) cs := by
  have e : isT "NoneType" "int" = some false := by decide +kernel
  unfold isiD
  simp only [tyN, e]
theorem i_non_str : isiD [D.non, .ty "str"] cs = .ok (.bl false) cs := by
  have e : isT "NoneType" "str" = some false := by decide +kernel
  unfold isiD
  simp only [tyN, e]
theorem i_non_tuple : isiD [D.non, .ty "tuple"] cs = .ok (.bl false) cs := by
  have e : isT "NoneType" "tuple" = some false := by decide +kernel
  unfold isiD
  simp only [tyN, e]
theorem i_non_list : isiD [D.non, .ty "list"] cs = .ok (.bl false) cs := by
  have e : isT "NoneType" "list" = some false := by decide +kernel
  unfold isiD
  simp only [tyN, e]
theorem i_bl_bool : isiD [(.bl bb), .ty "bool"] cs = .ok (.bl true) cs := by
  have e : isT "bool" "bool" = some true := by decide +kernel
  unfold isiD
  simp only [tyN, e]
theorem i_bl_int : isiD [(.bl bb), .ty "int"] cs = .ok (.bl true) cs := by
  have e : isT "bool" "int" = some true := by decide +kernel
  unfold isiD
  simp only [tyN, e]
theorem i_bl_str : isiD [(.bl bb), .ty "str"] cs = .ok (.bl false) cs := by
  have e : isT "bool" "str" = some false := by decide +kernel
  unfold isiD
  simp only [tyN, e]
theorem i_bl_tuple : isiD [(.bl bb), .ty "tuple"] cs = .ok (.bl false) cs := by
  have e : isT "bool" "tuple" = some false := by decide +kernel
  unfold isiD
  simp only [tyN, e]
theorem i_bl_list : isiD [(.bl bb), .ty "list"] cs = .ok (.bl false) cs := by
  have e : isT "bool" "list" = some false := by decide +kernel
  unfold isiD
  simp only [tyN, e]
theorem i_int_bool : isiD [(.int i), .ty "bool"] cs = .ok (.bl false) cs := by
  have e : isT "int" "bool" = some false := by decide +kernel
  unfold isiD
  simp only [tyN, e]
theorem i_int_int : isiD [(.int i), .ty "int"] cs = .ok (.bl true) cs := by
  have e : isT "int" "int" = some true := by decide +kernel
  unfold isiD
  simp only [tyN, e]
theorem i_int_str : isiD [(.int i), .ty "str"] cs = .ok (.bl false) cs := by
  have e : isT "int" "str" = some false := by decide +kernel
  unfold isiD
  simp only [tyN, e]
theorem i_int_tuple : isiD [(.int i), .ty "tuple"] cs = .ok (.bl false) cs := by
  have e : isT "int" "tuple" = some false := by decide +kernel
  unfold isiD
  simp only [tyN, e]
theorem i_int_list : isiD [(.int i), .ty "list"] cs = .ok (.bl false) cs := by
  have e : isT "int" "list" = some false := by decide +kernel
  unfold isiD
  simp only [tyN, e]
theorem i_str_bool : isiD [(.str z), .ty "bool"] cs = .ok (.bl false) cs := by
  have e : isT "str" "bool" = some false := by decide +kernel
  unfold isiD
  simp only [tyN, e]
theorem i_str_int : isiD [(.str z), .ty "int"] cs = .ok (.bl false) cs := by
  have e : isT "str" "int" = some false := by decide +kernel
  unfold isiD
  simp only [tyN, e]
theorem i_str_str : isiD [(.str z), .ty "str"] cs = .ok (.bl true) cs := by
  have e : isT "str" "str" = some true := by decide +kernel
  unfold isiD
  simp only [tyN, e]
theorem i_str_tuple : isiD [(.str z), .ty "tuple"] cs = .ok (.bl false) cs := by
  have e : isT "str" "tuple" = some false := by decide +kernel
  unfold isiD
  simp only [tyN, e]
theorem i_str_list : isiD [(.str z), .ty "list"] cs = .ok (.bl false) cs := by
  have e : isT "str" "list" = some false := by decide +kernel
  unfold isiD
  simp only [tyN, e]
theorem i_lst_bool : isiD [(.lst l), .ty "bool"] cs = .ok (.bl false) cs := by
  have e : isT "list" "bool" = some false := by decide +kernel
  unfold isiD
  simp only [tyN, e]
theorem i_lst_int : isiD [(.lst l), .ty "int"] cs = .ok (.bl false) cs := by
  have e : isT "list" "int" = some false := by decide +kernel
  unfold isiD
  simp only [tyN, e]
theorem i_lst_str : isiD [(.lst l), .ty "str"] cs = .ok (.bl false) cs := by
  have e : isT "list" "str" = some false := by decide +kernel
  unfold isiD
  simp only [tyN, e]
theorem i_lst_tuple : isiD [(.lst l), .ty "tuple"] cs = .ok (.bl false) cs := by
  have e : isT "list" "tuple" = some false := by decide +kernel
  unfold isiD
  simp only [tyN, e]
theorem i_lst_list : isiD [(.lst l), .ty "list"] cs = .ok (.bl true) cs := by
  have e : isT "list" "list" = some true := by decide +kernel
  unfold isiD
  simp only [tyN, e]
theorem i_tup_bool : isiD [(.tup l), .ty "bool"] cs = .ok (.bl false) cs := by
  have e : isT "tuple" "bool" = some false := by decide +kernel
  unfold isiD
  simp only [tyN, e]
theorem i_tup_int : isiD [(.tup l), .ty "int"] cs = .ok (.bl false) cs := by
  have e : isT "tuple" "int" = some false := by decide +kernel
  unfold isiD
  simp only [tyN, e]
theorem i_tup_str : isiD [(.tup l), .ty "str"] cs = .ok (.bl false) cs := by
  have e : isT "tuple" "str" = some false := by decide +kernel
  unfold isiD
  simp only [tyN, e]
theorem i_tup_tuple : isiD [(.tup l), .ty "tuple"] cs = .ok (.bl true) cs := by
  have e : isT "tuple" "tuple" = some true := by decide +kernel
  unfold isiD
  simp only [tyN, e]
theorem i_tup_list : isiD [(.tup l), .ty "list"] cs = .ok (.bl false) cs := by
  have e : isT "tuple" "list" = some false := by decide +kernel
  unfold isiD
  simp only [tyN, e]
theorem i_ref_bool (h : cs[k]? = some (.lst l)) : isiD [.ref k, .ty "bool"] cs = .ok (.bl false) cs := by
  have e : isT "list" "bool" = some false := by decide +kernel
  unfold isiD
  simp only [tyN, h, e]
theorem i_ref_int (h : cs[k]? = some (.lst l)) : isiD [.ref k, .ty "int"] cs = .ok (.bl false) cs := by
  have e : isT "list" "int" = some false := by decide +kernel
  unfold isiD
  simp only [tyN, h, e]
theorem i_ref_str (h : cs[k]? = some (.lst l)) : isiD [.ref k, .ty "str"] cs = .ok (.bl false) cs := by
  have e : isT "list" "str" = some false := by decide +kernel
  unfold isiD
  simp only [tyN, h, e]
theorem i_ref_tuple (h : cs[k]? = some (.lst l)) : isiD [.ref k, .ty "tuple"] cs = .ok (.bl false) cs := by
  have e : isT "list" "tuple" = some false := by decide +kernel
  unfold isiD
  simp only [tyN, h, e]
theorem i_ref_list (h : cs[k]? = some (.lst l)) : isiD [.ref k, .ty "list"] cs = .ok (.bl true) cs := by
  have e : isT "list" "list" = some true := by decide +kernel
  unfold isiD
  simp only [tyN, h, e]
end
/-- plain data, at most n deep -/
def deep : Nat → D → Prop
  | 0, _ => False
  | n + 1, d => match d with
    | .non => True
    | .bl _ => True
    | .int _ => True
    | .str _ => True
    | .lst l => l.length < 16777216 ∧ ∀ x ∈ l, deep n x
    | .tup l => l.length < 16777216 ∧ ∀ x ∈ l, deep n x
    | _ => False
/-! the store of draws: the first cell, six items -/
section
variable {a0 a1 a2 a3 a4 a5 : D} {rest : List D} {v : Int}
theorem st_get0 : ixD (.ref 0) (.int 0) (.lst [a0, a1, a2, a3, a4, a5] :: rest) = .ok a0 (.lst [a0, a1, a2, a3, a4, a5] :: rest) := (rfl)
theorem st_get1 : ixD (.ref 0) (.int 1) (.lst [a0, a1, a2, a3, a4, a5] :: rest) = .ok a1 (.lst [a0, a1, a2, a3, a4, a5] :: rest) := (rfl)
theorem st_set1 : setD (.ref 0) (.int 1) (.int v) (.lst [a0, a1, a2, a3, a4, a5] :: rest) = some (.lst [a0, .int v, a2, a3, a4, a5] :: rest) := (rfl)
theorem st_sub1 {r : Env} : kSub3 setD r (.int v) (.ref 0) (.int 1) (.lst [a0, a1, a2, a3, a4, a5] :: rest) = .ok (.nx r) (.lst [a0, .int v, a2, a3, a4, a5] :: rest) := (rfl)
theorem st_get2 : ixD (.ref 0) (.int 2) (.lst [a0, a1, a2, a3, a4, a5] :: rest) = .ok a2 (.lst [a0, a1, a2, a3, a4, a5] :: rest) := (rfl)
theorem st_set2 : setD (.ref 0) (.int 2) (.int v) (.lst [a0, a1, a2, a3, a4, a5] :: rest) = some (.lst [a0, a1, .int v, a3, a4, a5] :: rest) := (rfl)
theorem st_sub2 {r : Env} : kSub3 setD r (.int v) (.ref 0) (.int 2) (.lst [a0, a1, a2, a3, a4, a5] :: rest) = .ok (.nx r) (.lst [a0, a1, .int v, a3, a4, a5] :: rest) := (rfl)
theorem st_get3 : ixD (.ref 0) (.int 3) (.lst [a0, a1, a2, a3, a4, a5] :: rest) = .ok a3 (.lst [a0, a1, a2, a3, a4, a5] :: rest) := (rfl)
theorem st_set3 : setD (.ref 0) (.int 3) (.int v) (.lst [a0, a1, a2, a3, a4, a5] :: rest) = some (.lst [a0, a1, a2, .int v, a4, a5] :: rest) := (rfl)
theorem st_sub3 {r : Env} : kSub3 setD r (.int v) (.ref 0) (.int 3) (.lst [a0, a1, a2, a3, a4, a5] :: rest) = .ok (.nx r) (.lst [a0, a1, a2, .int v, a4, a5] :: rest) := (rfl)
theorem st_get4 : ixD (.ref 0) (.int 4) (.lst [a0, a1, a2, a3, a4, a5] :: rest) = .ok a4 (.lst [a0, a1, a2, a3, a4, a5] :: rest) := (rfl)
theorem st_set4 : setD (.ref 0) (.int 4) (.int v) (.lst [a0, a1, a2, a3, a4, a5] :: rest) = some (.lst [a0, a1, a2, a3, .int v, a5] :: rest) := (rfl)
theorem st_sub4 {r : Env} : kSub3 setD r (.int v) (.ref 0) (.int 4) (.lst [a0, a1, a2, a3, a4, a5] :: rest) = .ok (.nx r) (.lst [a0, a1, a2, a3, .int v, a5] :: rest) := (rfl)
theorem st_get5 : ixD (.ref 0) (.int 5) (.lst [a0, a1, a2, a3, a4, a5] :: rest) = .ok a5 (.lst [a0, a1, a2, a3, a4, a5] :: rest) := (rfl)
theorem st_set5 : setD (.ref 0) (.int 5) (.int v) (.lst [a0, a1, a2, a3, a4, a5] :: rest) = some (.lst [a0, a1, a2, a3, a4, .int v] :: rest) := (rfl)
theorem st_sub5 {r : Env} : kSub3 setD r (.int v) (.ref 0) (.int 5) (.lst [a0, a1, a2, a3, a4, a5] :: rest) = .ok (.nx r) (.lst [a0, a1, a2, a3, a4, .int v] :: rest) := (rfl)
end
/-- the store is in order -/
def StOk (c : D) : Prop := ∃ (ns : List Int) (p : Nat) (a b sd t : Int), c = .lst [.lst (ns.map .int), .int p, .int a, .int b, .int sd, .int t] ∧ p ≤ ns.length ∧ ns.length ≤ 1000 ∧ 0 ≤ a
theorem mulI_r {i j : Int} (h : -(18446744073709551616) < j ∧ j < 18446744073709551616) : mulI i j := .inr (by
  have e : (2 : Int) ^ 64 = 18446744073709551616 := by decide +kernel
  rw [e]
  exact h)
theorem fmod_in {i j : Int} (h : 0 < j) : 0 ≤ i.fmod j ∧ i.fmod j < j := ⟨Int.fmod_nonneg_of_pos i h, Int.fmod_lt_of_pos i h⟩
theorem fdiv_nn {i j : Int} (h : 0 ≤ i) (hj : 0 ≤ j) : 0 ≤ i.fdiv j := Int.fdiv_nonneg h hj
/-! the last cell behind the store -/
section
variable {c0 : D} {rest l : List D}
theorem t_last1 : tyD "list" (.ref (rest.length + 1)) (c0 :: (rest ++ [.lst l])) = true := t_ref (l := l) (by simp)
theorem o_appendA1 (h : l.length < 16777216 ∧ nr d = true ∧ nrs l = true) : appendD (.ref (rest.length + 1)) [d] (c0 :: (rest ++ [.lst l])) = .ok .non (c0 :: (rest ++ [.lst (l ++ [d])])) := by
  rw [o_append (l := l) (by simp) h]
  simp
theorem o_lenA1 : lenD [.ref (rest.length + 1)] (c0 :: (rest ++ [.lst l])) = .ok (.int l.length) (c0 :: (rest ++ [.lst l])) := o_lenR (l := l) (by simp)
theorem f_new1 : finR (rest.length + 1) (.ok (.ret (.ref (rest.length + 1))) (c0 :: (rest ++ [.lst l]))) = .ok (.ref (rest.length + 1)) (c0 :: (rest ++ [.lst l])) := by
  show outR (rest.length + 1) (.ref (rest.length + 1)) (c0 :: (rest ++ [.lst l])) = _
  rw [out_ref (c := .lst l) (Nat.le_refl _) (by simp)]
  simp
theorem k_frz1 : kFrz (rest.length + 1) (.ref (rest.length + 1)) (c0 :: (rest ++ [.lst l])) = .ok (.lst l) (c0 :: rest) := by
  unfold kFrz
  simp
theorem t_last2 : tyD "list" (.ref 1) [c0, .lst l] = true := t_ref (l := l) (by simp)
theorem o_appendA2 (h : l.length < 16777216 ∧ nr d = true ∧ nrs l = true) : appendD (.ref 1) [d] [c0, .lst l] = .ok .non [c0, .lst (l ++ [d])] := by
  rw [o_append (l := l) (by simp) h]
  simp
theorem o_lenA2 : lenD [.ref 1] [c0, .lst l] = .ok (.int l.length) [c0, .lst l] := o_lenR (l := l) (by simp)
theorem f_new2 : finR 1 (.ok (.ret (.ref 1)) [c0, .lst l]) = .ok (.ref 1) [c0, .lst l] := by
  show outR 1 (.ref 1) [c0, .lst l] = _
  rw [out_ref (c := .lst l) (Nat.le_refl _) (by simp)]
  simp
theorem k_frz2 : kFrz 1 (.ref 1) [c0, .lst l] = .ok (.lst l) [c0] := by
  unfold kFrz
  simp
theorem k_frzS {k : Nat} {z : Str} : kFrz k (.str z) cs = .ok (.str z) cs := (rfl)
theorem k_frzI {k : Nat} {z : Int} : kFrz k (.int z) cs = .ok (.int z) cs := (rfl)
theorem k_frzT {k : Nat} : kFrz k (.tup l) cs = .ok (.tup l) cs := (rfl)
end
/-! lengths of texts, cuts of lists -/
theorem len_app (x y : Str) : (x ++ y).length = x.length + y.length := by
  show (x.cps ++ y.cps).size = _
  rw [Array.size_append]
  rfl
theorem cutS_le (z : Str) (lo hi : Option Int) : (cutS z lo hi).length ≤ z.length := by
  rw [str_len, cutS_list, List.length_take, List.length_drop]
  have := str_len z
  omega
theorem cutS_to (z : Str) (n : Nat) : (cutS z none (some (n : Int))).length ≤ n := by
  rw [str_len, cutS_list, List.length_take, HT.sIx_nat, HT.sIx_none]
  omega
theorem cutS_from (z : Str) (n : Nat) : (cutS z (some (n : Int)) none).length ≤ z.length - n := by
  rw [str_len, cutS_list, List.length_take, HT.sIx_nat, HT.sIx_none, List.length_drop]
  have := str_len z
  omega
theorem cutD_to (l : List D) (n : Nat) : cutD l none (some (n : Int)) = l.take n := by
  unfold cutD
  rw [HT.sIx_nat, HT.sIx_none, List.drop_zero, Nat.sub_zero]
  by_cases h : n ≤ l.length
  · rw [Nat.min_eq_left h]
  · rw [Nat.min_eq_right (by omega), List.take_of_length_le (Nat.le_refl _), List.take_of_length_le (by omega)]
theorem cutD_from (l : List D) (n : Nat) : cutD l (some (n : Int)) none = l.drop n := by
  unfold cutD
  rw [HT.sIx_nat, HT.sIx_none]
  by_cases h : n ≤ l.length
  · rw [Nat.min_eq_left h, List.take_of_length_le (by rw [List.length_drop]; exact Nat.le_refl _)]
  · rw [Nat.min_eq_right (by omega), List.drop_of_length_le (Nat.le_refl _), List.drop_of_length_le (by omega)]
    simp
theorem sjoin_len : ∀ ss : List Str, (Str.join Str.empty ss).length = (ss.map (·.length)).sum
  | [] => rfl
  | [x] => by
    show x.length = x.length + 0
    omega
  | x :: y :: ss => by
    have ih := sjoin_len (y :: ss)
    show (x ++ Str.empty ++ Str.join Str.empty (y :: ss)).length = _
    rw [len_app, len_app, ih]
    rfl
theorem join_len (ss : List Str) : (Txt.join Str.empty ss).length = (ss.map (·.length)).sum := by
  rw [TL.join_eq]
  exact sjoin_len ss
theorem mul_len (z : Str) (n : Nat) : (strMul z (n : Int)).length = z.length * n := by
  unfold strMul Txt.mul
  by_cases h : (n : Int) < 1
  · rw [if_pos h]
    have : n = 0 := by omega
    subst this
    rfl
  · rw [if_neg h]
    by_cases h2 : ((n : Int) == 1 || z.length == 0) = true
    · rw [if_pos h2]
      rw [Bool.or_eq_true, beq_iff_eq, beq_iff_eq] at h2
      rcases h2 with h2 | h2
      · have : n = 1 := by omega
        subst this
        omega
      · rw [h2, Nat.zero_mul]
    · rw [if_neg h2, Int.toNat_natCast]
      show ((List.replicate n z.cps).foldl (· ++ ·) #[]).size = z.cps.size * n
      have aux : ∀ (k : Nat) (a : Array Nat), ((List.replicate k z.cps).foldl (· ++ ·) a).size = a.size + z.cps.size * k := by
        intro k
        induction k with
        | zero => intro a; rfl
        | succ k ih =>
          intro a
          rw [List.replicate_succ, List.foldl_cons, ih, Array.size_append, Nat.mul_succ]
          omega
      rw [aux n #[]]
      simp
/-- turns that draw -/
theorem map_draws {f : D → List D → R (Option D)} {rest : List D} (G : D → Prop) {ds : List D} (h : ∀ d ∈ ds, ∀ c, StOk c → ∃ y c', f d (c :: rest) = .ok (some y) (c' :: rest) ∧ StOk c' ∧ G y) :
    ∀ c, StOk c → ∃ ys c', mapR f ds (c :: rest) = .ok ys (c' :: rest) ∧ StOk c' ∧ ys.length = ds.length ∧ ∀ y ∈ ys, G y := by
  induction ds with
  | nil => exact fun c hc => ⟨[], c, (rfl), hc, rfl, fun y hy => by cases hy⟩
  | cons d ds ih =>
    intro c hc
    obtain ⟨y, c1, e1, h1, g1⟩ := h d (List.mem_cons_self ..) c hc
    obtain ⟨ys, c2, e2, h2, l2, g2⟩ := ih (fun e he => h e (List.mem_cons_of_mem _ he)) c1 h1
    refine ⟨y :: ys, c2, ?_, h2, by rw [List.length_cons, List.length_cons, l2], fun z hz => ?_⟩
    · unfold mapR
      rw [e1, R.bind_ok, e2, R.bind_ok]
      rfl
    · rcases List.mem_cons.mp hz with hz | hz
      · rw [hz]
        exact g1
      · exact g2 z hz
theorem strs_of {l : List D} (P : Str → Prop) : (∀ d ∈ l, ∃ z, d = .str z ∧ P z) → ∃ ss : List Str, l = ss.map D.str ∧ ∀ z ∈ ss, P z := by
  induction l with
  | nil => exact fun _ => ⟨[], rfl, fun z hz => by cases hz⟩
  | cons d l ih =>
    intro h
    obtain ⟨z, rfl, hz⟩ := h d (List.mem_cons_self ..)
    obtain ⟨ss, rfl, hs⟩ := ih fun e he => h e (List.mem_cons_of_mem _ he)
    refine ⟨z :: ss, rfl, fun y hy => ?_⟩
    rcases List.mem_cons.mp hy with hy | hy
    · rw [hy]
      exact hz
    · exact hs y hy
theorem sum_ones : ∀ {ss : List Str}, (∀ z ∈ ss, z.length = 1) → (ss.map (·.length)).sum = ss.length
  | [], _ => rfl
  | z :: ss, h => by
    rw [List.map_cons, List.sum_cons, sum_ones fun y hy => h y (List.mem_cons_of_mem _ hy), h z (List.mem_cons_self ..), List.length_cons]
    omega
/-! small things -/
theorem n_cons : nrs (d :: ds) = (nr d && nrs ds) := (rfl)
theorem n_nil : nrs [] = true := (rfl)
theorem n_str {z : Str} : nr (.str z) = true := (rfl)
theorem n_int {i : Int} : nr (.int i) = true := (rfl)
theorem n_bl {b : Bool} : nr (.bl b) = true := (rfl)
theorem n_lst {l : List D} : nr (.lst l) = nrs l := (rfl)
theorem n_tup {l : List D} : nr (.tup l) = nrs l := (rfl)
theorem of_empty : Str.ofString "" = Str.empty := by decide +kernel
theorem pick01 {α : Type} {a b : α} : pick [0, 1] [a, b] = [a, b] := (rfl)
theorem pick10 {α : Type} {a b : α} : pick [1, 0] [a, b] = [b, a] := (rfl)
theorem len_empty : Str.length Str.empty = 0 := (rfl)
theorem s_setA1 {r : Env} {c0 : D} {rest l : List D} {v : Int} (h : 0 < l.length) : kSub3 setD r (.int v) (.ref (rest.length + 1)) (.int 0) (c0 :: (rest ++ [.lst l])) = .ok (.nx r) (c0 :: (rest ++ [.lst (l.set 0 (.int v))])) := by
  rw [k_sub3 (o_set (l := l) (j' := 0) (by simp) (show ixN l.length 0 = some 0 from ixN_nat (n := 0) h) (rfl))]
  simp
theorem len_one {c : Nat} : Str.length (Str.mk #[c]) = 1 := (rfl)
theorem o_listR {n : Nat} {l : List D} (h : cs[n]? = some (.lst l)) : listD [.ref n] cs = .ok (.lst l) cs := by
  unfold listD
  simp only [seqOf, lstOf, h]
theorem take_lft {l k : List D} : (l ++ k).take l.length = l := by simp
theorem get_lst1 {c0 : D} {rest l : List D} {d : D} : (c0 :: (rest ++ d :: l))[rest.length + 1]? = some d := by simp
theorem get_lst2 {c0 : D} {rest l : List D} {d : D} : (c0 :: (rest ++ [d] ++ l))[rest.length + 1]? = some d := by simp
theorem f_new0 {l : List D} : finR 0 (.ok (.ret (.ref 0)) [.lst l]) = .ok (.ref 0) [.lst l] := by
  show outR 0 (.ref 0) [.lst l] = _
  rw [out_ref (c := .lst l) (Nat.le_refl _) (by simp)]
  simp
end Wf
set_option Elab.async false
set_option linter.all false
set_option maxRecDepth 100000
set_option maxHeartbeats 4000000
/-! The text, def by def: its mirror and the reading of its body. -/
namespace K01
open PySem PySem.Spec PyProof.Rows L2 Wf
def topS (i : Nat) : Stmt := PySem.Challenge.pw_wayfill_k01_places_of_a_part.main.body.getD i (.Pass ⟨0, 0, 0, 0⟩)
structure Bt (mg : Str → Option Value) : Prop where
  z_abs : mg "abs" = none
  z_bool : mg "bool" = none
  z_int : mg "int" = none
  z_isinstance : mg "isinstance" = none
  z_len : mg "len" = none
  z_list : mg "list" = none
  z_min : mg "min" = none
  z_range : mg "range" = none
  z_str : mg "str" = none
  z_tuple : mg "tuple" = none
structure Df (K : PySem.W.Frag) (mg : Str → Option Value) (x : Str) (st : Stmt) (f : Addr) (fd : FuncData) (ps : List Str) : Prop where
  F : Fun K x x st f fd
  g : mg x = some (.ref f)
  k : PySem.W.keepIn K (.ref f) = true
  b : Binds K fd ps []
abbrev s_stands_at : Stmt := topS 1
abbrev N_stands_at : List Str := ["part", "word", "place"]
abbrev P_stands_at : List Str := ["part", "word", "place"]
theorem sc_stands_at : FnScope N_stands_at P_stands_at (defScope s_stands_at) := ⟨rfl, rfl, rfl, by decide +kernel, rfl, by decide +kernel, by decide +kernel⟩
abbrev s_places_of : Stmt := topS 2
abbrev N_places_of : List Str := ["part", "word", "place"]
abbrev P_places_of : List Str := ["part", "word"]
theorem sc_places_of : FnScope N_places_of P_places_of (defScope s_places_of) := ⟨rfl, rfl, rfl, by decide +kernel, rfl, by decide +kernel, by decide +kernel⟩
abbrev s__law_draws : Stmt := topS 4
abbrev N__law_draws : List Str := ["script", "cell"]
abbrev P__law_draws : List Str := ["script"]
theorem sc__law_draws : FnScope N__law_draws P__law_draws (defScope s__law_draws) := ⟨rfl, rfl, rfl, by decide +kernel, rfl, by decide +kernel, by decide +kernel⟩
abbrev s__law_mixed : Stmt := topS 5
abbrev N__law_mixed : List Str := ["seed", "turn", "first", "second"]
abbrev P__law_mixed : List Str := ["seed", "turn"]
theorem sc__law_mixed : FnScope N__law_mixed P__law_mixed (defScope s__law_mixed) := ⟨rfl, rfl, rfl, by decide +kernel, rfl, by decide +kernel, by decide +kernel⟩
abbrev s__law_take : Stmt := topS 6
abbrev N__law_take : List Str := ["store", "size", "cell", "drawn"]
abbrev P__law_take : List Str := ["store", "size"]
theorem sc__law_take : FnScope N__law_take P__law_take (defScope s__law_take) := ⟨rfl, rfl, rfl, by decide +kernel, rfl, by decide +kernel, by decide +kernel⟩
abbrev s__law_span : Stmt := topS 7
abbrev N__law_span : List Str := ["store", "low", "high"]
abbrev P__law_span : List Str := ["store", "low", "high"]
theorem sc__law_span : FnScope N__law_span P__law_span (defScope s__law_span) := ⟨rfl, rfl, rfl, by decide +kernel, rfl, by decide +kernel, by decide +kernel⟩
abbrev s__law_rare : Stmt := topS 8
abbrev N__law_rare : List Str := ["store", "size"]
abbrev P__law_rare : List Str := ["store", "size"]
theorem sc__law_rare : FnScope N__law_rare P__law_rare (defScope s__law_rare) := ⟨rfl, rfl, rfl, by decide +kernel, rfl, by decide +kernel, by decide +kernel⟩
abbrev s__law_pick : Stmt := topS 9
abbrev N__law_pick : List Str := ["store", "row"]
abbrev P__law_pick : List Str := ["store", "row"]
theorem sc__law_pick : FnScope N__law_pick P__law_pick (defScope s__law_pick) := ⟨rfl, rfl, rfl, by decide +kernel, rfl, by decide +kernel, by decide +kernel⟩
abbrev s__law_in_range : Stmt := topS 10
abbrev N__law_in_range : List Str := ["store", "low", "high"]
abbrev P__law_in_range : List Str := ["store", "low", "high"]
theorem sc__law_in_range : FnScope N__law_in_range P__law_in_range (defScope s__law_in_range) := ⟨rfl, rfl, rfl, by decide +kernel, rfl, by decide +kernel, by decide +kernel⟩
abbrev s__law_shuffled : Stmt := topS 11
abbrev N__law_shuffled : List Str := ["store", "row", "left", "out", "k", "spot"]
abbrev P__law_shuffled : List Str := ["store", "row"]
theorem sc__law_shuffled : FnScope N__law_shuffled P__law_shuffled (defScope s__law_shuffled) := ⟨rfl, rfl, rfl, by decide +kernel, rfl, by decide +kernel, by decide +kernel⟩
abbrev s__law_same : Stmt := topS 12
abbrev N__law_same : List Str := ["told", "due", "k"]
abbrev P__law_same : List Str := ["told", "due"]
theorem sc__law_same : FnScope N__law_same P__law_same (defScope s__law_same) := ⟨rfl, rfl, rfl, by decide +kernel, rfl, by decide +kernel, by decide +kernel⟩
abbrev s__law_found : Stmt := topS 13
abbrev N__law_found : List Str := ["look", "text", "out", "spot", "k"]
abbrev P__law_found : List Str := ["look", "text"]
theorem sc__law_found : FnScope N__law_found P__law_found (defScope s__law_found) := ⟨rfl, rfl, rfl, by decide +kernel, rfl, by decide +kernel, by decide +kernel⟩
abbrev s__law_menu : Stmt := topS 14
abbrev N__law_menu : List Str := ["store", "chars", "start"]
abbrev P__law_menu : List Str := ["store"]
theorem sc__law_menu : FnScope N__law_menu P__law_menu (defScope s__law_menu) := ⟨rfl, rfl, rfl, by decide +kernel, rfl, by decide +kernel, by decide +kernel⟩
abbrev s__law_text : Stmt := topS 15
abbrev N__law_text : List Str := ["store", "chars", "size", "piece", "k", "text", "spot"]
abbrev P__law_text : List Str := ["store", "chars"]
theorem sc__law_text : FnScope N__law_text P__law_text (defScope s__law_text) := ⟨rfl, rfl, rfl, by decide +kernel, rfl, by decide +kernel, by decide +kernel⟩
abbrev s__law_slice : Stmt := topS 16
abbrev N__law_slice : List Str := ["store", "text", "spot"]
abbrev P__law_slice : List Str := ["store", "text"]
theorem sc__law_slice : FnScope N__law_slice P__law_slice (defScope s__law_slice) := ⟨rfl, rfl, rfl, by decide +kernel, rfl, by decide +kernel, by decide +kernel⟩
abbrev s__law_parts : Stmt := topS 17
abbrev N__law_parts : List Str := ["store", "chars", "text", "other", "out", "bent", "k"]
abbrev P__law_parts : List Str := ["store", "chars", "text", "other"]
theorem sc__law_parts : FnScope N__law_parts P__law_parts (defScope s__law_parts) := ⟨rfl, rfl, rfl, by decide +kernel, rfl, by decide +kernel, by decide +kernel⟩
abbrev s_law : Stmt := topS 18
abbrev N_law : List Str := ["script", "store", "chars", "first", "second", "look", "due", "other_due", "told"]
abbrev P_law : List Str := ["script"]
theorem sc_law : FnScope N_law P_law (defScope s_law) := ⟨rfl, rfl, rfl, by decide +kernel, rfl, by decide +kernel, by decide +kernel⟩
theorem KB_places_of_0_1 {K : PySem.W.Frag} {f : Addr} {fd : FuncData} (F : Fun K "places_of" "places_of" s_places_of f fd) : KBs fd P_places_of 0 ["part", "word"] [0, 1] := by
  obtain ⟨oc, od, kV, doc, pm, an, cdv, ct, osl, rfl, lk, hcd⟩ := F.ex
  intro us ws hu hw
  match us, ws, hu, hw with
  | [], [w0, w1], _, _ => rfl
theorem KB_places_of_1_0 {K : PySem.W.Frag} {f : Addr} {fd : FuncData} (F : Fun K "places_of" "places_of" s_places_of f fd) : KBs fd P_places_of 0 ["word", "part"] [1, 0] := by
  obtain ⟨oc, od, kV, doc, pm, an, cdv, ct, osl, rfl, lk, hcd⟩ := F.ex
  intro us ws hu hw
  match us, ws, hu, hw with
  | [], [w0, w1], _, _ => rfl
def m_stands_at : MS := (mSeq (mIf (mNot (mB (mChain leD leD (mC (.int 0)) (mV 2) (mOp subD (mCB lenD (mCons (mV 1) mNil)) (mCB lenD (mCons (mV 0) mNil)))))) (mRet (mC (.bl false))) mSkip)
  (mRet (mOp eqD (mSl slD (mV 1) (mP (mV 2)) (mP (mOp addD (mV 2) (mCB lenD (mCons (mV 0) mNil))))) (mV 0))))
def f_stands_at : Fn := mDef 3 3 m_stands_at
def m_places_of : MS := (mRet (mLcL [2] (mRng1 (mCons (mOp addD (mCB lenD (mCons (mV 1) mNil)) (mC (.int 1))) mNil)) (gtN 2) (mB (mCall f_stands_at (mCons (mV 0) (mCons (mV 1) (mCons (mV 2) mNil))))) (mV 2)))
def f_places_of : Fn := mDef 2 3 m_places_of
def m__law_draws : MS := (mRet (mLstL (mCons (mLc [1] (mIt itA (mV 0)) (gtN 1) mYes (mCB intD (mCons (mV 1) mNil))) (mCons (mC (.int 0)) (mCons (mC (.int 0)) (mCons (mC (.int 0)) (mCons (mC (.int 1)) (mCons (mC (.int 0)) mNil))))))))
def f__law_draws : Fn := mDef 1 2 m__law_draws
def m__law_mixed : MS := (mSeq (mAsg (gtN 2) (mOp modD (mCB intD (mCons (mOp addD (mOp addD (mOp mulD (mV 0) (mC (.int 48271))) (mOp mulD (mV 1) (mC (.int 69621)))) (mC (.int 11))) mNil)) (mC (.int 2147483647))))
  (mSeq (mAsg (gtN 3) (mOp modD (mCB intD (mCons (mOp addD (mOp addD (mOp mulD (mV 2) (mV 2)) (mOp mulD (mV 1) (mC (.int 40014)))) (mC (.int 7))) mNil)) (mC (.int 2147483399))))
  (mRet (mOp modD (mCB intD (mCons (mOp addD (mOp mulD (mV 3) (mV 3)) (mV 2)) mNil)) (mC (.int 2147483629))))))
def f__law_mixed : Fn := mDef 2 4 m__law_mixed
def m__law_take : MS := (mSeq (mIf (mB (mOp ltD (mV 1) (mC (.int 2)))) (mRet (mC (.int 0))) mSkip)
  (mSeq (mIf (mAnd (mB (mOp eqD (mOp ixD (mV 0) (mC (.int 2))) (mC (.int 0)))) (mAnd (mB (mOp eqD (mOp ixD (mV 0) (mC (.int 3))) (mC (.int 0)))) (mB (mOp ltD (mOp ixD (mV 0) (mC (.int 1))) (mCB lenD (mCons (mOp ixD (mV 0) (mC (.int 0))) mNil)))))) (mSeq (mAsg (gtN 2) (mOp ixD (mOp ixD (mV 0) (mC (.int 0))) (mOp ixD (mV 0) (mC (.int 1)))))
  (mSeq (mSub setD (mOp addD (mOp ixD (mV 0) (mC (.int 1))) (mC (.int 1))) (mV 0) (mC (.int 1)))
  (mSeq (mSub setD (mOp modD (mCB intD (mCons (mOp addD (mOp mulD (mOp ixD (mV 0) (mC (.int 4))) (mC (.int 16807))) (mV 2)) mNil)) (mC (.int 2147483647))) (mV 0) (mC (.int 4)))
  (mIf (mOr (mB (mOp geD (mV 2) (mOp powD (mC (.int 10)) (mC (.int 18))))) (mB (mOp geD (mUn negD (mV 2)) (mOp powD (mC (.int 10)) (mC (.int 18)))))) (mSub setD (mCB absD (mCons (mV 2) mNil)) (mV 0) (mC (.int 2))) (mSub setD (mC (.int 3)) (mV 0) (mC (.int 3))))))) mSkip)
  (mSeq (mIf (mB (mOp gtD (mOp ixD (mV 0) (mC (.int 2))) (mC (.int 0)))) (mSeq (mAsg (gtN 3) (mOp modD (mCB intD (mCons (mOp ixD (mV 0) (mC (.int 2))) mNil)) (mV 1)))
  (mSeq (mSub setD (mOp fdivD (mOp ixD (mV 0) (mC (.int 2))) (mV 1)) (mV 0) (mC (.int 2)))
  (mRet (mV 3)))) mSkip)
  (mSeq (mIf (mB (mOp gtD (mOp ixD (mV 0) (mC (.int 3))) (mC (.int 0)))) (mSub setD (mOp subD (mOp ixD (mV 0) (mC (.int 3))) (mC (.int 1))) (mV 0) (mC (.int 3))) mSkip)
  (mSeq (mSub setD (mOp addD (mOp ixD (mV 0) (mC (.int 5))) (mC (.int 1))) (mV 0) (mC (.int 5)))
  (mRet (mOp modD (mCB intD (mCons (mCall f__law_mixed (mCons (mOp ixD (mV 0) (mC (.int 4))) (mCons (mOp ixD (mV 0) (mC (.int 5))) mNil))) mNil)) (mV 1))))))))
def f__law_take : Fn := mDef 2 4 m__law_take
def m__law_span : MS := (mRet (mOp addD (mV 1) (mCall f__law_take (mCons (mV 0) (mCons (mOp addD (mOp subD (mV 2) (mV 1)) (mC (.int 1))) mNil)))))
def f__law_span : Fn := mDef 3 3 m__law_span
def m__law_rare : MS := (mRet (mOp eqD (mCall f__law_take (mCons (mV 0) (mCons (mV 1) mNil))) (mOp subD (mV 1) (mC (.int 1)))))
def f__law_rare : Fn := mDef 2 2 m__law_rare
def m__law_pick : MS := (mRet (mOp ixD (mV 1) (mCall f__law_take (mCons (mV 0) (mCons (mCB lenD (mCons (mV 1) mNil)) mNil)))))
def f__law_pick : Fn := mDef 2 2 m__law_pick
def m__law_in_range : MS := (mSeq (mIf (mB (mOp eqD (mCall f__law_take (mCons (mV 0) (mCons (mC (.int 3)) mNil))) (mC (.int 2)))) (mRet (mCall f__law_pick (mCons (mV 0) (mCons (mLst (mCons (mV 1) (mCons (mV 2) mNil))) mNil)))) mSkip)
  (mRet (mCall f__law_span (mCons (mV 0) (mCons (mV 1) (mCons (mV 2) mNil))))))
def f__law_in_range : Fn := mDef 3 3 m__law_in_range
def m__law_shuffled : MS := (mSeq (mAsg (gtN 2) (mCB listD (mCons (mV 1) mNil)))
  (mSeq (mAsg (gtN 3) (mLstL mNil))
  (mSeq (mFor (mRng1 (mCons (mCB lenD (mCons (mV 1) mNil)) mNil)) (gtN 4) (mSeq (mAsg (gtN 5) (mCall f__law_take (mCons (mV 0) (mCons (mCB lenD (mCons (mV 2) mNil)) mNil))))
  (mSeq (mExpr (mBM "list" appendD (mV 3) (mCons (mOp ixD (mV 2) (mV 5)) mNil)))
  (mAsg (gtN 2) (mOp addD (mSl slD (mV 2) mNoP (mP (mV 5))) (mSl slD (mV 2) (mP (mOp addD (mV 5) (mC (.int 1)))) mNoP))))))
  (mRet (mV 3)))))
def f__law_shuffled : Fn := mDef 2 6 m__law_shuffled
def m__law_same (fn_rec : Fn) : MS := (mSeq (mIf (mB (mOp isND (mV 1) (mC .non))) (mRet (mOp isND (mV 0) (mC .non))) mSkip)
  (mSeq (mIf (mB (mCB isiD (mCons (mV 1) (mCons (mC (.ty "bool")) mNil)))) (mRet (mAndV (mCB isiD (mCons (mV 0) (mCons (mC (.ty "bool")) mNil))) (mOp eqD (mV 0) (mV 1)))) mSkip)
  (mSeq (mIf (mB (mCB isiD (mCons (mV 1) (mCons (mC (.ty "int")) mNil)))) (mRet (mAndV (mCB isiD (mCons (mV 0) (mCons (mC (.ty "int")) mNil))) (mAndV (mNotV (mCB isiD (mCons (mV 0) (mCons (mC (.ty "bool")) mNil)))) (mOp eqD (mV 0) (mV 1))))) mSkip)
  (mSeq (mIf (mB (mCB isiD (mCons (mV 1) (mCons (mC (.ty "str")) mNil)))) (mRet (mAndV (mCB isiD (mCons (mV 0) (mCons (mC (.ty "str")) mNil))) (mOp eqD (mV 0) (mV 1)))) mSkip)
  (mSeq (mIf (mAnd (mB (mCB isiD (mCons (mV 1) (mCons (mC (.ty "tuple")) mNil)))) (mNot (mB (mCB isiD (mCons (mV 0) (mCons (mC (.ty "tuple")) mNil)))))) (mRet (mC (.bl false))) mSkip)
  (mSeq (mIf (mAnd (mB (mCB isiD (mCons (mV 1) (mCons (mC (.ty "list")) mNil)))) (mNot (mB (mCB isiD (mCons (mV 0) (mCons (mC (.ty "list")) mNil)))))) (mRet (mC (.bl false))) mSkip)
  (mSeq (mIf (mB (mOp neD (mCB lenD (mCons (mV 0) mNil)) (mCB lenD (mCons (mV 1) mNil)))) (mRet (mC (.bl false))) mSkip)
  (mSeq (mFor (mRng1 (mCons (mCB lenD (mCons (mV 1) mNil)) mNil)) (gtN 2) (mIf (mNot (mB (mCall (fn_rec) (mCons (mOp ixD (mV 0) (mV 2)) (mCons (mOp ixD (mV 1) (mV 2)) mNil))))) (mRet (mC (.bl false))) mSkip))
  (mRet (mC (.bl true)))))))))))
def f__law_same : Nat → Fn
  | 0 => fun _ _ => .bad
  | n + 1 => mDef 2 3 (m__law_same (f__law_same n))
def m__law_found : MS := (mSeq (mAsg (gtN 2) (mLstL mNil))
  (mSeq (mAsg (gtN 3) (mUn negD (mC (.int 1))))
  (mSeq (mFor (mRng1 (mCons (mOp addD (mCB lenD (mCons (mV 1) mNil)) (mC (.int 2))) mNil)) (gtN 4) (mSeq (mAsg (gtN 3) (mBM "str" find3D (mV 1) (mCons (mV 0) (mCons (mOp addD (mV 3) (mC (.int 1))) mNil))))
  (mSeq (mIf (mB (mOp ltD (mV 3) (mC (.int 0)))) mBrk mSkip)
  (mExpr (mBM "list" appendD (mV 2) (mCons (mV 3) mNil))))))
  (mRet (mV 2)))))
def f__law_found : Fn := mDef 2 5 m__law_found
def m__law_menu : MS := (mSeq (mAsg (gtN 1) (mC (.str " !\"#$&'()*+,-./0123456789:;<=>?@ABCDEFGHIJKLMNOPQRSTUVWXYZ[\\]^_`")))
  (mSeq (mAsg (gtN 1) (mOp addD (mV 1) (mC (.str "abcdefghijklmnopqrstuvwxyz{|}~"))))
  (mSeq (mAsg (gtN 2) (mCall f__law_take (mCons (mV 0) (mCons (mCB lenD (mCons (mV 1) mNil)) mNil))))
  (mRet (mCall f__law_pick (mCons (mV 0) (mCons (mLst (mCons (mC (.str "a")) (mCons (mC (.str "ab")) (mCons (mC (.str "ab")) (mCons (mC (.str "aA")) (mCons (mC (.str "abc")) (mCons (mC (.str "- 0~")) (mCons (mV 1) (mCons (mOp addD (mOp ixD (mV 1) (mV 2)) (mCall f__law_pick (mCons (mV 0) (mCons (mV 1) mNil)))) mNil))))))))) mNil)))))))
def f__law_menu : Fn := mDef 1 3 m__law_menu
def m__law_text : MS := (mSeq (mIf (mB (mCall f__law_rare (mCons (mV 0) (mCons (mC (.int 8)) mNil)))) (mSeq (mAsg (gtN 2) (mOp addD (mC (.int 60)) (mCall f__law_take (mCons (mV 0) (mCons (mC (.int 341)) mNil)))))
  (mSeq (mIf (mB (mCall f__law_rare (mCons (mV 0) (mCons (mC (.int 5)) mNil)))) (mAsg (gtN 2) (mC (.int 5000))) mSkip)
  (mSeq (mAsg (gtN 3) (mBM "str" joinD (mC (.str "")) (mCons (mLc [4] (mRng1 (mCons (mOp addD (mC (.int 1)) (mCall f__law_take (mCons (mV 0) (mCons (mC (.int 5)) mNil)))) mNil)) (gtN 4) mYes (mCall f__law_pick (mCons (mV 0) (mCons (mV 1) mNil)))) mNil)))
  (mSeq (mAsg (gtN 5) (mSl slD (mOp mulD (mV 3) (mV 2)) mNoP (mP (mV 2))))
  (mSeq (mAsg (gtN 6) (mCall f__law_take (mCons (mV 0) (mCons (mV 2) mNil))))
  (mRet (mOp addD (mOp addD (mSl slD (mV 5) mNoP (mP (mV 6))) (mCall f__law_pick (mCons (mV 0) (mCons (mV 1) mNil)))) (mSl slD (mV 5) (mP (mOp addD (mV 6) (mC (.int 1)))) mNoP)))))))) mSkip)
  (mRet (mBM "str" joinD (mC (.str "")) (mCons (mLc [4] (mRng1 (mCons (mCall f__law_in_range (mCons (mV 0) (mCons (mC (.int 0)) (mCons (mC (.int 12)) mNil)))) mNil)) (gtN 4) mYes (mCall f__law_pick (mCons (mV 0) (mCons (mV 1) mNil)))) mNil))))
def f__law_text : Fn := mDef 2 7 m__law_text
def m__law_slice : MS := (mSeq (mAsg (gtN 2) (mCall f__law_take (mCons (mV 0) (mCons (mOp addD (mCB lenD (mCons (mV 1) mNil)) (mC (.int 1))) mNil))))
  (mRet (mSl slD (mV 1) (mP (mV 2)) (mP (mOp addD (mV 2) (mCall f__law_take (mCons (mV 0) (mCons (mOp addD (mC (.int 1)) (mCB minD (mCons (mOp subD (mCB lenD (mCons (mV 1) mNil)) (mV 2)) (mCons (mC (.int 40)) mNil)))) mNil))))))))
def f__law_slice : Fn := mDef 2 3 m__law_slice
def m__law_parts : MS := (mSeq (mAsg (gtN 4) (mLstL (mCons (mC (.str "")) (mCons (mV 2) (mCons (mSl slD (mOp addD (mV 2) (mCall f__law_pick (mCons (mV 0) (mCons (mV 1) mNil)))) mNoP (mP (mC (.int 5000)))) (mCons (mCall f__law_slice (mCons (mV 0) (mCons (mV 2) mNil))) (mCons (mCall f__law_slice (mCons (mV 0) (mCons (mV 3) mNil))) mNil)))))))
  (mSeq (mAsg (gtN 5) (mCall f__law_slice (mCons (mV 0) (mCons (mV 2) mNil))))
  (mSeq (mExpr (mBM "list" appendD (mV 4) (mCons (mOp addD (mSl slD (mV 5) mNoP (mP (mUn negD (mC (.int 1))))) (mCall f__law_pick (mCons (mV 0) (mCons (mV 1) mNil)))) mNil)))
  (mSeq (mExpr (mBM "list" appendD (mV 4) (mCons (mBM "str" joinD (mC (.str "")) (mCons (mLc [6] (mRng1 (mCons (mOp addD (mC (.int 1)) (mCall f__law_take (mCons (mV 0) (mCons (mC (.int 4)) mNil)))) mNil)) (gtN 6) mYes (mCall f__law_pick (mCons (mV 0) (mCons (mV 1) mNil)))) mNil)) mNil)))
  (mRet (mFrz (mCall f__law_shuffled (mCons (mV 0) (mCons (mV 4) mNil)))))))))
def f__law_parts : Fn := mDef 4 7 m__law_parts
def m_law : MS := (mSeq (mAsg (gtN 1) (mCall f__law_draws (mCons (mV 0) mNil)))
  (mSeq (mAsg (gtN 2) (mCall f__law_menu (mCons (mV 1) mNil)))
  (mSeq (mAsg (gtN 3) (mCall f__law_text (mCons (mV 1) (mCons (mV 2) mNil))))
  (mSeq (mAsg (gtN 4) (mCall f__law_text (mCons (mV 1) (mCons (mV 2) mNil))))
  (mSeq (mFor (mIt itA (mCall f__law_parts (mCons (mV 1) (mCons (mV 2) (mCons (mV 3) (mCons (mV 4) mNil)))))) (gtN 5) (mSeq (mAsg (gtN 6) (mFrz (mCall f__law_found (mCons (mV 5) (mCons (mV 3) mNil)))))
  (mSeq (mAsg (gtN 7) (mFrz (mCall f__law_found (mCons (mV 5) (mCons (mV 4) mNil)))))
  (mSeq (mAsg (gtN 8) (mCall f_places_of (mCons (mV 5) (mCons (mV 3) mNil))))
  (mSeq (mIf (mOr (mNot (mB (mCall (f__law_same 8) (mCons (mV 8) (mCons (mV 6) mNil))))) (mNot (mB (mCall (f__law_same 8) (mCons (mFrz (mCall f_places_of (mCons (mV 5) (mCons (mV 4) mNil)))) (mCons (mV 7) mNil)))))) (mRet (mC (.bl false))) mSkip)
  (mSeq (mExpr (mBM "list" appendD (mV 8) (mCons (mUn negD (mC (.int 1))) mNil)))
  (mSeq (mSub setD (mC (.int 7)) (mV 8) (mC (.int 0)))
  (mSeq (mIf (mNot (mB (mCall (f__law_same 8) (mCons (mFrz (mCallK0 f_places_of 2 [0, 1] (mCons (mV 5) (mCons (mV 3) mNil)))) (mCons (mV 6) mNil))))) (mRet (mC (.bl false))) mSkip)
  (mIf (mNot (mB (mCall (f__law_same 8) (mCons (mFrz (mCallK0 f_places_of 2 [1, 0] (mCons (mV 4) (mCons (mV 5) mNil)))) (mCons (mV 7) mNil))))) (mRet (mC (.bl false))) mSkip)))))))))
  (mSeq (mIf (mNot (mB (mCall (f__law_same 8) (mCons (mFrz (mCall f_places_of (mCons (mV 3) (mCons (mC (.str "")) mNil)))) (mCons (mFrz (mCall f__law_found (mCons (mV 3) (mCons (mC (.str "")) mNil)))) mNil))))) (mRet (mC (.bl false))) mSkip)
  (mRet (mCall (f__law_same 8) (mCons (mFrz (mCall f_places_of (mCons (mC (.str "")) (mCons (mC (.str "")) mNil)))) (mCons (mLst (mCons (mC (.int 0)) mNil)) mNil))))))))))
def f_law : Fn := mDef 1 9 m_law
section
variable {P : Program} {w : World} {K : PySem.W.Frag} {mg : Str → Option Value} {base : Heap}
theorem ok_stands_at (T : Bt mg) {a_stands_at : Addr} {fd_stands_at : FuncData} (D_stands_at : Df K mg "stands_at" s_stands_at a_stands_at fd_stands_at P_stands_at)  :
    FnOk P w K mg base (L2.CX P w) 1 a_stands_at fd_stands_at P_stands_at (spF K f_stands_at) :=
  fn_ok D_stands_at.F sc_stands_at fun cdv A outer s H E hr => by
    have tk : Takes (cxOf (L2.CX P w) P w K mg base N_stands_at "stands_at" (defScope s_stands_at) a_stands_at cdv A outer s H E) (WD E) := takes_of rfl rfl rfl rfl
    have pw := passes_of (X := cxOf (L2.CX P w) P w K mg base N_stands_at "stands_at" (defScope s_stands_at) a_stands_at cdv A outer s H E) rfl
    exact (jb_cons (js_if (jt_not (jt_chain op_leD sp_le op_leD sp_le je_int (je_v 2) (je_op op_sub sp_sub (je_callB call_len cs_len (by rfl) T.z_len (by decide +kernel) (ja_cons (je_v 1) ja_nil)) (je_callB call_len cs_len (by rfl) T.z_len (by decide +kernel) (ja_cons (je_v 0) ja_nil))))) (jb_one (js_ret je_bl)) jb_nil)
    (jb_one (js_ret (je_cmp (op_eqA hr.units) sp_eq (je_slice sl_any sp_sl (je_v 1) (jo_some (je_v 2)) (jo_some (je_op op_addD sp_add (je_v 2) (je_callB call_len cs_len (by rfl) T.z_len (by decide +kernel) (ja_cons (je_v 0) ja_nil))))) (je_v 0) (nomark _)))))
theorem ok_places_of (T : Bt mg) {a_places_of : Addr} {fd_places_of : FuncData} (D_places_of : Df K mg "places_of" s_places_of a_places_of fd_places_of P_places_of) {a_stands_at : Addr} {fd_stands_at : FuncData} (D_stands_at : Df K mg "stands_at" s_stands_at a_stands_at fd_stands_at P_stands_at) (G_stands_at : FnOk P w K mg base (L2.CX P w) 1 a_stands_at fd_stands_at P_stands_at (spF K f_stands_at)) :
    FnOk P w K mg base (L2.CX P w) 2 a_places_of fd_places_of P_places_of (spF K f_places_of) :=
  fn_ok D_places_of.F sc_places_of fun cdv A outer s H E hr => by
    have tk : Takes (cxOf (L2.CX P w) P w K mg base N_places_of "places_of" (defScope s_places_of) a_places_of cdv A outer s H E) (WD E) := takes_of rfl rfl rfl rfl
    have pw := passes_of (X := cxOf (L2.CX P w) P w K mg base N_places_of "places_of" (defScope s_places_of) a_places_of cdv A outer s H E) rfl
    exact (jb_one (js_ret (je_lcL (own := [("place", 2)]) rfl sc_places_of.nd (piI (pi_range1 (by rfl) T.z_range (ja_cons (je_op op_addD sp_add (je_callB call_len cs_len (by rfl) T.z_len (by decide +kernel) (ja_cons (je_v 1) ja_nil)) je_int) ja_nil)) t_rng1) (blkOk_by (own := [("place", 2)]) (N := N_places_of) (sc := defScope s_places_of) (by decide +kernel)) (fun _ _ _ _ _ => (pg_name (i := 2) sc_places_of.nd rfl (Or.inl rfl))) (gt_name (by decide)) (fun _ _ _ _ _ => (jts_one (jt_val (je_call G_stands_at (hr.mono (by decide)) (by rfl) D_stands_at.g D_stands_at.k D_stands_at.b takes0 (ja_cons (je_v 0) (ja_cons (je_v 1) (ja_cons (je_v 2) ja_nil))))))) (fun _ _ _ _ _ => (je_v 2)))))
theorem ok__law_draws (T : Bt mg) {a__law_draws : Addr} {fd__law_draws : FuncData} (D__law_draws : Df K mg "_law_draws" s__law_draws a__law_draws fd__law_draws P__law_draws)  :
    FnOk P w K mg base (L2.CX P w) 1 a__law_draws fd__law_draws P__law_draws (spF K f__law_draws) :=
  fn_ok D__law_draws.F sc__law_draws fun cdv A outer s H E hr => by
    have tk : Takes (cxOf (L2.CX P w) P w K mg base N__law_draws "_law_draws" (defScope s__law_draws) a__law_draws cdv A outer s H E) (WD E) := takes_of rfl rfl rfl rfl
    have pw := passes_of (X := cxOf (L2.CX P w) P w K mg base N__law_draws "_law_draws" (defScope s__law_draws) a__law_draws cdv A outer s H E) rfl
    exact (jb_one (js_ret (je_lstL (ja_cons (je_lc (own := [("cell", 1)]) rfl sc__law_draws.nd (ji_any (je_v 0)) (blkOk_by (own := [("cell", 1)]) (N := N__law_draws) (sc := defScope s__law_draws) (by decide +kernel)) (fun _ _ _ _ _ => (pg_name (i := 1) sc__law_draws.nd rfl (Or.inl rfl))) (gt_name (by decide)) (fun _ _ _ _ _ => jts_nil) (fun _ _ _ _ _ => (je_callT call_int1 cs_int (by rfl) T.z_int (by decide +kernel) (ja_cons (je_v 1) ja_nil)))) (ja_cons je_int (ja_cons je_int (ja_cons je_int (ja_cons je_int (ja_cons je_int ja_nil)))))))))
theorem ok__law_mixed (T : Bt mg) {a__law_mixed : Addr} {fd__law_mixed : FuncData} (D__law_mixed : Df K mg "_law_mixed" s__law_mixed a__law_mixed fd__law_mixed P__law_mixed)  :
    FnOk P w K mg base (L2.CX P w) 1 a__law_mixed fd__law_mixed P__law_mixed (spF K f__law_mixed) :=
  fn_ok D__law_mixed.F sc__law_mixed fun cdv A outer s H E hr => by
    have tk : Takes (cxOf (L2.CX P w) P w K mg base N__law_mixed "_law_mixed" (defScope s__law_mixed) a__law_mixed cdv A outer s H E) (WD E) := takes_of rfl rfl rfl rfl
    have pw := passes_of (X := cxOf (L2.CX P w) P w K mg base N__law_mixed "_law_mixed" (defScope s__law_mixed) a__law_mixed cdv A outer s H E) rfl
    exact (jb_cons (js_set (i := 2) sc__law_mixed.nd rfl (Or.inl rfl) (je_op op_modN sp_mod (je_callT call_int1 cs_int (by rfl) T.z_int (by decide +kernel) (ja_cons (je_op op_addD sp_add (je_op op_addD sp_add (je_op op_mulD sp_mul (je_v 0) je_int) (je_op op_mulD sp_mul (je_v 1) je_int)) je_int) ja_nil)) je_int))
    (jb_cons (js_set (i := 3) sc__law_mixed.nd rfl (Or.inl rfl) (je_op op_modN sp_mod (je_callT call_int1 cs_int (by rfl) T.z_int (by decide +kernel) (ja_cons (je_op op_addD sp_add (je_op op_addD sp_add (je_op op_mulD sp_mul (je_v 2) (je_v 2)) (je_op op_mulD sp_mul (je_v 1) je_int)) je_int) ja_nil)) je_int))
    (jb_one (js_ret (je_op op_modN sp_mod (je_callT call_int1 cs_int (by rfl) T.z_int (by decide +kernel) (ja_cons (je_op op_addD sp_add (je_op op_mulD sp_mul (je_v 3) (je_v 3)) (je_v 2)) ja_nil)) je_int)))))
theorem ok__law_take (T : Bt mg) {a__law_take : Addr} {fd__law_take : FuncData} (D__law_take : Df K mg "_law_take" s__law_take a__law_take fd__law_take P__law_take) {a__law_mixed : Addr} {fd__law_mixed : FuncData} (D__law_mixed : Df K mg "_law_mixed" s__law_mixed a__law_mixed fd__law_mixed P__law_mixed) (G__law_mixed : FnOk P w K mg base (L2.CX P w) 1 a__law_mixed fd__law_mixed P__law_mixed (spF K f__law_mixed)) :
    FnOk P w K mg base (L2.CX P w) 2 a__law_take fd__law_take P__law_take (spF K f__law_take) :=
  fn_ok D__law_take.F sc__law_take fun cdv A outer s H E hr => by
    have tk : Takes (cxOf (L2.CX P w) P w K mg base N__law_take "_law_take" (defScope s__law_take) a__law_take cdv A outer s H E) (WD E) := takes_of rfl rfl rfl rfl
    have pw := passes_of (X := cxOf (L2.CX P w) P w K mg base N__law_take "_law_take" (defScope s__law_take) a__law_take cdv A outer s H E) rfl
    exact (jb_cons (js_if (jt_cmp op_ltD sp_lt (je_v 1) je_int (nomark _)) (jb_one (js_ret je_int)) jb_nil)
    (jb_cons (js_if (JW.jt (jw_and (jt_cmp (op_eqA hr.units) sp_eq (je_ix ix_seq sp_ix (je_v 0) je_int (fun _ _ => rfl)) je_int (nomark _)) (jw_and (jt_cmp (op_eqA hr.units) sp_eq (je_ix ix_seq sp_ix (je_v 0) je_int (fun _ _ => rfl)) je_int (nomark _)) (jw_and1 (jt_cmp op_ltD sp_lt (je_ix ix_seq sp_ix (je_v 0) je_int (fun _ _ => rfl)) (je_callB call_len cs_len (by rfl) T.z_len (by decide +kernel) (ja_cons (je_ix ix_seq sp_ix (je_v 0) je_int (fun _ _ => rfl)) ja_nil)) (nomark _)))))) (jb_cons (js_set (i := 2) sc__law_take.nd rfl (Or.inl rfl) (je_ix ix_seq sp_ix (je_ix ix_seq sp_ix (je_v 0) je_int (fun _ _ => rfl)) (je_ix ix_seq sp_ix (je_v 0) je_int (fun _ _ => rfl)) (fun _ _ => rfl)))
    (jb_cons (js_sub set_list sp_set (je_op op_addD sp_add (je_ix ix_seq sp_ix (je_v 0) je_int (fun _ _ => rfl)) je_int) (je_v 0) je_int)
    (jb_cons (js_sub set_list sp_set (je_op op_modN sp_mod (je_callT call_int1 cs_int (by rfl) T.z_int (by decide +kernel) (ja_cons (je_op op_addD sp_add (je_op op_mulD sp_mul (je_ix ix_seq sp_ix (je_v 0) je_int (fun _ _ => rfl)) je_int) (je_v 2)) ja_nil)) je_int) (je_v 0) je_int)
    (jb_one (js_if (JW.jt (jw_or (jt_cmp op_ge sp_ge (je_v 2) (je_op op_pow sp_pow je_int je_int) (nomark _)) (jw_or1 (jt_cmp op_ge sp_ge (je_un un_neg sp_neg (je_v 2)) (je_op op_pow sp_pow je_int je_int) (nomark _))))) (jb_one (js_sub set_list sp_set (je_callB call_abs cs_abs (by rfl) T.z_abs (by decide +kernel) (ja_cons (je_v 2) ja_nil)) (je_v 0) je_int)) (jb_one (js_sub set_list sp_set je_int (je_v 0) je_int))))))) jb_nil)
    (jb_cons (js_if (jt_cmp op_gt sp_gt (je_ix ix_seq sp_ix (je_v 0) je_int (fun _ _ => rfl)) je_int (nomark _)) (jb_cons (js_set (i := 3) sc__law_take.nd rfl (Or.inl rfl) (je_op op_modN sp_mod (je_callT call_int1 cs_int (by rfl) T.z_int (by decide +kernel) (ja_cons (je_ix ix_seq sp_ix (je_v 0) je_int (fun _ _ => rfl)) ja_nil)) (je_v 1)))
    (jb_cons (js_sub set_list sp_set (je_op op_fdivN sp_fdiv (je_ix ix_seq sp_ix (je_v 0) je_int (fun _ _ => rfl)) (je_v 1)) (je_v 0) je_int)
    (jb_one (js_ret (je_v 3))))) jb_nil)
    (jb_cons (js_if (jt_cmp op_gt sp_gt (je_ix ix_seq sp_ix (je_v 0) je_int (fun _ _ => rfl)) je_int (nomark _)) (jb_one (js_sub set_list sp_set (je_op op_sub sp_sub (je_ix ix_seq sp_ix (je_v 0) je_int (fun _ _ => rfl)) je_int) (je_v 0) je_int)) jb_nil)
    (jb_cons (js_sub set_list sp_set (je_op op_addD sp_add (je_ix ix_seq sp_ix (je_v 0) je_int (fun _ _ => rfl)) je_int) (je_v 0) je_int)
    (jb_one (js_ret (je_op op_modN sp_mod (je_callT call_int1 cs_int (by rfl) T.z_int (by decide +kernel) (ja_cons (je_call G__law_mixed (hr.mono (by decide)) (by rfl) D__law_mixed.g D__law_mixed.k D__law_mixed.b tk (ja_cons (je_ix ix_seq sp_ix (je_v 0) je_int (fun _ _ => rfl)) (ja_cons (je_ix ix_seq sp_ix (je_v 0) je_int (fun _ _ => rfl)) ja_nil))) ja_nil)) (je_v 1)))))))))
theorem ok__law_span (T : Bt mg) {a__law_span : Addr} {fd__law_span : FuncData} (D__law_span : Df K mg "_law_span" s__law_span a__law_span fd__law_span P__law_span) {a__law_take : Addr} {fd__law_take : FuncData} (D__law_take : Df K mg "_law_take" s__law_take a__law_take fd__law_take P__law_take) (G__law_take : FnOk P w K mg base (L2.CX P w) 2 a__law_take fd__law_take P__law_take (spF K f__law_take)) :
    FnOk P w K mg base (L2.CX P w) 3 a__law_span fd__law_span P__law_span (spF K f__law_span) :=
  fn_ok D__law_span.F sc__law_span fun cdv A outer s H E hr => by
    have tk : Takes (cxOf (L2.CX P w) P w K mg base N__law_span "_law_span" (defScope s__law_span) a__law_span cdv A outer s H E) (WD E) := takes_of rfl rfl rfl rfl
    have pw := passes_of (X := cxOf (L2.CX P w) P w K mg base N__law_span "_law_span" (defScope s__law_span) a__law_span cdv A outer s H E) rfl
    exact (jb_one (js_ret (je_op op_addD sp_add (je_v 1) (je_call G__law_take (hr.mono (by decide)) (by rfl) D__law_take.g D__law_take.k D__law_take.b tk (ja_cons (je_v 0) (ja_cons (je_op op_addD sp_add (je_op op_sub sp_sub (je_v 2) (je_v 1)) je_int) ja_nil))))))
theorem ok__law_rare (T : Bt mg) {a__law_rare : Addr} {fd__law_rare : FuncData} (D__law_rare : Df K mg "_law_rare" s__law_rare a__law_rare fd__law_rare P__law_rare) {a__law_take : Addr} {fd__law_take : FuncData} (D__law_take : Df K mg "_law_take" s__law_take a__law_take fd__law_take P__law_take) (G__law_take : FnOk P w K mg base (L2.CX P w) 2 a__law_take fd__law_take P__law_take (spF K f__law_take)) :
    FnOk P w K mg base (L2.CX P w) 3 a__law_rare fd__law_rare P__law_rare (spF K f__law_rare) :=
  fn_ok D__law_rare.F sc__law_rare fun cdv A outer s H E hr => by
    have tk : Takes (cxOf (L2.CX P w) P w K mg base N__law_rare "_law_rare" (defScope s__law_rare) a__law_rare cdv A outer s H E) (WD E) := takes_of rfl rfl rfl rfl
    have pw := passes_of (X := cxOf (L2.CX P w) P w K mg base N__law_rare "_law_rare" (defScope s__law_rare) a__law_rare cdv A outer s H E) rfl
    exact (jb_one (js_ret (je_cmp (op_eqA hr.units) sp_eq (je_call G__law_take (hr.mono (by decide)) (by rfl) D__law_take.g D__law_take.k D__law_take.b tk (ja_cons (je_v 0) (ja_cons (je_v 1) ja_nil))) (je_op op_sub sp_sub (je_v 1) je_int) (nomark _))))
theorem ok__law_pick (T : Bt mg) {a__law_pick : Addr} {fd__law_pick : FuncData} (D__law_pick : Df K mg "_law_pick" s__law_pick a__law_pick fd__law_pick P__law_pick) {a__law_take : Addr} {fd__law_take : FuncData} (D__law_take : Df K mg "_law_take" s__law_take a__law_take fd__law_take P__law_take) (G__law_take : FnOk P w K mg base (L2.CX P w) 2 a__law_take fd__law_take P__law_take (spF K f__law_take)) :
    FnOk P w K mg base (L2.CX P w) 3 a__law_pick fd__law_pick P__law_pick (spF K f__law_pick) :=
  fn_ok D__law_pick.F sc__law_pick fun cdv A outer s H E hr => by
    have tk : Takes (cxOf (L2.CX P w) P w K mg base N__law_pick "_law_pick" (defScope s__law_pick) a__law_pick cdv A outer s H E) (WD E) := takes_of rfl rfl rfl rfl
    have pw := passes_of (X := cxOf (L2.CX P w) P w K mg base N__law_pick "_law_pick" (defScope s__law_pick) a__law_pick cdv A outer s H E) rfl
    exact (jb_one (js_ret (je_ix ix_seq sp_ix (je_v 1) (je_call G__law_take (hr.mono (by decide)) (by rfl) D__law_take.g D__law_take.k D__law_take.b tk (ja_cons (je_v 0) (ja_cons (je_callB call_len cs_len (by rfl) T.z_len (by decide +kernel) (ja_cons (je_v 1) ja_nil)) ja_nil))) (fun _ _ => rfl))))
theorem ok__law_in_range (T : Bt mg) {a__law_in_range : Addr} {fd__law_in_range : FuncData} (D__law_in_range : Df K mg "_law_in_range" s__law_in_range a__law_in_range fd__law_in_range P__law_in_range) {a__law_take : Addr} {fd__law_take : FuncData} (D__law_take : Df K mg "_law_take" s__law_take a__law_take fd__law_take P__law_take) (G__law_take : FnOk P w K mg base (L2.CX P w) 2 a__law_take fd__law_take P__law_take (spF K f__law_take)) {a__law_pick : Addr} {fd__law_pick : FuncData} (D__law_pick : Df K mg "_law_pick" s__law_pick a__law_pick fd__law_pick P__law_pick) (G__law_pick : FnOk P w K mg base (L2.CX P w) 3 a__law_pick fd__law_pick P__law_pick (spF K f__law_pick)) {a__law_span : Addr} {fd__law_span : FuncData} (D__law_span : Df K mg "_law_span" s__law_span a__law_span fd__law_span P__law_span) (G__law_span : FnOk P w K mg base (L2.CX P w) 3 a__law_span fd__law_span P__law_span (spF K f__law_span)) :
    FnOk P w K mg base (L2.CX P w) 4 a__law_in_range fd__law_in_range P__law_in_range (spF K f__law_in_range) :=
  fn_ok D__law_in_range.F sc__law_in_range fun cdv A outer s H E hr => by
    have tk : Takes (cxOf (L2.CX P w) P w K mg base N__law_in_range "_law_in_range" (defScope s__law_in_range) a__law_in_range cdv A outer s H E) (WD E) := takes_of rfl rfl rfl rfl
    have pw := passes_of (X := cxOf (L2.CX P w) P w K mg base N__law_in_range "_law_in_range" (defScope s__law_in_range) a__law_in_range cdv A outer s H E) rfl
    exact (jb_cons (js_if (jt_cmp (op_eqA hr.units) sp_eq (je_call G__law_take (hr.mono (by decide)) (by rfl) D__law_take.g D__law_take.k D__law_take.b tk (ja_cons (je_v 0) (ja_cons je_int ja_nil))) je_int (nomark _)) (jb_one (js_ret (je_call G__law_pick (hr.mono (by decide)) (by rfl) D__law_pick.g D__law_pick.k D__law_pick.b tk (ja_cons (je_v 0) (ja_cons (je_lst (ja_cons (je_v 1) (ja_cons (je_v 2) ja_nil))) ja_nil))))) jb_nil)
    (jb_one (js_ret (je_call G__law_span (hr.mono (by decide)) (by rfl) D__law_span.g D__law_span.k D__law_span.b tk (ja_cons (je_v 0) (ja_cons (je_v 1) (ja_cons (je_v 2) ja_nil)))))))
theorem ok__law_shuffled (T : Bt mg) {a__law_shuffled : Addr} {fd__law_shuffled : FuncData} (D__law_shuffled : Df K mg "_law_shuffled" s__law_shuffled a__law_shuffled fd__law_shuffled P__law_shuffled) {a__law_take : Addr} {fd__law_take : FuncData} (D__law_take : Df K mg "_law_take" s__law_take a__law_take fd__law_take P__law_take) (G__law_take : FnOk P w K mg base (L2.CX P w) 2 a__law_take fd__law_take P__law_take (spF K f__law_take)) :
    FnOk P w K mg base (L2.CX P w) 3 a__law_shuffled fd__law_shuffled P__law_shuffled (spF K f__law_shuffled) :=
  fn_ok D__law_shuffled.F sc__law_shuffled fun cdv A outer s H E hr => by
    have tk : Takes (cxOf (L2.CX P w) P w K mg base N__law_shuffled "_law_shuffled" (defScope s__law_shuffled) a__law_shuffled cdv A outer s H E) (WD E) := takes_of rfl rfl rfl rfl
    have pw := passes_of (X := cxOf (L2.CX P w) P w K mg base N__law_shuffled "_law_shuffled" (defScope s__law_shuffled) a__law_shuffled cdv A outer s H E) rfl
    exact (jb_cons (js_set (i := 2) sc__law_shuffled.nd rfl (Or.inl rfl) (je_callT call_listA cs_list (by rfl) T.z_list (by decide +kernel) (ja_cons (je_v 1) ja_nil)))
    (jb_cons (js_set (i := 3) sc__law_shuffled.nd rfl (Or.inl rfl) (je_lstL ja_nil))
    (jb_cons (js_for (vs := [4]) pw rfl (piI (pi_range1 (by rfl) T.z_range (ja_cons (je_callB call_len cs_len (by rfl) T.z_len (by decide +kernel) (ja_cons (je_v 1) ja_nil)) ja_nil)) t_rng1) (pg_name (i := 4) sc__law_shuffled.nd rfl (Or.inl rfl)) (gt_name (by decide)) (jb_cons (js_set (i := 5) sc__law_shuffled.nd rfl (Or.inl rfl) (je_call G__law_take (hr.mono (by decide)) (by rfl) D__law_take.g D__law_take.k D__law_take.b tk (ja_cons (je_v 0) (ja_cons (je_callB call_len cs_len (by rfl) T.z_len (by decide +kernel) (ja_cons (je_v 2) ja_nil)) ja_nil))))
    (jb_cons (js_expr (je_bm PySem.F.plainAttrs_list PySem.F.slot_list_append PySem.F.type_list_append mt_append ms_append (je_v 3) (ja_cons (je_ix ix_seq sp_ix (je_v 2) (je_v 5) (fun _ _ => rfl)) ja_nil)))
    (jb_one (js_set (i := 2) sc__law_shuffled.nd rfl (Or.inl rfl) (je_op op_addD sp_add (je_slice sl_any sp_sl (je_v 2) jo_none (jo_some (je_v 5))) (je_slice sl_any sp_sl (je_v 2) (jo_some (je_op op_addD sp_add (je_v 5) je_int)) jo_none)))))))
    (jb_one (js_ret (je_v 3))))))
theorem ok__law_same (T : Bt mg) {a__law_same : Addr} {fd__law_same : FuncData} (D__law_same : Df K mg "_law_same" s__law_same a__law_same fd__law_same P__law_same)  : ∀ n : Nat,
    FnOk P w K mg base (L2.CX P w) (0 + n) a__law_same fd__law_same P__law_same (spF K (f__law_same n))
  | 0 => ⟨fun _ _ _ _ ⟨_, _, _, _, _, _, h⟩ => h.elim, fun _ _ _ _ _ _ _ _ _ _ _ _ _ ⟨_, _, _, _, _, _, h⟩ => h.elim⟩
  | n + 1 => by
    have ih := ok__law_same T D__law_same  n
    exact fn_ok D__law_same.F sc__law_same fun cdv A outer s H E hr => by
      have tk : Takes (cxOf (L2.CX P w) P w K mg base N__law_same "_law_same" (defScope s__law_same) a__law_same cdv A outer s H E) (WD E) := takes_of rfl rfl rfl rfl
      have pw := passes_of (X := cxOf (L2.CX P w) P w K mg base N__law_same "_law_same" (defScope s__law_same) a__law_same cdv A outer s H E) rfl
      exact (jb_cons (js_if (jt_cmp op_isN sp_isN (je_v 1) je_non (nomark _)) (jb_one (js_ret (je_cmp op_isN sp_isN (je_v 0) je_non (nomark _)))) jb_nil)
    (jb_cons (js_if (jt_val (je_callB call_isi cs_isi (by rfl) T.z_isinstance (by decide +kernel) (ja_cons (je_v 1) (ja_cons (je_ty (by rfl) T.z_bool (by decide +kernel)) ja_nil)))) (jb_one (js_ret (je_and (je_callB call_isi cs_isi (by rfl) T.z_isinstance (by decide +kernel) (ja_cons (je_v 0) (ja_cons (je_ty (by rfl) T.z_bool (by decide +kernel)) ja_nil))) (je_one (je_cmp (op_eqA hr.units) sp_eq (je_v 0) (je_v 1) (nomark _)))))) jb_nil)
    (jb_cons (js_if (jt_val (je_callB call_isi cs_isi (by rfl) T.z_isinstance (by decide +kernel) (ja_cons (je_v 1) (ja_cons (je_ty (by rfl) T.z_int (by decide +kernel)) ja_nil)))) (jb_one (js_ret (je_and (je_callB call_isi cs_isi (by rfl) T.z_isinstance (by decide +kernel) (ja_cons (je_v 0) (ja_cons (je_ty (by rfl) T.z_int (by decide +kernel)) ja_nil))) (je_and (je_not (je_callB call_isi cs_isi (by rfl) T.z_isinstance (by decide +kernel) (ja_cons (je_v 0) (ja_cons (je_ty (by rfl) T.z_bool (by decide +kernel)) ja_nil)))) (je_one (je_cmp (op_eqA hr.units) sp_eq (je_v 0) (je_v 1) (nomark _))))))) jb_nil)
    (jb_cons (js_if (jt_val (je_callB call_isi cs_isi (by rfl) T.z_isinstance (by decide +kernel) (ja_cons (je_v 1) (ja_cons (je_ty (by rfl) T.z_str (by decide +kernel)) ja_nil)))) (jb_one (js_ret (je_and (je_callB call_isi cs_isi (by rfl) T.z_isinstance (by decide +kernel) (ja_cons (je_v 0) (ja_cons (je_ty (by rfl) T.z_str (by decide +kernel)) ja_nil))) (je_one (je_cmp (op_eqA hr.units) sp_eq (je_v 0) (je_v 1) (nomark _)))))) jb_nil)
    (jb_cons (js_if (JW.jt (jw_and (jt_val (je_callB call_isi cs_isi (by rfl) T.z_isinstance (by decide +kernel) (ja_cons (je_v 1) (ja_cons (je_ty (by rfl) T.z_tuple (by decide +kernel)) ja_nil)))) (jw_and1 (jt_not (jt_val (je_callB call_isi cs_isi (by rfl) T.z_isinstance (by decide +kernel) (ja_cons (je_v 0) (ja_cons (je_ty (by rfl) T.z_tuple (by decide +kernel)) ja_nil)))))))) (jb_one (js_ret je_bl)) jb_nil)
    (jb_cons (js_if (JW.jt (jw_and (jt_val (je_callB call_isi cs_isi (by rfl) T.z_isinstance (by decide +kernel) (ja_cons (je_v 1) (ja_cons (je_ty (by rfl) T.z_list (by decide +kernel)) ja_nil)))) (jw_and1 (jt_not (jt_val (je_callB call_isi cs_isi (by rfl) T.z_isinstance (by decide +kernel) (ja_cons (je_v 0) (ja_cons (je_ty (by rfl) T.z_list (by decide +kernel)) ja_nil)))))))) (jb_one (js_ret je_bl)) jb_nil)
    (jb_cons (js_if (jt_cmp (op_neA hr.units) sp_ne (je_callB call_len cs_len (by rfl) T.z_len (by decide +kernel) (ja_cons (je_v 0) ja_nil)) (je_callB call_len cs_len (by rfl) T.z_len (by decide +kernel) (ja_cons (je_v 1) ja_nil)) (nomark _)) (jb_one (js_ret je_bl)) jb_nil)
    (jb_cons (js_for (vs := [2]) pw rfl (piI (pi_range1 (by rfl) T.z_range (ja_cons (je_callB call_len cs_len (by rfl) T.z_len (by decide +kernel) (ja_cons (je_v 1) ja_nil)) ja_nil)) t_rng1) (pg_name (i := 2) sc__law_same.nd rfl (Or.inl rfl)) (gt_name (by decide)) (jb_one (js_if (jt_not (jt_val (je_call ih (hr.mono (Nat.le_refl _)) (by rfl) D__law_same.g D__law_same.k D__law_same.b tk (ja_cons (je_ix ix_seq sp_ix (je_v 0) (je_v 2) (fun _ _ => rfl)) (ja_cons (je_ix ix_seq sp_ix (je_v 1) (je_v 2) (fun _ _ => rfl)) ja_nil))))) (jb_one (js_ret je_bl)) jb_nil)))
    (jb_one (js_ret je_bl))))))))))
theorem ok__law_found (T : Bt mg) {a__law_found : Addr} {fd__law_found : FuncData} (D__law_found : Df K mg "_law_found" s__law_found a__law_found fd__law_found P__law_found)  :
    FnOk P w K mg base (L2.CX P w) 1 a__law_found fd__law_found P__law_found (spF K f__law_found) :=
  fn_ok D__law_found.F sc__law_found fun cdv A outer s H E hr => by
    have tk : Takes (cxOf (L2.CX P w) P w K mg base N__law_found "_law_found" (defScope s__law_found) a__law_found cdv A outer s H E) (WD E) := takes_of rfl rfl rfl rfl
    have pw := passes_of (X := cxOf (L2.CX P w) P w K mg base N__law_found "_law_found" (defScope s__law_found) a__law_found cdv A outer s H E) rfl
    exact (jb_cons (js_set (i := 2) sc__law_found.nd rfl (Or.inl rfl) (je_lstL ja_nil))
    (jb_cons (js_set (i := 3) sc__law_found.nd rfl (Or.inl rfl) (je_un un_neg sp_neg je_int))
    (jb_cons (js_for (vs := [4]) pw rfl (piI (pi_range1 (by rfl) T.z_range (ja_cons (je_op op_addD sp_add (je_callB call_len cs_len (by rfl) T.z_len (by decide +kernel) (ja_cons (je_v 1) ja_nil)) je_int) ja_nil)) t_rng1) (pg_name (i := 4) sc__law_found.nd rfl (Or.inl rfl)) (gt_name (by decide)) (jb_cons (js_set (i := 3) sc__law_found.nd rfl (Or.inl rfl) (je_bm PySem.F.plainAttrs_str PySem.F.slot_str_find PySem.F.type_str_find mt_find3 ms_find3 (je_v 1) (ja_cons (je_v 0) (ja_cons (je_op op_addD sp_add (je_v 3) je_int) ja_nil))))
    (jb_cons (js_if (jt_cmp op_ltD sp_lt (je_v 3) je_int (nomark _)) (jb_one js_brk) jb_nil)
    (jb_one (js_expr (je_bm PySem.F.plainAttrs_list PySem.F.slot_list_append PySem.F.type_list_append mt_append ms_append (je_v 2) (ja_cons (je_v 3) ja_nil)))))))
    (jb_one (js_ret (je_v 2))))))
theorem ok__law_menu (T : Bt mg) {a__law_menu : Addr} {fd__law_menu : FuncData} (D__law_menu : Df K mg "_law_menu" s__law_menu a__law_menu fd__law_menu P__law_menu) {a__law_take : Addr} {fd__law_take : FuncData} (D__law_take : Df K mg "_law_take" s__law_take a__law_take fd__law_take P__law_take) (G__law_take : FnOk P w K mg base (L2.CX P w) 2 a__law_take fd__law_take P__law_take (spF K f__law_take)) {a__law_pick : Addr} {fd__law_pick : FuncData} (D__law_pick : Df K mg "_law_pick" s__law_pick a__law_pick fd__law_pick P__law_pick) (G__law_pick : FnOk P w K mg base (L2.CX P w) 3 a__law_pick fd__law_pick P__law_pick (spF K f__law_pick)) :
    FnOk P w K mg base (L2.CX P w) 4 a__law_menu fd__law_menu P__law_menu (spF K f__law_menu) :=
  fn_ok D__law_menu.F sc__law_menu fun cdv A outer s H E hr => by
    have tk : Takes (cxOf (L2.CX P w) P w K mg base N__law_menu "_law_menu" (defScope s__law_menu) a__law_menu cdv A outer s H E) (WD E) := takes_of rfl rfl rfl rfl
    have pw := passes_of (X := cxOf (L2.CX P w) P w K mg base N__law_menu "_law_menu" (defScope s__law_menu) a__law_menu cdv A outer s H E) rfl
    exact (jb_cons (js_set (i := 1) sc__law_menu.nd rfl (Or.inl rfl) je_str)
    (jb_cons (js_set (i := 1) sc__law_menu.nd rfl (Or.inl rfl) (je_op op_addD sp_add (je_v 1) je_str))
    (jb_cons (js_set (i := 2) sc__law_menu.nd rfl (Or.inl rfl) (je_call G__law_take (hr.mono (by decide)) (by rfl) D__law_take.g D__law_take.k D__law_take.b tk (ja_cons (je_v 0) (ja_cons (je_callB call_len cs_len (by rfl) T.z_len (by decide +kernel) (ja_cons (je_v 1) ja_nil)) ja_nil))))
    (jb_one (js_ret (je_call G__law_pick (hr.mono (by decide)) (by rfl) D__law_pick.g D__law_pick.k D__law_pick.b tk (ja_cons (je_v 0) (ja_cons (je_lst (ja_cons je_str (ja_cons je_str (ja_cons je_str (ja_cons je_str (ja_cons je_str (ja_cons je_str (ja_cons (je_v 1) (ja_cons (je_op op_addD sp_add (je_ix ix_seq sp_ix (je_v 1) (je_v 2) (fun _ _ => rfl)) (je_call G__law_pick (hr.mono (by decide)) (by rfl) D__law_pick.g D__law_pick.k D__law_pick.b tk (ja_cons (je_v 0) (ja_cons (je_v 1) ja_nil)))) ja_nil))))))))) ja_nil))))))))
theorem ok__law_text (T : Bt mg) {a__law_text : Addr} {fd__law_text : FuncData} (D__law_text : Df K mg "_law_text" s__law_text a__law_text fd__law_text P__law_text) {a__law_rare : Addr} {fd__law_rare : FuncData} (D__law_rare : Df K mg "_law_rare" s__law_rare a__law_rare fd__law_rare P__law_rare) (G__law_rare : FnOk P w K mg base (L2.CX P w) 3 a__law_rare fd__law_rare P__law_rare (spF K f__law_rare)) {a__law_take : Addr} {fd__law_take : FuncData} (D__law_take : Df K mg "_law_take" s__law_take a__law_take fd__law_take P__law_take) (G__law_take : FnOk P w K mg base (L2.CX P w) 2 a__law_take fd__law_take P__law_take (spF K f__law_take)) {a__law_pick : Addr} {fd__law_pick : FuncData} (D__law_pick : Df K mg "_law_pick" s__law_pick a__law_pick fd__law_pick P__law_pick) (G__law_pick : FnOk P w K mg base (L2.CX P w) 3 a__law_pick fd__law_pick P__law_pick (spF K f__law_pick)) {a__law_in_range : Addr} {fd__law_in_range : FuncData} (D__law_in_range : Df K mg "_law_in_range" s__law_in_range a__law_in_range fd__law_in_range P__law_in_range) (G__law_in_range : FnOk P w K mg base (L2.CX P w) 4 a__law_in_range fd__law_in_range P__law_in_range (spF K f__law_in_range)) :
    FnOk P w K mg base (L2.CX P w) 5 a__law_text fd__law_text P__law_text (spF K f__law_text) :=
  fn_ok D__law_text.F sc__law_text fun cdv A outer s H E hr => by
    have tk : Takes (cxOf (L2.CX P w) P w K mg base N__law_text "_law_text" (defScope s__law_text) a__law_text cdv A outer s H E) (WD E) := takes_of rfl rfl rfl rfl
    have pw := passes_of (X := cxOf (L2.CX P w) P w K mg base N__law_text "_law_text" (defScope s__law_text) a__law_text cdv A outer s H E) rfl
    exact (jb_cons (js_if (jt_val (je_call G__law_rare (hr.mono (by decide)) (by rfl) D__law_rare.g D__law_rare.k D__law_rare.b tk (ja_cons (je_v 0) (ja_cons je_int ja_nil)))) (jb_cons (js_set (i := 2) sc__law_text.nd rfl (Or.inl rfl) (je_op op_addD sp_add je_int (je_call G__law_take (hr.mono (by decide)) (by rfl) D__law_take.g D__law_take.k D__law_take.b tk (ja_cons (je_v 0) (ja_cons je_int ja_nil)))))
    (jb_cons (js_if (jt_val (je_call G__law_rare (hr.mono (by decide)) (by rfl) D__law_rare.g D__law_rare.k D__law_rare.b tk (ja_cons (je_v 0) (ja_cons je_int ja_nil)))) (jb_one (js_set (i := 2) sc__law_text.nd rfl (Or.inl rfl) je_int)) jb_nil)
    (jb_cons (js_set (i := 3) sc__law_text.nd rfl (Or.inl rfl) (je_bm PySem.F.plainAttrs_str PySem.F.slot_str_join PySem.F.type_str_join mt_join ms_join je_str (ja_cons (je_lc (own := [("k", 4)]) rfl sc__law_text.nd (piI (pi_range1 (by rfl) T.z_range (ja_cons (je_op op_addD sp_add je_int (je_call G__law_take (hr.mono (by decide)) (by rfl) D__law_take.g D__law_take.k D__law_take.b tk (ja_cons (je_v 0) (ja_cons je_int ja_nil)))) ja_nil)) t_rng1) (blkOk_by (own := [("k", 4)]) (N := N__law_text) (sc := defScope s__law_text) (by decide +kernel)) (fun _ _ _ _ _ => (pg_name (i := 4) sc__law_text.nd rfl (Or.inl rfl))) (gt_name (by decide)) (fun _ _ _ _ _ => jts_nil) (fun _ _ _ _ _ => (je_call G__law_pick (hr.mono (by decide)) (by rfl) D__law_pick.g D__law_pick.k D__law_pick.b takes0 (ja_cons (je_v 0) (ja_cons (je_v 1) ja_nil))))) ja_nil)))
    (jb_cons (js_set (i := 5) sc__law_text.nd rfl (Or.inl rfl) (je_slice sl_any sp_sl (je_op op_mulD sp_mul (je_v 3) (je_v 2)) jo_none (jo_some (je_v 2))))
    (jb_cons (js_set (i := 6) sc__law_text.nd rfl (Or.inl rfl) (je_call G__law_take (hr.mono (by decide)) (by rfl) D__law_take.g D__law_take.k D__law_take.b tk (ja_cons (je_v 0) (ja_cons (je_v 2) ja_nil))))
    (jb_one (js_ret (je_op op_addD sp_add (je_op op_addD sp_add (je_slice sl_any sp_sl (je_v 5) jo_none (jo_some (je_v 6))) (je_call G__law_pick (hr.mono (by decide)) (by rfl) D__law_pick.g D__law_pick.k D__law_pick.b tk (ja_cons (je_v 0) (ja_cons (je_v 1) ja_nil)))) (je_slice sl_any sp_sl (je_v 5) (jo_some (je_op op_addD sp_add (je_v 6) je_int)) jo_none))))))))) jb_nil)
    (jb_one (js_ret (je_bm PySem.F.plainAttrs_str PySem.F.slot_str_join PySem.F.type_str_join mt_join ms_join je_str (ja_cons (je_lc (own := [("k", 4)]) rfl sc__law_text.nd (piI (pi_range1 (by rfl) T.z_range (ja_cons (je_call G__law_in_range (hr.mono (by decide)) (by rfl) D__law_in_range.g D__law_in_range.k D__law_in_range.b tk (ja_cons (je_v 0) (ja_cons je_int (ja_cons je_int ja_nil)))) ja_nil)) t_rng1) (blkOk_by (own := [("k", 4)]) (N := N__law_text) (sc := defScope s__law_text) (by decide +kernel)) (fun _ _ _ _ _ => (pg_name (i := 4) sc__law_text.nd rfl (Or.inl rfl))) (gt_name (by decide)) (fun _ _ _ _ _ => jts_nil) (fun _ _ _ _ _ => (je_call G__law_pick (hr.mono (by decide)) (by rfl) D__law_pick.g D__law_pick.k D__law_pick.b takes0 (ja_cons (je_v 0) (ja_cons (je_v 1) ja_nil))))) ja_nil)))))
theorem ok__law_slice (T : Bt mg) {a__law_slice : Addr} {fd__law_slice : FuncData} (D__law_slice : Df K mg "_law_slice" s__law_slice a__law_slice fd__law_slice P__law_slice) {a__law_take : Addr} {fd__law_take : FuncData} (D__law_take : Df K mg "_law_take" s__law_take a__law_take fd__law_take P__law_take) (G__law_take : FnOk P w K mg base (L2.CX P w) 2 a__law_take fd__law_take P__law_take (spF K f__law_take)) :
    FnOk P w K mg base (L2.CX P w) 3 a__law_slice fd__law_slice P__law_slice (spF K f__law_slice) :=
  fn_ok D__law_slice.F sc__law_slice fun cdv A outer s H E hr => by
    have tk : Takes (cxOf (L2.CX P w) P w K mg base N__law_slice "_law_slice" (defScope s__law_slice) a__law_slice cdv A outer s H E) (WD E) := takes_of rfl rfl rfl rfl
    have pw := passes_of (X := cxOf (L2.CX P w) P w K mg base N__law_slice "_law_slice" (defScope s__law_slice) a__law_slice cdv A outer s H E) rfl
    exact (jb_cons (js_set (i := 2) sc__law_slice.nd rfl (Or.inl rfl) (je_call G__law_take (hr.mono (by decide)) (by rfl) D__law_take.g D__law_take.k D__law_take.b tk (ja_cons (je_v 0) (ja_cons (je_op op_addD sp_add (je_callB call_len cs_len (by rfl) T.z_len (by decide +kernel) (ja_cons (je_v 1) ja_nil)) je_int) ja_nil))))
    (jb_one (js_ret (je_slice sl_any sp_sl (je_v 1) (jo_some (je_v 2)) (jo_some (je_op op_addD sp_add (je_v 2) (je_call G__law_take (hr.mono (by decide)) (by rfl) D__law_take.g D__law_take.k D__law_take.b tk (ja_cons (je_v 0) (ja_cons (je_op op_addD sp_add je_int (je_callB (call_min2 rfl) cs_min (by rfl) T.z_min (by decide +kernel) (ja_cons (je_op op_sub sp_sub (je_callB call_len cs_len (by rfl) T.z_len (by decide +kernel) (ja_cons (je_v 1) ja_nil)) (je_v 2)) (ja_cons je_int ja_nil)))) ja_nil)))))))))
theorem ok__law_parts (T : Bt mg) {a__law_parts : Addr} {fd__law_parts : FuncData} (D__law_parts : Df K mg "_law_parts" s__law_parts a__law_parts fd__law_parts P__law_parts) {a__law_pick : Addr} {fd__law_pick : FuncData} (D__law_pick : Df K mg "_law_pick" s__law_pick a__law_pick fd__law_pick P__law_pick) (G__law_pick : FnOk P w K mg base (L2.CX P w) 3 a__law_pick fd__law_pick P__law_pick (spF K f__law_pick)) {a__law_slice : Addr} {fd__law_slice : FuncData} (D__law_slice : Df K mg "_law_slice" s__law_slice a__law_slice fd__law_slice P__law_slice) (G__law_slice : FnOk P w K mg base (L2.CX P w) 3 a__law_slice fd__law_slice P__law_slice (spF K f__law_slice)) {a__law_take : Addr} {fd__law_take : FuncData} (D__law_take : Df K mg "_law_take" s__law_take a__law_take fd__law_take P__law_take) (G__law_take : FnOk P w K mg base (L2.CX P w) 2 a__law_take fd__law_take P__law_take (spF K f__law_take)) {a__law_shuffled : Addr} {fd__law_shuffled : FuncData} (D__law_shuffled : Df K mg "_law_shuffled" s__law_shuffled a__law_shuffled fd__law_shuffled P__law_shuffled) (G__law_shuffled : FnOk P w K mg base (L2.CX P w) 3 a__law_shuffled fd__law_shuffled P__law_shuffled (spF K f__law_shuffled)) :
    FnOk P w K mg base (L2.CX P w) 4 a__law_parts fd__law_parts P__law_parts (spF K f__law_parts) :=
  fn_ok D__law_parts.F sc__law_parts fun cdv A outer s H E hr => by
    have tk : Takes (cxOf (L2.CX P w) P w K mg base N__law_parts "_law_parts" (defScope s__law_parts) a__law_parts cdv A outer s H E) (WD E) := takes_of rfl rfl rfl rfl
    have pw := passes_of (X := cxOf (L2.CX P w) P w K mg base N__law_parts "_law_parts" (defScope s__law_parts) a__law_parts cdv A outer s H E) rfl
    exact (jb_cons (js_set (i := 4) sc__law_parts.nd rfl (Or.inl rfl) (je_lstL (ja_cons je_str (ja_cons (je_v 2) (ja_cons (je_slice sl_any sp_sl (je_op op_addD sp_add (je_v 2) (je_call G__law_pick (hr.mono (by decide)) (by rfl) D__law_pick.g D__law_pick.k D__law_pick.b tk (ja_cons (je_v 0) (ja_cons (je_v 1) ja_nil)))) jo_none (jo_some je_int)) (ja_cons (je_call G__law_slice (hr.mono (by decide)) (by rfl) D__law_slice.g D__law_slice.k D__law_slice.b tk (ja_cons (je_v 0) (ja_cons (je_v 2) ja_nil))) (ja_cons (je_call G__law_slice (hr.mono (by decide)) (by rfl) D__law_slice.g D__law_slice.k D__law_slice.b tk (ja_cons (je_v 0) (ja_cons (je_v 3) ja_nil))) ja_nil)))))))
    (jb_cons (js_set (i := 5) sc__law_parts.nd rfl (Or.inl rfl) (je_call G__law_slice (hr.mono (by decide)) (by rfl) D__law_slice.g D__law_slice.k D__law_slice.b tk (ja_cons (je_v 0) (ja_cons (je_v 2) ja_nil))))
    (jb_cons (js_expr (je_bm PySem.F.plainAttrs_list PySem.F.slot_list_append PySem.F.type_list_append mt_append ms_append (je_v 4) (ja_cons (je_op op_addD sp_add (je_slice sl_any sp_sl (je_v 5) jo_none (jo_some (je_un un_neg sp_neg je_int))) (je_call G__law_pick (hr.mono (by decide)) (by rfl) D__law_pick.g D__law_pick.k D__law_pick.b tk (ja_cons (je_v 0) (ja_cons (je_v 1) ja_nil)))) ja_nil)))
    (jb_cons (js_expr (je_bm PySem.F.plainAttrs_list PySem.F.slot_list_append PySem.F.type_list_append mt_append ms_append (je_v 4) (ja_cons (je_bm PySem.F.plainAttrs_str PySem.F.slot_str_join PySem.F.type_str_join mt_join ms_join je_str (ja_cons (je_lc (own := [("k", 6)]) rfl sc__law_parts.nd (piI (pi_range1 (by rfl) T.z_range (ja_cons (je_op op_addD sp_add je_int (je_call G__law_take (hr.mono (by decide)) (by rfl) D__law_take.g D__law_take.k D__law_take.b tk (ja_cons (je_v 0) (ja_cons je_int ja_nil)))) ja_nil)) t_rng1) (blkOk_by (own := [("k", 6)]) (N := N__law_parts) (sc := defScope s__law_parts) (by decide +kernel)) (fun _ _ _ _ _ => (pg_name (i := 6) sc__law_parts.nd rfl (Or.inl rfl))) (gt_name (by decide)) (fun _ _ _ _ _ => jts_nil) (fun _ _ _ _ _ => (je_call G__law_pick (hr.mono (by decide)) (by rfl) D__law_pick.g D__law_pick.k D__law_pick.b takes0 (ja_cons (je_v 0) (ja_cons (je_v 1) ja_nil))))) ja_nil)) ja_nil)))
    (jb_one (js_ret (je_frz (je_call G__law_shuffled (hr.mono (by decide)) (by rfl) D__law_shuffled.g D__law_shuffled.k D__law_shuffled.b tk (ja_cons (je_v 0) (ja_cons (je_v 4) ja_nil))))))))))
theorem ok_law (T : Bt mg) {a_law : Addr} {fd_law : FuncData} (D_law : Df K mg "law" s_law a_law fd_law P_law) {a__law_draws : Addr} {fd__law_draws : FuncData} (D__law_draws : Df K mg "_law_draws" s__law_draws a__law_draws fd__law_draws P__law_draws) (G__law_draws : FnOk P w K mg base (L2.CX P w) 1 a__law_draws fd__law_draws P__law_draws (spF K f__law_draws)) {a__law_menu : Addr} {fd__law_menu : FuncData} (D__law_menu : Df K mg "_law_menu" s__law_menu a__law_menu fd__law_menu P__law_menu) (G__law_menu : FnOk P w K mg base (L2.CX P w) 4 a__law_menu fd__law_menu P__law_menu (spF K f__law_menu)) {a__law_text : Addr} {fd__law_text : FuncData} (D__law_text : Df K mg "_law_text" s__law_text a__law_text fd__law_text P__law_text) (G__law_text : FnOk P w K mg base (L2.CX P w) 5 a__law_text fd__law_text P__law_text (spF K f__law_text)) {a__law_parts : Addr} {fd__law_parts : FuncData} (D__law_parts : Df K mg "_law_parts" s__law_parts a__law_parts fd__law_parts P__law_parts) (G__law_parts : FnOk P w K mg base (L2.CX P w) 4 a__law_parts fd__law_parts P__law_parts (spF K f__law_parts)) {a__law_found : Addr} {fd__law_found : FuncData} (D__law_found : Df K mg "_law_found" s__law_found a__law_found fd__law_found P__law_found) (G__law_found : FnOk P w K mg base (L2.CX P w) 1 a__law_found fd__law_found P__law_found (spF K f__law_found)) {a_places_of : Addr} {fd_places_of : FuncData} (D_places_of : Df K mg "places_of" s_places_of a_places_of fd_places_of P_places_of) (G_places_of : FnOk P w K mg base (L2.CX P w) 2 a_places_of fd_places_of P_places_of (spF K f_places_of)) {a__law_same : Addr} {fd__law_same : FuncData} (D__law_same : Df K mg "_law_same" s__law_same a__law_same fd__law_same P__law_same) (G__law_same : FnOk P w K mg base (L2.CX P w) 8 a__law_same fd__law_same P__law_same (spF K (f__law_same 8))) :
    FnOk P w K mg base (L2.CX P w) 10 a_law fd_law P_law (spF K f_law) :=
  fn_ok D_law.F sc_law fun cdv A outer s H E hr => by
    have tk : Takes (cxOf (L2.CX P w) P w K mg base N_law "law" (defScope s_law) a_law cdv A outer s H E) (WD E) := takes_of rfl rfl rfl rfl
    have pw := passes_of (X := cxOf (L2.CX P w) P w K mg base N_law "law" (defScope s_law) a_law cdv A outer s H E) rfl
    exact (jb_cons (js_set (i := 1) sc_law.nd rfl (Or.inl rfl) (je_call G__law_draws (hr.mono (by decide)) (by rfl) D__law_draws.g D__law_draws.k D__law_draws.b tk (ja_cons (je_v 0) ja_nil)))
    (jb_cons (js_set (i := 2) sc_law.nd rfl (Or.inl rfl) (je_call G__law_menu (hr.mono (by decide)) (by rfl) D__law_menu.g D__law_menu.k D__law_menu.b tk (ja_cons (je_v 1) ja_nil)))
    (jb_cons (js_set (i := 3) sc_law.nd rfl (Or.inl rfl) (je_call G__law_text (hr.mono (by decide)) (by rfl) D__law_text.g D__law_text.k D__law_text.b tk (ja_cons (je_v 1) (ja_cons (je_v 2) ja_nil))))
    (jb_cons (js_set (i := 4) sc_law.nd rfl (Or.inl rfl) (je_call G__law_text (hr.mono (by decide)) (by rfl) D__law_text.g D__law_text.k D__law_text.b tk (ja_cons (je_v 1) (ja_cons (je_v 2) ja_nil))))
    (jb_cons (js_for (vs := [5]) pw rfl (ji_any (je_call G__law_parts (hr.mono (by decide)) (by rfl) D__law_parts.g D__law_parts.k D__law_parts.b tk (ja_cons (je_v 1) (ja_cons (je_v 2) (ja_cons (je_v 3) (ja_cons (je_v 4) ja_nil)))))) (pg_name (i := 5) sc_law.nd rfl (Or.inl rfl)) (gt_name (by decide)) (jb_cons (js_set (i := 6) sc_law.nd rfl (Or.inl rfl) (je_frz (je_call G__law_found (hr.mono (by decide)) (by rfl) D__law_found.g D__law_found.k D__law_found.b tk (ja_cons (je_v 5) (ja_cons (je_v 3) ja_nil)))))
    (jb_cons (js_set (i := 7) sc_law.nd rfl (Or.inl rfl) (je_frz (je_call G__law_found (hr.mono (by decide)) (by rfl) D__law_found.g D__law_found.k D__law_found.b tk (ja_cons (je_v 5) (ja_cons (je_v 4) ja_nil)))))
    (jb_cons (js_set (i := 8) sc_law.nd rfl (Or.inl rfl) (je_call G_places_of (hr.mono (by decide)) (by rfl) D_places_of.g D_places_of.k D_places_of.b tk (ja_cons (je_v 5) (ja_cons (je_v 3) ja_nil))))
    (jb_cons (js_if (JW.jt (jw_or (jt_not (jt_val (je_call G__law_same (hr.mono (by decide)) (by rfl) D__law_same.g D__law_same.k D__law_same.b tk (ja_cons (je_v 8) (ja_cons (je_v 6) ja_nil))))) (jw_or1 (jt_not (jt_val (je_call G__law_same (hr.mono (by decide)) (by rfl) D__law_same.g D__law_same.k D__law_same.b tk (ja_cons (je_frz (je_call G_places_of (hr.mono (by decide)) (by rfl) D_places_of.g D_places_of.k D_places_of.b tk (ja_cons (je_v 5) (ja_cons (je_v 4) ja_nil)))) (ja_cons (je_v 7) ja_nil)))))))) (jb_one (js_ret je_bl)) jb_nil)
    (jb_cons (js_expr (je_bm PySem.F.plainAttrs_list PySem.F.slot_list_append PySem.F.type_list_append mt_append ms_append (je_v 8) (ja_cons (je_un un_neg sp_neg je_int) ja_nil)))
    (jb_cons (js_sub set_list sp_set je_int (je_v 8) je_int)
    (jb_cons (js_if (jt_not (jt_val (je_call G__law_same (hr.mono (by decide)) (by rfl) D__law_same.g D__law_same.k D__law_same.b tk (ja_cons (je_frz (je_callK0 (ks := ["part", "word"]) (ix := [0, 1]) G_places_of (hr.mono (by decide)) (by rfl) D_places_of.g D_places_of.k (KB_places_of_0_1 D_places_of.F) tk (jk_cons (je_v 5) (jk_cons (je_v 3) jk_nil)))) (ja_cons (je_v 6) ja_nil))))) (jb_one (js_ret je_bl)) jb_nil)
    (jb_one (js_if (jt_not (jt_val (je_call G__law_same (hr.mono (by decide)) (by rfl) D__law_same.g D__law_same.k D__law_same.b tk (ja_cons (je_frz (je_callK0 (ks := ["word", "part"]) (ix := [1, 0]) G_places_of (hr.mono (by decide)) (by rfl) D_places_of.g D_places_of.k (KB_places_of_1_0 D_places_of.F) tk (jk_cons (je_v 4) (jk_cons (je_v 5) jk_nil)))) (ja_cons (je_v 7) ja_nil))))) (jb_one (js_ret je_bl)) jb_nil))))))))))
    (jb_cons (js_if (jt_not (jt_val (je_call G__law_same (hr.mono (by decide)) (by rfl) D__law_same.g D__law_same.k D__law_same.b tk (ja_cons (je_frz (je_call G_places_of (hr.mono (by decide)) (by rfl) D_places_of.g D_places_of.k D_places_of.b tk (ja_cons (je_v 3) (ja_cons je_str ja_nil)))) (ja_cons (je_frz (je_call G__law_found (hr.mono (by decide)) (by rfl) D__law_found.g D__law_found.k D__law_found.b tk (ja_cons (je_v 3) (ja_cons je_str ja_nil)))) ja_nil))))) (jb_one (js_ret je_bl)) jb_nil)
    (jb_one (js_ret (je_call G__law_same (hr.mono (by decide)) (by rfl) D__law_same.g D__law_same.k D__law_same.b tk (ja_cons (je_frz (je_call G_places_of (hr.mono (by decide)) (by rfl) D_places_of.g D_places_of.k D_places_of.b tk (ja_cons je_str (ja_cons je_str ja_nil)))) (ja_cons (je_lst (ja_cons je_int ja_nil)) ja_nil)))))))))))
end
/-! what the top has left -/
theorem all_mk {l : PySem.W.OpenLaw} {w : World} {K : PySem.W.Frag} {h : Heap} {mg : Str → Option Value} {fa : Addr} (X : K.In h) (G : h.Ns mainGlobals mg) (hfa : mg "law" = some (.ref fa))
    {od_stands_at an_stands_at : Option Addr} {sl_stands_at : Array (Option Value)} {oc_stands_at kV_stands_at dc_stands_at pm_stands_at cd_stands_at ct_stands_at : Value} {a_stands_at : Addr}
    (a0 : PySem.W.nsIn K mainGlobals "stands_at" = some (some (.ref a_stands_at))) (l0 : K.lookup a_stands_at = some ⟨oc_stands_at, od_stands_at, .func (PySem.W.fnOf "stands_at" "stands_at" (defArgs s_stands_at) (defBody s_stands_at) (defScope s_stands_at) .none kV_stands_at dc_stands_at pm_stands_at an_stands_at cd_stands_at ct_stands_at), sl_stands_at⟩) (c0 : PySem.W.codeIn K cd_stands_at "stands_at" = true) (k0 : PySem.W.keepIn K (.ref a_stands_at) = true)
    {od_places_of an_places_of : Option Addr} {sl_places_of : Array (Option Value)} {oc_places_of kV_places_of dc_places_of pm_places_of cd_places_of ct_places_of : Value} {a_places_of : Addr}
    (a1 : PySem.W.nsIn K mainGlobals "places_of" = some (some (.ref a_places_of))) (l1 : K.lookup a_places_of = some ⟨oc_places_of, od_places_of, .func (PySem.W.fnOf "places_of" "places_of" (defArgs s_places_of) (defBody s_places_of) (defScope s_places_of) .none kV_places_of dc_places_of pm_places_of an_places_of cd_places_of ct_places_of), sl_places_of⟩) (c1 : PySem.W.codeIn K cd_places_of "places_of" = true) (k1 : PySem.W.keepIn K (.ref a_places_of) = true)
    {od__law_draws an__law_draws : Option Addr} {sl__law_draws : Array (Option Value)} {oc__law_draws kV__law_draws dc__law_draws pm__law_draws cd__law_draws ct__law_draws : Value} {a__law_draws : Addr}
    (a2 : PySem.W.nsIn K mainGlobals "_law_draws" = some (some (.ref a__law_draws))) (l2 : K.lookup a__law_draws = some ⟨oc__law_draws, od__law_draws, .func (PySem.W.fnOf "_law_draws" "_law_draws" (defArgs s__law_draws) (defBody s__law_draws) (defScope s__law_draws) .none kV__law_draws dc__law_draws pm__law_draws an__law_draws cd__law_draws ct__law_draws), sl__law_draws⟩) (c2 : PySem.W.codeIn K cd__law_draws "_law_draws" = true) (k2 : PySem.W.keepIn K (.ref a__law_draws) = true)
    {od__law_mixed an__law_mixed : Option Addr} {sl__law_mixed : Array (Option Value)} {oc__law_mixed kV__law_mixed dc__law_mixed pm__law_mixed cd__law_mixed ct__law_mixed : Value} {a__law_mixed : Addr}
    (a3 : PySem.W.nsIn K mainGlobals "_law_mixed" = some (some (.ref a__law_mixed))) (l3 : K.lookup a__law_mixed = some ⟨oc__law_mixed, od__law_mixed, .func (PySem.W.fnOf "_law_mixed" "_law_mixed" (defArgs s__law_mixed) (defBody s__law_mixed) (defScope s__law_mixed) .none kV__law_mixed dc__law_mixed pm__law_mixed an__law_mixed cd__law_mixed ct__law_mixed), sl__law_mixed⟩) (c3 : PySem.W.codeIn K cd__law_mixed "_law_mixed" = true) (k3 : PySem.W.keepIn K (.ref a__law_mixed) = true)
    {od__law_take an__law_take : Option Addr} {sl__law_take : Array (Option Value)} {oc__law_take kV__law_take dc__law_take pm__law_take cd__law_take ct__law_take : Value} {a__law_take : Addr}
    (a4 : PySem.W.nsIn K mainGlobals "_law_take" = some (some (.ref a__law_take))) (l4 : K.lookup a__law_take = some ⟨oc__law_take, od__law_take, .func (PySem.W.fnOf "_law_take" "_law_take" (defArgs s__law_take) (defBody s__law_take) (defScope s__law_take) .none kV__law_take dc__law_take pm__law_take an__law_take cd__law_take ct__law_take), sl__law_take⟩) (c4 : PySem.W.codeIn K cd__law_take "_law_take" = true) (k4 : PySem.W.keepIn K (.ref a__law_take) = true)
    {od__law_span an__law_span : Option Addr} {sl__law_span : Array (Option Value)} {oc__law_span kV__law_span dc__law_span pm__law_span cd__law_span ct__law_span : Value} {a__law_span : Addr}
    (a5 : PySem.W.nsIn K mainGlobals "_law_span" = some (some (.ref a__law_span))) (l5 : K.lookup a__law_span = some ⟨oc__law_span, od__law_span, .func (PySem.W.fnOf "_law_span" "_law_span" (defArgs s__law_span) (defBody s__law_span) (defScope s__law_span) .none kV__law_span dc__law_span pm__law_span an__law_span cd__law_span ct__law_span), sl__law_span⟩) (c5 : PySem.W.codeIn K cd__law_span "_law_span" = true) (k5 : PySem.W.keepIn K (.ref a__law_span) = true)
    {od__law_rare an__law_rare : Option Addr} {sl__law_rare : Array (Option Value)} {oc__law_rare kV__law_rare dc__law_rare pm__law_rare cd__law_rare ct__law_rare : Value} {a__law_rare : Addr}
    (a6 : PySem.W.nsIn K mainGlobals "_law_rare" = some (some (.ref a__law_rare))) (l6 : K.lookup a__law_rare = some ⟨oc__law_rare, od__law_rare, .func (PySem.W.fnOf "_law_rare" "_law_rare" (defArgs s__law_rare) (defBody s__law_rare) (defScope s__law_rare) .none kV__law_rare dc__law_rare pm__law_rare an__law_rare cd__law_rare ct__law_rare), sl__law_rare⟩) (c6 : PySem.W.codeIn K cd__law_rare "_law_rare" = true) (k6 : PySem.W.keepIn K (.ref a__law_rare) = true)
    {od__law_pick an__law_pick : Option Addr} {sl__law_pick : Array (Option Value)} {oc__law_pick kV__law_pick dc__law_pick pm__law_pick cd__law_pick ct__law_pick : Value} {a__law_pick : Addr}
    (a7 : PySem.W.nsIn K mainGlobals "_law_pick" = some (some (.ref a__law_pick))) (l7 : K.lookup a__law_pick = some ⟨oc__law_pick, od__law_pick, .func (PySem.W.fnOf "_law_pick" "_law_pick" (defArgs s__law_pick) (defBody s__law_pick) (defScope s__law_pick) .none kV__law_pick dc__law_pick pm__law_pick an__law_pick cd__law_pick ct__law_pick), sl__law_pick⟩) (c7 : PySem.W.codeIn K cd__law_pick "_law_pick" = true) (k7 : PySem.W.keepIn K (.ref a__law_pick) = true)
    {od__law_in_range an__law_in_range : Option Addr} {sl__law_in_range : Array (Option Value)} {oc__law_in_range kV__law_in_range dc__law_in_range pm__law_in_range cd__law_in_range ct__law_in_range : Value} {a__law_in_range : Addr}
    (a8 : PySem.W.nsIn K mainGlobals "_law_in_range" = some (some (.ref a__law_in_range))) (l8 : K.lookup a__law_in_range = some ⟨oc__law_in_range, od__law_in_range, .func (PySem.W.fnOf "_law_in_range" "_law_in_range" (defArgs s__law_in_range) (defBody s__law_in_range) (defScope s__law_in_range) .none kV__law_in_range dc__law_in_range pm__law_in_range an__law_in_range cd__law_in_range ct__law_in_range), sl__law_in_range⟩) (c8 : PySem.W.codeIn K cd__law_in_range "_law_in_range" = true) (k8 : PySem.W.keepIn K (.ref a__law_in_range) = true)
    {od__law_shuffled an__law_shuffled : Option Addr} {sl__law_shuffled : Array (Option Value)} {oc__law_shuffled kV__law_shuffled dc__law_shuffled pm__law_shuffled cd__law_shuffled ct__law_shuffled : Value} {a__law_shuffled : Addr}
    (a9 : PySem.W.nsIn K mainGlobals "_law_shuffled" = some (some (.ref a__law_shuffled))) (l9 : K.lookup a__law_shuffled = some ⟨oc__law_shuffled, od__law_shuffled, .func (PySem.W.fnOf "_law_shuffled" "_law_shuffled" (defArgs s__law_shuffled) (defBody s__law_shuffled) (defScope s__law_shuffled) .none kV__law_shuffled dc__law_shuffled pm__law_shuffled an__law_shuffled cd__law_shuffled ct__law_shuffled), sl__law_shuffled⟩) (c9 : PySem.W.codeIn K cd__law_shuffled "_law_shuffled" = true) (k9 : PySem.W.keepIn K (.ref a__law_shuffled) = true)
    {od__law_same an__law_same : Option Addr} {sl__law_same : Array (Option Value)} {oc__law_same kV__law_same dc__law_same pm__law_same cd__law_same ct__law_same : Value} {a__law_same : Addr}
    (a10 : PySem.W.nsIn K mainGlobals "_law_same" = some (some (.ref a__law_same))) (l10 : K.lookup a__law_same = some ⟨oc__law_same, od__law_same, .func (PySem.W.fnOf "_law_same" "_law_same" (defArgs s__law_same) (defBody s__law_same) (defScope s__law_same) .none kV__law_same dc__law_same pm__law_same an__law_same cd__law_same ct__law_same), sl__law_same⟩) (c10 : PySem.W.codeIn K cd__law_same "_law_same" = true) (k10 : PySem.W.keepIn K (.ref a__law_same) = true)
    {od__law_found an__law_found : Option Addr} {sl__law_found : Array (Option Value)} {oc__law_found kV__law_found dc__law_found pm__law_found cd__law_found ct__law_found : Value} {a__law_found : Addr}
    (a11 : PySem.W.nsIn K mainGlobals "_law_found" = some (some (.ref a__law_found))) (l11 : K.lookup a__law_found = some ⟨oc__law_found, od__law_found, .func (PySem.W.fnOf "_law_found" "_law_found" (defArgs s__law_found) (defBody s__law_found) (defScope s__law_found) .none kV__law_found dc__law_found pm__law_found an__law_found cd__law_found ct__law_found), sl__law_found⟩) (c11 : PySem.W.codeIn K cd__law_found "_law_found" = true) (k11 : PySem.W.keepIn K (.ref a__law_found) = true)
    {od__law_menu an__law_menu : Option Addr} {sl__law_menu : Array (Option Value)} {oc__law_menu kV__law_menu dc__law_menu pm__law_menu cd__law_menu ct__law_menu : Value} {a__law_menu : Addr}
    (a12 : PySem.W.nsIn K mainGlobals "_law_menu" = some (some (.ref a__law_menu))) (l12 : K.lookup a__law_menu = some ⟨oc__law_menu, od__law_menu, .func (PySem.W.fnOf "_law_menu" "_law_menu" (defArgs s__law_menu) (defBody s__law_menu) (defScope s__law_menu) .none kV__law_menu dc__law_menu pm__law_menu an__law_menu cd__law_menu ct__law_menu), sl__law_menu⟩) (c12 : PySem.W.codeIn K cd__law_menu "_law_menu" = true) (k12 : PySem.W.keepIn K (.ref a__law_menu) = true)
    {od__law_text an__law_text : Option Addr} {sl__law_text : Array (Option Value)} {oc__law_text kV__law_text dc__law_text pm__law_text cd__law_text ct__law_text : Value} {a__law_text : Addr}
    (a13 : PySem.W.nsIn K mainGlobals "_law_text" = some (some (.ref a__law_text))) (l13 : K.lookup a__law_text = some ⟨oc__law_text, od__law_text, .func (PySem.W.fnOf "_law_text" "_law_text" (defArgs s__law_text) (defBody s__law_text) (defScope s__law_text) .none kV__law_text dc__law_text pm__law_text an__law_text cd__law_text ct__law_text), sl__law_text⟩) (c13 : PySem.W.codeIn K cd__law_text "_law_text" = true) (k13 : PySem.W.keepIn K (.ref a__law_text) = true)
    {od__law_slice an__law_slice : Option Addr} {sl__law_slice : Array (Option Value)} {oc__law_slice kV__law_slice dc__law_slice pm__law_slice cd__law_slice ct__law_slice : Value} {a__law_slice : Addr}
    (a14 : PySem.W.nsIn K mainGlobals "_law_slice" = some (some (.ref a__law_slice))) (l14 : K.lookup a__law_slice = some ⟨oc__law_slice, od__law_slice, .func (PySem.W.fnOf "_law_slice" "_law_slice" (defArgs s__law_slice) (defBody s__law_slice) (defScope s__law_slice) .none kV__law_slice dc__law_slice pm__law_slice an__law_slice cd__law_slice ct__law_slice), sl__law_slice⟩) (c14 : PySem.W.codeIn K cd__law_slice "_law_slice" = true) (k14 : PySem.W.keepIn K (.ref a__law_slice) = true)
    {od__law_parts an__law_parts : Option Addr} {sl__law_parts : Array (Option Value)} {oc__law_parts kV__law_parts dc__law_parts pm__law_parts cd__law_parts ct__law_parts : Value} {a__law_parts : Addr}
    (a15 : PySem.W.nsIn K mainGlobals "_law_parts" = some (some (.ref a__law_parts))) (l15 : K.lookup a__law_parts = some ⟨oc__law_parts, od__law_parts, .func (PySem.W.fnOf "_law_parts" "_law_parts" (defArgs s__law_parts) (defBody s__law_parts) (defScope s__law_parts) .none kV__law_parts dc__law_parts pm__law_parts an__law_parts cd__law_parts ct__law_parts), sl__law_parts⟩) (c15 : PySem.W.codeIn K cd__law_parts "_law_parts" = true) (k15 : PySem.W.keepIn K (.ref a__law_parts) = true)
    {od_law an_law : Option Addr} {sl_law : Array (Option Value)} {oc_law kV_law dc_law pm_law cd_law ct_law : Value} {a_law : Addr}
    (a16 : PySem.W.nsIn K mainGlobals "law" = some (some (.ref a_law))) (l16 : K.lookup a_law = some ⟨oc_law, od_law, .func (PySem.W.fnOf "law" "law" (defArgs s_law) (defBody s_law) (defScope s_law) .none kV_law dc_law pm_law an_law cd_law ct_law), sl_law⟩) (c16 : PySem.W.codeIn K cd_law "law" = true) (k16 : PySem.W.keepIn K (.ref a_law) = true)
    (z_abs : PySem.W.nsIn K mainGlobals "abs" = some none)
    (z_bool : PySem.W.nsIn K mainGlobals "bool" = some none)
    (z_int : PySem.W.nsIn K mainGlobals "int" = some none)
    (z_isinstance : PySem.W.nsIn K mainGlobals "isinstance" = some none)
    (z_len : PySem.W.nsIn K mainGlobals "len" = some none)
    (z_list : PySem.W.nsIn K mainGlobals "list" = some none)
    (z_min : PySem.W.nsIn K mainGlobals "min" = some none)
    (z_range : PySem.W.nsIn K mainGlobals "range" = some none)
    (z_str : PySem.W.nsIn K mainGlobals "str" = some none)
    (z_tuple : PySem.W.nsIn K mainGlobals "tuple" = some none) :
    ∃ fd : FuncData, (∀ (s : Shared) (v : Value), BindsTo s fd ⟨[v], []⟩ [("script", v)]) ∧ ∀ base : Heap, K.In base → base.Ns mainGlobals mg → FnOk l.prog w K mg base (L2.CX l.prog w) 10 fa fd ["script"] (spF K f_law) := by
  have e := hfa.symm.trans (PySem.W.mg_of X G a16)
  obtain rfl : fa = a_law := by
    cases e
    rfl
  have T : Bt mg := ⟨PySem.W.mg_none_of X G z_abs, PySem.W.mg_none_of X G z_bool, PySem.W.mg_none_of X G z_int, PySem.W.mg_none_of X G z_isinstance, PySem.W.mg_none_of X G z_len, PySem.W.mg_none_of X G z_list, PySem.W.mg_none_of X G z_min, PySem.W.mg_none_of X G z_range, PySem.W.mg_none_of X G z_str, PySem.W.mg_none_of X G z_tuple⟩
  have F0 := fun_mk (st := s_stands_at) l0 c0 k0
  have D_stands_at : Df K mg "stands_at" s_stands_at a_stands_at _ P_stands_at := ⟨F0, PySem.W.mg_of X G a0, k0, F0.binds (ps := P_stands_at) fun _ _ _ _ _ _ us hl => match us, hl with | [_, _, _], _ => rfl⟩
  have F1 := fun_mk (st := s_places_of) l1 c1 k1
  have D_places_of : Df K mg "places_of" s_places_of a_places_of _ P_places_of := ⟨F1, PySem.W.mg_of X G a1, k1, F1.binds (ps := P_places_of) fun _ _ _ _ _ _ us hl => match us, hl with | [_, _], _ => rfl⟩
  have F2 := fun_mk (st := s__law_draws) l2 c2 k2
  have D__law_draws : Df K mg "_law_draws" s__law_draws a__law_draws _ P__law_draws := ⟨F2, PySem.W.mg_of X G a2, k2, F2.binds (ps := P__law_draws) fun _ _ _ _ _ _ us hl => match us, hl with | [_], _ => rfl⟩
  have F3 := fun_mk (st := s__law_mixed) l3 c3 k3
  have D__law_mixed : Df K mg "_law_mixed" s__law_mixed a__law_mixed _ P__law_mixed := ⟨F3, PySem.W.mg_of X G a3, k3, F3.binds (ps := P__law_mixed) fun _ _ _ _ _ _ us hl => match us, hl with | [_, _], _ => rfl⟩
  have F4 := fun_mk (st := s__law_take) l4 c4 k4
  have D__law_take : Df K mg "_law_take" s__law_take a__law_take _ P__law_take := ⟨F4, PySem.W.mg_of X G a4, k4, F4.binds (ps := P__law_take) fun _ _ _ _ _ _ us hl => match us, hl with | [_, _], _ => rfl⟩
  have F5 := fun_mk (st := s__law_span) l5 c5 k5
  have D__law_span : Df K mg "_law_span" s__law_span a__law_span _ P__law_span := ⟨F5, PySem.W.mg_of X G a5, k5, F5.binds (ps := P__law_span) fun _ _ _ _ _ _ us hl => match us, hl with | [_, _, _], _ => rfl⟩
  have F6 := fun_mk (st := s__law_rare) l6 c6 k6
  have D__law_rare : Df K mg "_law_rare" s__law_rare a__law_rare _ P__law_rare := ⟨F6, PySem.W.mg_of X G a6, k6, F6.binds (ps := P__law_rare) fun _ _ _ _ _ _ us hl => match us, hl with | [_, _], _ => rfl⟩
  have F7 := fun_mk (st := s__law_pick) l7 c7 k7
  have D__law_pick : Df K mg "_law_pick" s__law_pick a__law_pick _ P__law_pick := ⟨F7, PySem.W.mg_of X G a7, k7, F7.binds (ps := P__law_pick) fun _ _ _ _ _ _ us hl => match us, hl with | [_, _], _ => rfl⟩
  have F8 := fun_mk (st := s__law_in_range) l8 c8 k8
  have D__law_in_range : Df K mg "_law_in_range" s__law_in_range a__law_in_range _ P__law_in_range := ⟨F8, PySem.W.mg_of X G a8, k8, F8.binds (ps := P__law_in_range) fun _ _ _ _ _ _ us hl => match us, hl with | [_, _, _], _ => rfl⟩
  have F9 := fun_mk (st := s__law_shuffled) l9 c9 k9
  have D__law_shuffled : Df K mg "_law_shuffled" s__law_shuffled a__law_shuffled _ P__law_shuffled := ⟨F9, PySem.W.mg_of X G a9, k9, F9.binds (ps := P__law_shuffled) fun _ _ _ _ _ _ us hl => match us, hl with | [_, _], _ => rfl⟩
  have F10 := fun_mk (st := s__law_same) l10 c10 k10
  have D__law_same : Df K mg "_law_same" s__law_same a__law_same _ P__law_same := ⟨F10, PySem.W.mg_of X G a10, k10, F10.binds (ps := P__law_same) fun _ _ _ _ _ _ us hl => match us, hl with | [_, _], _ => rfl⟩
  have F11 := fun_mk (st := s__law_found) l11 c11 k11
  have D__law_found : Df K mg "_law_found" s__law_found a__law_found _ P__law_found := ⟨F11, PySem.W.mg_of X G a11, k11, F11.binds (ps := P__law_found) fun _ _ _ _ _ _ us hl => match us, hl with | [_, _], _ => rfl⟩
  have F12 := fun_mk (st := s__law_menu) l12 c12 k12
  have D__law_menu : Df K mg "_law_menu" s__law_menu a__law_menu _ P__law_menu := ⟨F12, PySem.W.mg_of X G a12, k12, F12.binds (ps := P__law_menu) fun _ _ _ _ _ _ us hl => match us, hl with | [_], _ => rfl⟩
  have F13 := fun_mk (st := s__law_text) l13 c13 k13
  have D__law_text : Df K mg "_law_text" s__law_text a__law_text _ P__law_text := ⟨F13, PySem.W.mg_of X G a13, k13, F13.binds (ps := P__law_text) fun _ _ _ _ _ _ us hl => match us, hl with | [_, _], _ => rfl⟩
  have F14 := fun_mk (st := s__law_slice) l14 c14 k14
  have D__law_slice : Df K mg "_law_slice" s__law_slice a__law_slice _ P__law_slice := ⟨F14, PySem.W.mg_of X G a14, k14, F14.binds (ps := P__law_slice) fun _ _ _ _ _ _ us hl => match us, hl with | [_, _], _ => rfl⟩
  have F15 := fun_mk (st := s__law_parts) l15 c15 k15
  have D__law_parts : Df K mg "_law_parts" s__law_parts a__law_parts _ P__law_parts := ⟨F15, PySem.W.mg_of X G a15, k15, F15.binds (ps := P__law_parts) fun _ _ _ _ _ _ us hl => match us, hl with | [_, _, _, _], _ => rfl⟩
  have F16 := fun_mk (st := s_law) l16 c16 k16
  have D_law : Df K mg "law" s_law fa _ P_law := ⟨F16, PySem.W.mg_of X G a16, k16, F16.binds (ps := P_law) fun _ _ _ _ _ _ us hl => match us, hl with | [_], _ => rfl⟩
  refine ⟨PySem.W.fnOf "law" "law" (defArgs s_law) (defBody s_law) (defScope s_law) .none kV_law dc_law pm_law an_law cd_law ct_law, fun s v => .of_eq rfl, fun base _ _ => ?_⟩
  have G_stands_at := ok_stands_at (P := l.prog) (w := w) (base := base) T D_stands_at 
  have G_places_of := ok_places_of (P := l.prog) (w := w) (base := base) T D_places_of D_stands_at G_stands_at
  have G__law_draws := ok__law_draws (P := l.prog) (w := w) (base := base) T D__law_draws 
  have G__law_mixed := ok__law_mixed (P := l.prog) (w := w) (base := base) T D__law_mixed 
  have G__law_take := ok__law_take (P := l.prog) (w := w) (base := base) T D__law_take D__law_mixed G__law_mixed
  have G__law_span := ok__law_span (P := l.prog) (w := w) (base := base) T D__law_span D__law_take G__law_take
  have G__law_rare := ok__law_rare (P := l.prog) (w := w) (base := base) T D__law_rare D__law_take G__law_take
  have G__law_pick := ok__law_pick (P := l.prog) (w := w) (base := base) T D__law_pick D__law_take G__law_take
  have G__law_in_range := ok__law_in_range (P := l.prog) (w := w) (base := base) T D__law_in_range D__law_take G__law_take D__law_pick G__law_pick D__law_span G__law_span
  have G__law_shuffled := ok__law_shuffled (P := l.prog) (w := w) (base := base) T D__law_shuffled D__law_take G__law_take
  have G__law_same := ok__law_same (P := l.prog) (w := w) (base := base) T D__law_same  8
  have G__law_found := ok__law_found (P := l.prog) (w := w) (base := base) T D__law_found 
  have G__law_menu := ok__law_menu (P := l.prog) (w := w) (base := base) T D__law_menu D__law_take G__law_take D__law_pick G__law_pick
  have G__law_text := ok__law_text (P := l.prog) (w := w) (base := base) T D__law_text D__law_rare G__law_rare D__law_take G__law_take D__law_pick G__law_pick D__law_in_range G__law_in_range
  have G__law_slice := ok__law_slice (P := l.prog) (w := w) (base := base) T D__law_slice D__law_take G__law_take
  have G__law_parts := ok__law_parts (P := l.prog) (w := w) (base := base) T D__law_parts D__law_pick G__law_pick D__law_slice G__law_slice D__law_take G__law_take D__law_shuffled G__law_shuffled
  have G_law := ok_law (P := l.prog) (w := w) (base := base) T D_law D__law_draws G__law_draws D__law_menu G__law_menu D__law_text G__law_text D__law_parts G__law_parts D__law_found G__law_found D_places_of G_places_of D__law_same G__law_same
  exact G_law
end K01
set_option Elab.async false
set_option linter.all false
set_option maxRecDepth 100000
set_option maxHeartbeats 1000000
namespace K01
open PySem Wf L2
local macro_rules | `(tactic| walk_at "ev") => `(tactic| simp only [e_seq, k_seqN, k_seqR, k_seqB, k_seqC, e_skip, e_brk, e_ct, e_if, k_ifT, k_ifF, e_ifE, k_ifET, k_ifEF, e_op, k_op, e_un, e_B, k_B, e_chain, k_ch1, k_ch2, k_ch3T, k_ch3F, e_not, k_not, e_and, k_andT, k_andF, e_or, k_orT, k_orF, e_andV, k_andVT, k_andVF, e_orV, k_orVT, k_orVF, e_notV, k_notV, e_nil, e_cons, k_cons, k_cons2, e_tup, e_lst, e_lstL, k_tup, k_lst, k_lstL, e_sl, k_sl1, k_sl2, k_sl3, e_noP, e_P, k_P, e_CB, e_BM, k_BM, e_call, k_call, e_callK, k_callK, e_asg, k_asgN, e_sub, k_sub1, k_sub2, k_sub3, e_expr, k_expr, e_ret, k_ret, b_for, e_for, k_for, e_while, e_it, k_itL, k_itT, k_itW, k_itS, e_rng1, e_rng2, k_rng1, k_rng2, k_lcTT, k_lcTF, k_lcE, e_lcF, e_yes, e_lc, e_lcL, k_lc1, k_lc2, k_done, k_doneL, e_frz, k_frz, k_frzL, e_C, e_V0, e_V1, e_V2, e_V3, e_V4, e_V5, e_V6, e_V7, e_V8, e_V9,
  o_addI, o_addS, o_addL, o_sub, o_mulI, o_mulS, o_mod, o_fdiv, o_pow, o_neg, o_ltI, o_ltS, o_leI, o_leS, o_gt, o_ge, o_eqI, o_eqS, o_eqB, o_neI, o_neS, o_isN, o_notN, o_slS, o_slL, o_lenS, o_lenL, o_lenT, o_int, o_abs, o_min, o_max, o_list, o_find3, t_str,
  R.bind_ok, Ok_ok, Ok_bind, Ok_note, Ok_calm, env0, List.length_cons, List.length_nil, List.map_cons, List.map_nil, List.replicate, List.cons_append, List.nil_append, List.set_cons_zero, List.set_cons_succ, Nat.reduceAdd, Nat.reduceSub, Nat.reduceLeDiff, Nat.reduceLT, Nat.zero_add, sz, wipeD, Bool.not_true, Bool.not_false, decide_true, decide_false, true_and, and_true, if_true, if_false, isNon, f_int, f_bl, f_str, f_non, f_nx, f_new, take_self, n_ok, c_ok, f_new0, take_lft, len_one, n_cons, n_nil, n_str, n_int, n_bl, n_lst, n_tup, of_empty, pick01, pick10, len_empty, s_setA1, Bool.and_self, Bool.true_and, Bool.and_true, len_app, t_last1, o_appendA1, o_lenA1, f_new1, k_frz1, t_last2, o_appendA2, o_lenA2, f_new2, k_frz2, k_frzS, k_frzI, k_frzT, List.length_map, ne_eq, not_false_eq_true, List.take_succ_cons, List.take_length, st_get0, st_get1, st_sub1, st_get2, st_sub2, st_get3, st_sub3, st_get4, st_sub4, st_get5, st_sub5, i_non_bool, i_non_int, i_non_str, i_non_tuple, i_non_list, i_bl_bool, i_bl_int, i_bl_str, i_bl_tuple, i_bl_list, i_int_bool, i_int_int, i_int_str, i_int_tuple, i_int_list, i_str_bool, i_str_int, i_str_str, i_str_tuple, i_str_list, i_lst_bool, i_lst_int, i_lst_str, i_lst_tuple, i_lst_list, i_tup_bool, i_tup_int, i_tup_str, i_tup_tuple, i_tup_list, t_last, o_appendA, o_lenA, Ok_finB, Ok_finF, Ok_finW, Int.toNat_natCast])
local macro_rules | `(tactic| walk_at "eva") => `(tactic| simp only [e_seq, k_seqN, k_seqR, k_seqB, k_seqC, e_skip, e_brk, e_ct, e_if, k_ifT, k_ifF, e_ifE, k_ifET, k_ifEF, e_op, k_op, e_un, e_B, k_B, e_chain, k_ch1, k_ch2, k_ch3T, k_ch3F, e_not, k_not, e_and, k_andT, k_andF, e_or, k_orT, k_orF, e_andV, k_andVT, k_andVF, e_orV, k_orVT, k_orVF, e_notV, k_notV, e_nil, e_cons, k_cons, k_cons2, e_tup, e_lst, e_lstL, k_tup, k_lst, k_lstL, e_sl, k_sl1, k_sl2, k_sl3, e_noP, e_P, k_P, e_CB, e_BM, k_BM, e_call, k_call, e_callK, k_callK, e_asg, k_asgN, e_sub, k_sub1, k_sub2, k_sub3, e_expr, k_expr, e_ret, k_ret, b_for, e_for, k_for, e_while, e_it, k_itL, k_itT, k_itW, k_itS, e_rng1, e_rng2, k_rng1, k_rng2, k_lcTT, k_lcTF, k_lcE, e_lcF, e_yes, e_lc, e_lcL, k_lc1, k_lc2, k_done, k_doneL, e_frz, k_frz, k_frzL, e_C, e_V0, e_V1, e_V2, e_V3, e_V4, e_V5, e_V6, e_V7, e_V8, e_V9,
  o_addI, o_addS, o_addL, o_sub, o_mulI, o_mulS, o_mod, o_fdiv, o_pow, o_neg, o_ltI, o_ltS, o_leI, o_leS, o_gt, o_ge, o_eqI, o_eqS, o_eqB, o_neI, o_neS, o_isN, o_notN, o_slS, o_slL, o_lenS, o_lenL, o_lenT, o_int, o_abs, o_min, o_max, o_list, o_find3, t_str,
  R.bind_ok, Ok_ok, Ok_bind, Ok_note, Ok_calm, env0, List.length_cons, List.length_nil, List.map_cons, List.map_nil, List.replicate, List.cons_append, List.nil_append, List.set_cons_zero, List.set_cons_succ, Nat.reduceAdd, Nat.reduceSub, Nat.reduceLeDiff, Nat.reduceLT, Nat.zero_add, sz, wipeD, Bool.not_true, Bool.not_false, decide_true, decide_false, true_and, and_true, if_true, if_false, isNon, f_int, f_bl, f_str, f_non, f_nx, f_new, take_self, n_ok, c_ok, f_new0, take_lft, len_one, n_cons, n_nil, n_str, n_int, n_bl, n_lst, n_tup, of_empty, pick01, pick10, len_empty, s_setA1, Bool.and_self, Bool.true_and, Bool.and_true, len_app, t_last1, o_appendA1, o_lenA1, f_new1, k_frz1, t_last2, o_appendA2, o_lenA2, f_new2, k_frz2, k_frzS, k_frzI, k_frzT, List.length_map, ne_eq, not_false_eq_true, List.take_succ_cons, List.take_length, st_get0, st_get1, st_sub1, st_get2, st_sub2, st_get3, st_sub3, st_get4, st_sub4, st_get5, st_sub5, i_non_bool, i_non_int, i_non_str, i_non_tuple, i_non_list, i_bl_bool, i_bl_int, i_bl_str, i_bl_tuple, i_bl_list, i_int_bool, i_int_int, i_int_str, i_int_tuple, i_int_list, i_str_bool, i_str_int, i_str_str, i_str_tuple, i_str_list, i_lst_bool, i_lst_int, i_lst_str, i_lst_tuple, i_lst_list, i_tup_bool, i_tup_int, i_tup_str, i_tup_tuple, i_tup_list, t_last, o_appendA, o_lenA, Ok_finB, Ok_finF, Ok_finW, Int.toNat_natCast, *])
theorem stands_eq (p w : Str) (i : Nat) (cs : List D) (hp : p.length ≤ 5001) (hw : w.length ≤ 5001) : f_stands_at [.str p, .str w, .int (i : Int)] cs = .ok (.bl (At w p i)) cs := by
  have h1 : p.length ≤ 16777216 := by omega
  have h2 : w.length ≤ 16777216 := by omega
  have h3 : decide ((0 : Int) ≤ (i : Int)) = true := decide_eq_true (by omega)
  unfold f_stands_at mDef m_stands_at
  by_cases h : i + p.length ≤ w.length
  · have h4 : decide ((i : Int) ≤ (w.length : Int) - (p.length : Int)) = true := decide_eq_true (by omega)
    walk_at "eva"
    rw [cut_at h]
  · have h4 : decide ((i : Int) ≤ (w.length : Int) - (p.length : Int)) = false := decide_eq_false (by omega)
    walk_at "eva"
    rw [At_no h]
def places (p w : Str) : List D := ((List.range (w.length + 1)).filter (At w p)).map fun k => .int (k : Nat)
theorem rng_eq (n : Nat) : rng 0 n = (List.range n).map fun k => D.int (k : Nat) := by
  unfold rng
  simp
theorem places_eq (p w : Str) (cs : List D) (hp : p.length ≤ 5001) (hw : w.length ≤ 5001) : f_places_of [.str p, .str w] cs = .ok (.ref cs.length) (cs ++ [.lst (places p w)]) := by
  have h2 : w.length ≤ 16777216 := by omega
  unfold f_places_of mDef m_places_of
  have h5 : -1000000000 ≤ ((w.length : Int) + 1) ∧ ((w.length : Int) + 1) < 1000000000 := by omega
  walk_at "eva"
  have hm : mapR (lcF (gtN 2) (mB (mCall f_stands_at (mCons (mV 0) (mCons (mV 1) (mCons (mV 2) mNil))))) (mV 2) [some (D.str p), some (D.str w), none]) (rng 0 ((w.length : Int) + 1).toNat) cs = .ok (places p w) cs := by
    have e : ((w.length : Int) + 1).toNat = w.length + 1 := by omega
    rw [e, rng_eq]
    rw [map_filter (p := fun d => match d with
      | .int k => At w p k.toNat
      | _ => false)]
    · unfold places
      rw [List.filter_map]
      rfl
    · intro d hd
      obtain ⟨k, _, rfl⟩ := List.mem_map.mp hd
      have hs := stands_eq p w k cs hp hw
      walk_at "eva"
      by_cases h : At w p k = true
      · simp only [h, if_true]
        walk_at "ev"
      · have h' : At w p k = false := Bool.eq_false_iff.mpr h
        simp only [h', Bool.false_eq_true, if_false]
        walk_at "ev"
  rw [hm]
  have hn : nrs (places p w) = true := by
    rw [nrs_all, List.all_eq_true]
    intro d hd
    obtain ⟨k, _, rfl⟩ := List.mem_map.mp hd
    rfl
  have hl : (places p w).length < 16777216 := by
    unfold places
    rw [List.length_map]
    have := List.length_filter_le (At w p) (List.range (w.length + 1))
    rw [List.length_range] at this
    omega
  walk_at "eva"
/-! ### searching on -/
theorem found_eq (p w : Str) (cs : List D) (hp : p.length ≤ 5001) (hw : w.length ≤ 5001) : f__law_found [.str p, .str w] cs = .ok (.ref cs.length) (cs ++ [.lst (places p w)]) := by
  have h2 : w.length ≤ 16777216 := by omega
  have h5 : -1000000000 ≤ ((w.length : Int) + 2) ∧ ((w.length : Int) + 2) < 1000000000 := by omega
  suffices h : Ok (f__law_found [.str p, .str w] cs) (fun d cs' => d = .ref cs.length ∧ cs' = cs ++ [.lst (places p w)]) by
    obtain ⟨d, cs', e, h1, h2⟩ := Ok_get h
    rw [e, h1, h2]
  unfold f__law_found mDef m__law_found
  have h6 : nrs ([] : List D) = true := rfl
  walk_at "eva"
  have e : ((w.length : Int) + 2).toNat = w.length + 2 := by omega
  rw [e]
  refine Ok_for (fun ds r cs' => ∃ (lo : Nat) (o : Option D), r = [some (.str p), some (.str w), some (.ref cs.length), some (.int ((lo : Int) - 1)), o] ∧ lo ≤ w.length + 1 ∧ w.length + 2 ≤ lo + ds.length ∧ cs' = cs ++ [.lst (((List.range lo).filter (At w p)).map fun k => .int (k : Nat))]) ?_ ?_ _ _ _ ⟨0, none, rfl, by omega, by unfold rng; simp, rfl⟩
  · rintro r cs' ⟨lo, o, rfl, h7, h8, rfl⟩
    simp at h8
    omega
  · rintro d ds r cs' ⟨lo, o, rfl, h7, h8, rfl⟩
    have e1 : ((lo : Int) - 1) + 1 = (lo : Int) := by omega
    walk_at "eva"
    rw [find3_eq]
    cases hf : (List.range' lo (w.length + 1 - lo)).find? (At w p) with
    | none =>
      have e2 : decide ((-1 : Int) < 0) = true := by decide
      walk_at "eva"
      congr 3
      unfold places
      rw [filter_rest h7 fun j h1 h2 => ?_]
      rw [List.find?_range'_eq_none] at hf
      have := hf j h1 (by omega)
      simpa using this
    | some k =>
      have e2 : decide ((k : Int) < 0) = false := decide_eq_false (by omega)
      have e3 : ((List.range lo).filter (At w p)).length < 16777216 ∧ nr (.int (k : Int)) = true ∧ nrs (((List.range lo).filter (At w p)).map fun k => D.int (k : Nat)) = true := by
        refine ⟨?_, rfl, nrs_map fun _ => rfl⟩
        have := List.length_filter_le (At w p) (List.range lo)
        rw [List.length_range] at this
        omega
      walk_at "eva"
      obtain ⟨hk, hr, hn⟩ := List.find?_range'_eq_some.mp hf
      obtain ⟨hk1, hk2⟩ := List.mem_range'_1.mp hr
      refine ⟨k + 1, some d, ?_, by omega, ?_, ?_⟩
      · have : ((k + 1 : Nat) : Int) - 1 = k := by omega
        rw [this]
      · rw [List.length_cons] at h8
        omega
      · rw [filter_step hk1 (fun j h1 h2 => by simpa using hn j h1 h2) hk]
        simp
/-! ### what is the same is told to be the same -/
theorem same_items {n : Nat} {told due : D} {l : List D} {cs : List D} {o : Option D} (h2 : l.length < 16777216) (ht : ∀ k d, l[k]? = some d → ixD told (.int (k : Nat)) cs = .ok d cs) (hd : ∀ k d, l[k]? = some d → ixD due (.int (k : Nat)) cs = .ok d cs)
    (ih : ∀ d ∈ l, f__law_same n [d, d] cs = .ok (.bl true) cs) (P : Fl → List D → Prop) (hP : ∀ o, P (.nx [some told, some due, o]) cs) :
    Ok (forR (bFor (gtN 2) (mIf (mNot (mB (mCall (f__law_same n) (mCons (mOp ixD (mV 0) (mV 2)) (mCons (mOp ixD (mV 1) (mV 2)) mNil))))) (mRet (mC (.bl false))) mSkip)) (rng 0 l.length) [some told, some due, o] cs) P := by
  refine Ok_for (fun ds r cs' => ∃ (k : Nat) (o : Option D), r = [some told, some due, o] ∧ cs' = cs ∧ k + ds.length = l.length ∧ ds = (List.range' k ds.length).map fun k => D.int (k : Nat)) ?_ ?_ _ _ _ ⟨0, o, rfl, rfl, by simp [rng], ?_⟩
  · rintro r cs' ⟨k, o, rfl, rfl, h3, h4⟩
    exact hP o
  · rintro d ds r cs' ⟨k, o, rfl, rfl, h3, h4⟩
    rw [List.length_cons] at h3 h4
    rw [List.range'_succ, List.map_cons] at h4
    obtain ⟨e1, e2⟩ := List.cons.inj h4
    subst e1
    obtain ⟨x, hx⟩ : ∃ x, l[k]? = some x := ⟨l[k]'(by omega), List.getElem?_eq_getElem (by omega)⟩
    have h5 := ht k x hx
    have h6 := hd k x hx
    have h7 := ih x (List.mem_of_getElem? hx)
    clear h4 ih ht hd hP
    revert e2
    walk_at "eva"
    intro e2
    refine ⟨k + 1, _, rfl, by omega, e2⟩
  · unfold rng
    rw [List.length_map, List.length_range, List.range_eq_range']
    simp
theorem same_eq : ∀ (n : Nat) (d : D) (cs : List D), deep n d → f__law_same n [d, d] cs = .ok (.bl true) cs
  | 0, d, cs, h => h.elim
  | n + 1, d, cs, h => by
    suffices hh : Ok (f__law_same (n + 1) [d, d] cs) (fun d cs' => d = .bl true ∧ cs' = cs) by
      obtain ⟨d, cs', e, h1, h2⟩ := Ok_get hh
      rw [e, h1, h2]
    unfold f__law_same mDef m__law_same
    cases d with
    | non => walk_at "ev"
    | bl b => walk_at "ev"
    | int i => walk_at "ev"
    | str z => walk_at "ev"
    | lst l =>
      obtain ⟨h2, h3⟩ := h
      have h5 : -1000000000 ≤ ((l.length : Int)) ∧ ((l.length : Int)) < 1000000000 := by omega
      walk_at "eva"
      refine same_items h2 (fun k d hk => o_ixL (Wf.atI_nat hk)) (fun k d hk => o_ixL (Wf.atI_nat hk)) (fun d hd => same_eq n d cs (h3 d hd)) _ fun o => ?_
      walk_at "ev"
    | tup l =>
      obtain ⟨h2, h3⟩ := h
      have h5 : -1000000000 ≤ ((l.length : Int)) ∧ ((l.length : Int)) < 1000000000 := by omega
      walk_at "eva"
      refine same_items h2 (fun k d hk => o_ixT (Wf.atI_nat hk)) (fun k d hk => o_ixT (Wf.atI_nat hk)) (fun d hd => same_eq n d cs (h3 d hd)) _ fun o => ?_
      walk_at "ev"
    | _ => exact h.elim
theorem same_ref (n : Nat) (l : List D) (cs : List D) (i : Nat) (hi : cs[i]? = some (.lst l)) (h : deep (n + 1) (.lst l)) : f__law_same (n + 1) [.ref i, .lst l] cs = .ok (.bl true) cs := by
  suffices hh : Ok (f__law_same (n + 1) [.ref i, .lst l] cs) (fun d cs' => d = .bl true ∧ cs' = cs) by
    obtain ⟨d, cs', e, h1, h2⟩ := Ok_get hh
    rw [e, h1, h2]
  unfold f__law_same mDef m__law_same
  obtain ⟨h2, h3⟩ := h
  have h5 : -1000000000 ≤ ((l.length : Int)) ∧ ((l.length : Int)) < 1000000000 := by omega
  have h6 := o_lenR hi
  have h7 := i_ref_list hi
  walk_at "eva"
  refine same_items h2 (fun k d hk => o_ixR hi (Wf.atI_nat hk)) (fun k d hk => o_ixL (Wf.atI_nat hk)) (fun d hd => same_eq n d cs (h3 d hd)) _ fun o => ?_
  walk_at "ev"
/-! ### draws -/
theorem mixed_ok (a b : Int) (cs : List D) : ∃ v, f__law_mixed [.int a, .int b] cs = .ok (.int v) cs ∧ 0 ≤ v := by
  unfold f__law_mixed mDef m__law_mixed
  have h1 : mulI a 48271 := mulI_r (by decide)
  have h2 : mulI b 69621 := mulI_r (by decide)
  have h3 : mulI b 40014 := mulI_r (by decide)
  have n1 : (2147483647 : Int) ≠ 0 := by decide
  have n2 : (2147483399 : Int) ≠ 0 := by decide
  have n3 : (2147483629 : Int) ≠ 0 := by decide
  obtain ⟨p1, p2⟩ := fmod_in (i := a * 48271 + b * 69621 + 11) (j := 2147483647) (by decide)
  generalize e1 : (a * 48271 + b * 69621 + 11).fmod 2147483647 = x at p1 p2
  have h4 : mulI x x := mulI_r (by omega)
  obtain ⟨q1, q2⟩ := fmod_in (i := x * x + b * 40014 + 7) (j := 2147483399) (by decide)
  generalize e2 : (x * x + b * 40014 + 7).fmod 2147483399 = y at q1 q2
  have h5 : mulI y y := mulI_r (by omega)
  refine ⟨(y * y + x).fmod 2147483629, ?_, (fmod_in (by decide)).1⟩
  walk_at "eva"
def takeTail : MS := (mSeq (mIf (mB (mOp gtD (mOp ixD (mV 0) (mC (.int 2))) (mC (.int 0)))) (mSeq (mAsg (gtN 3) (mOp modD (mCB intD (mCons (mOp ixD (mV 0) (mC (.int 2))) mNil)) (mV 1)))
  (mSeq (mSub setD (mOp fdivD (mOp ixD (mV 0) (mC (.int 2))) (mV 1)) (mV 0) (mC (.int 2)))
  (mRet (mV 3)))) mSkip)
  (mSeq (mIf (mB (mOp gtD (mOp ixD (mV 0) (mC (.int 3))) (mC (.int 0)))) (mSub setD (mOp subD (mOp ixD (mV 0) (mC (.int 3))) (mC (.int 1))) (mV 0) (mC (.int 3))) mSkip)
  (mSeq (mSub setD (mOp addD (mOp ixD (mV 0) (mC (.int 5))) (mC (.int 1))) (mV 0) (mC (.int 5)))
  (mRet (mOp modD (mCB intD (mCons (mCall f__law_mixed (mCons (mOp ixD (mV 0) (mC (.int 4))) (mCons (mOp ixD (mV 0) (mC (.int 5))) mNil))) mNil)) (mV 1))))))
theorem tail_ok {ns : List Int} {p : Nat} {a b sd t size : Int} {o : Option D} {rest : List D} (hp : p ≤ ns.length) (hn : ns.length ≤ 1000) (ha : 0 ≤ a) (h2 : ¬ size < 2) (hs : size < 1073741824) :
    ∃ v c', takeTail [some (.ref 0), some (.int size), o, none] (.lst [.lst (ns.map .int), .int p, .int a, .int b, .int sd, .int t] :: rest) = .ok (.ret (.int v)) (c' :: rest) ∧ StOk c' ∧ 0 ≤ v ∧ v < size := by
  have hz : size ≠ 0 := by omega
  have hzd : size ≠ 0 ∧ size.natAbs < 1073741824 := by omega
  unfold takeTail
  by_cases h3 : 0 < a
  · have e2 : decide (0 < a) = true := decide_eq_true h3
    refine ⟨a.fmod size, _, ?_, ⟨ns, p, a.fdiv size, b, sd, t, rfl, hp, hn, fdiv_nn ha (by omega)⟩, (fmod_in (by omega)).1, (fmod_in (by omega)).2⟩
    walk_at "eva"
  · have e2 : decide (0 < a) = false := decide_eq_false h3
    obtain ⟨m, hm, hm0⟩ := mixed_ok sd (t + 1) (.lst [.lst (ns.map .int), .int p, .int a, .int (if 0 < b then b - 1 else b), .int sd, .int (t + 1)] :: rest)
    refine ⟨m.fmod size, _, ?_, ⟨ns, p, a, if 0 < b then b - 1 else b, sd, t + 1, rfl, hp, hn, ha⟩, (fmod_in (by omega)).1, (fmod_in (by omega)).2⟩
    by_cases h4 : 0 < b
    · have e3 : decide (0 < b) = true := decide_eq_true h4
      rw [if_pos h4] at hm ⊢
      walk_at "eva"
    · have e3 : decide (0 < b) = false := decide_eq_false h4
      rw [if_neg h4] at hm ⊢
      walk_at "eva"
theorem take_ok (c : D) (hc : StOk c) (rest : List D) (size : Int) (hs : size < 1073741824) :
    ∃ v c', f__law_take [.ref 0, .int size] (c :: rest) = .ok (.int v) (c' :: rest) ∧ StOk c' ∧ 0 ≤ v ∧ (2 ≤ size → v < size) ∧ (size < 2 → v = 0) := by
  obtain ⟨ns, p, a, b, sd, t, rfl, hp, hn, ha⟩ := hc
  by_cases h2 : size < 2
  · refine ⟨0, _, ?_, ⟨ns, p, a, b, sd, t, rfl, hp, hn, ha⟩, by omega, by omega, fun _ => rfl⟩
    have e1 : decide (size < 2) = true := decide_eq_true h2
    unfold f__law_take mDef m__law_take
    walk_at "eva"
  · have e1 : decide (size < 2) = false := decide_eq_false h2
    have hm : f__law_take = mDef 2 4 (mSeq (mIf (mB (mOp ltD (mV 1) (mC (.int 2)))) (mRet (mC (.int 0))) mSkip)
  (mSeq (mIf (mAnd (mB (mOp eqD (mOp ixD (mV 0) (mC (.int 2))) (mC (.int 0)))) (mAnd (mB (mOp eqD (mOp ixD (mV 0) (mC (.int 3))) (mC (.int 0)))) (mB (mOp ltD (mOp ixD (mV 0) (mC (.int 1))) (mCB lenD (mCons (mOp ixD (mV 0) (mC (.int 0))) mNil)))))) (mSeq (mAsg (gtN 2) (mOp ixD (mOp ixD (mV 0) (mC (.int 0))) (mOp ixD (mV 0) (mC (.int 1)))))
  (mSeq (mSub setD (mOp addD (mOp ixD (mV 0) (mC (.int 1))) (mC (.int 1))) (mV 0) (mC (.int 1)))
  (mSeq (mSub setD (mOp modD (mCB intD (mCons (mOp addD (mOp mulD (mOp ixD (mV 0) (mC (.int 4))) (mC (.int 16807))) (mV 2)) mNil)) (mC (.int 2147483647))) (mV 0) (mC (.int 4)))
  (mIf (mOr (mB (mOp geD (mV 2) (mOp powD (mC (.int 10)) (mC (.int 18))))) (mB (mOp geD (mUn negD (mV 2)) (mOp powD (mC (.int 10)) (mC (.int 18)))))) (mSub setD (mCB absD (mCons (mV 2) mNil)) (mV 0) (mC (.int 2))) (mSub setD (mC (.int 3)) (mV 0) (mC (.int 3))))))) mSkip)
  takeTail)) := rfl
    have fin : ∀ (p : Nat) (a b sd : Int) (o : Option D), p ≤ ns.length → 0 ≤ a → ∃ v c', finR (rest.length + 1) (takeTail [some (.ref 0), some (.int size), o, none] (.lst [.lst (ns.map .int), .int p, .int a, .int b, .int sd, .int t] :: rest)) = .ok (.int v) (c' :: rest) ∧ StOk c' ∧ 0 ≤ v ∧ (2 ≤ size → v < size) ∧ (size < 2 → v = 0) := by
      intro p a b sd o hp ha
      obtain ⟨v, c', e, h3, h4, h5⟩ := tail_ok (b := b) (sd := sd) (t := t) (o := o) (rest := rest) hp hn ha h2 hs
      refine ⟨v, c', ?_, h3, h4, fun _ => h5, fun h => absurd h h2⟩
      rw [e]
      walk_at "ev"
    rw [hm]
    unfold mDef
    by_cases h3 : a = 0
    · subst h3
      by_cases h4 : b = 0
      · subst h4
        have z0 : decide ((0 : Int) = 0) = true := by decide
        by_cases h5 : p < ns.length
        · have e4 : decide ((p : Int) < (ns.length : Int)) = true := decide_eq_true (by omega)
          obtain ⟨x, hx⟩ : ∃ x, ns[p]? = some x := ⟨ns[p], List.getElem?_eq_getElem h5⟩
          have e5 : atI (ns.map D.int) (p : Int) = some (.int x) := Wf.atI_nat (by rw [List.getElem?_map, hx]; rfl)
          have e6 := o_ixL (cs := .lst [.lst (ns.map .int), .int p, .int 0, .int 0, .int sd, .int t] :: rest) e5
          have e7 : mulI sd 16807 := mulI_r (by decide)
          have n1 : (2147483647 : Int) ≠ 0 := by decide
          have pw := o_pow (i := 10) (j := 18) (cs := .lst [.lst (ns.map .int), .int ((p + 1 : Nat) : Int), .int 0, .int 0, .int ((sd * 16807 + x).fmod 2147483647), .int t] :: rest) (by decide)
          have pw2 : (10 : Int) ^ (18 : Int).toNat = 1000000000000000000 := by decide +kernel
          rw [pw2] at pw
          have e8 : (p : Int) + 1 = ((p + 1 : Nat) : Int) := by omega
          by_cases h6 : 1000000000000000000 ≤ x ∨ 1000000000000000000 ≤ -x
          · have f2 := fin (p + 1) (if x < 0 then -x else x) 0 ((sd * 16807 + x).fmod 2147483647) (some (.int x)) h5 (by split <;> omega)
            by_cases h7 : 1000000000000000000 ≤ x
            · have e9 : decide (1000000000000000000 ≤ x) = true := decide_eq_true h7
              clear h6
              revert f2
              walk_at "eva"
              exact fun h => h
            · have e9 : decide (1000000000000000000 ≤ x) = false := decide_eq_false h7
              have e10 : decide (1000000000000000000 ≤ -x) = true := decide_eq_true (by omega)
              clear h6
              revert f2
              walk_at "eva"
              exact fun h => h
          · have f2 := fin (p + 1) 0 3 ((sd * 16807 + x).fmod 2147483647) (some (.int x)) h5 (by decide)
            have e9 : decide (1000000000000000000 ≤ x) = false := decide_eq_false (by omega)
            have e10 : decide (1000000000000000000 ≤ -x) = false := decide_eq_false (by omega)
            clear h6
            revert f2
            walk_at "eva"
            exact fun h => h
        · have e4 : decide ((p : Int) < (ns.length : Int)) = false := decide_eq_false (by omega)
          have f2 := fin p 0 0 sd none hp (by decide)
          revert f2
          walk_at "eva"
          exact fun h => h
      · have e3 : decide (b = 0) = false := decide_eq_false h4
        have z0 : decide ((0 : Int) = 0) = true := by decide
        have f2 := fin p 0 b sd none hp (by decide)
        revert f2
        walk_at "eva"
        exact fun h => h
    · have e2 : decide (a = 0) = false := decide_eq_false h3
      have f2 := fin p a b sd none hp ha
      revert f2
      walk_at "eva"
      exact fun h => h
theorem span_ok (c : D) (hc : StOk c) (rest : List D) (lo hi : Int) (h : lo ≤ hi) (hs : hi - lo < 1000000000) :
    ∃ v c', f__law_span [.ref 0, .int lo, .int hi] (c :: rest) = .ok (.int v) (c' :: rest) ∧ StOk c' ∧ lo ≤ v ∧ v ≤ hi := by
  obtain ⟨v, c', e, h1, h2, h3, h4⟩ := take_ok c hc rest (hi - lo + 1) (by omega)
  refine ⟨lo + v, c', ?_, h1, by omega, ?_⟩
  · unfold f__law_span mDef m__law_span
    walk_at "eva"
  · by_cases h5 : hi - lo + 1 < 2
    · have := h4 h5
      omega
    · have := h3 (by omega)
      omega
theorem rare_ok (c : D) (hc : StOk c) (rest : List D) (size : Int) (hs : size < 1000000000) :
    ∃ b c', f__law_rare [.ref 0, .int size] (c :: rest) = .ok (.bl b) (c' :: rest) ∧ StOk c' := by
  obtain ⟨v, c', e, h1, h2, h3, h4⟩ := take_ok c hc rest size (by omega)
  refine ⟨decide (v = size - 1), c', ?_, h1⟩
  unfold f__law_rare mDef m__law_rare
  walk_at "eva"
theorem pick_l (c : D) (hc : StOk c) (rest : List D) (l : List D) (h : l ≠ []) (hl : l.length < 1000000000) (hn : nrs l = true) :
    ∃ d c', f__law_pick [.ref 0, .lst l] (c :: rest) = .ok d (c' :: rest) ∧ StOk c' ∧ d ∈ l := by
  obtain ⟨v, c', e, h1, h2, h3, h4⟩ := take_ok c hc rest (l.length : Int) (by omega)
  have hp : 0 < l.length := List.length_pos_iff.mpr h
  have hv : v.toNat < l.length := by
    by_cases h5 : (l.length : Int) < 2
    · have := h4 h5
      omega
    · have := h3 (by omega)
      omega
  obtain ⟨n, rfl⟩ : ∃ n : Nat, v = (n : Int) := ⟨v.toNat, by omega⟩
  rw [Int.toNat_natCast] at hv
  have e2 : atI l (n : Int) = some l[n] := Wf.atI_nat (List.getElem?_eq_getElem hv)
  have e3 := o_ixL (cs := c' :: rest) e2
  have hd : nr l[n] = true := by
    rw [nrs_all, List.all_eq_true] at hn
    exact hn _ (List.getElem_mem hv)
  refine ⟨l[n], c', ?_, h1, List.getElem_mem hv⟩
  unfold f__law_pick mDef m__law_pick
  walk_at "eva"
  rw [f_nr hd]
  walk_at "ev"
theorem pick_s (c : D) (hc : StOk c) (rest : List D) (z : Str) (h : 0 < z.length) (hl : z.length ≤ 16777216) :
    ∃ y c', f__law_pick [.ref 0, .str z] (c :: rest) = .ok (.str y) (c' :: rest) ∧ StOk c' ∧ y.length = 1 := by
  obtain ⟨v, c', e, h1, h2, h3, h4⟩ := take_ok c hc rest (z.length : Int) (by omega)
  have hv : v.toNat < z.cps.toList.length := by
    have := str_len z
    by_cases h5 : (z.length : Int) < 2
    · have := h4 h5
      omega
    · have := h3 (by omega)
      omega
  obtain ⟨n, rfl⟩ : ∃ n : Nat, v = (n : Int) := ⟨v.toNat, by omega⟩
  rw [Int.toNat_natCast] at hv
  have e2 : atI z.cps.toList (n : Int) = some z.cps.toList[n] := Wf.atI_nat (List.getElem?_eq_getElem hv)
  have e3 := o_ixS (cs := c' :: rest) hl e2
  refine ⟨⟨#[z.cps.toList[n]]⟩, c', ?_, h1, rfl⟩
  unfold f__law_pick mDef m__law_pick
  walk_at "eva"
theorem in_range_ok (c : D) (hc : StOk c) (rest : List D) (lo hi : Int) (h : lo ≤ hi) (hs : hi - lo < 1000000000) :
    ∃ v c', f__law_in_range [.ref 0, .int lo, .int hi] (c :: rest) = .ok (.int v) (c' :: rest) ∧ StOk c' ∧ lo ≤ v ∧ v ≤ hi := by
  obtain ⟨v, c1, e, h1, h2, h3, h4⟩ := take_ok c hc rest 3 (by decide)
  by_cases h5 : v = 2
  · obtain ⟨d, c2, e2, h6, h7⟩ := pick_l c1 h1 rest [.int lo, .int hi] (by simp) (by simp) (by rfl)
    have e3 : decide (v = 2) = true := decide_eq_true h5
    have : ∃ x, d = .int x ∧ lo ≤ x ∧ x ≤ hi := by
      simp at h7
      rcases h7 with h7 | h7
      · exact ⟨lo, h7, by omega, h⟩
      · exact ⟨hi, h7, h, by omega⟩
    obtain ⟨x, rfl, hx⟩ := this
    refine ⟨x, c2, ?_, h6, hx⟩
    unfold f__law_in_range mDef m__law_in_range
    walk_at "eva"
  · obtain ⟨x, c2, e2, h6, h7⟩ := span_ok c1 h1 rest lo hi h hs
    have e3 : decide (v = 2) = false := decide_eq_false h5
    refine ⟨x, c2, ?_, h6, h7⟩
    unfold f__law_in_range mDef m__law_in_range
    walk_at "eva"
theorem shuffled_ok (c : D) (hc : StOk c) (rest : List D) (rd : D) (row : List D) (hl : row.length < 1000000) (hn : nrs row = true) (hr1 : listD [rd] (c :: rest) = .ok (.lst row) (c :: rest)) (hr2 : lenD [rd] (c :: (rest ++ [.lst []])) = .ok (.int row.length) (c :: (rest ++ [.lst []]))) :
    ∃ out c', f__law_shuffled [.ref 0, rd] (c :: rest) = .ok (.ref (rest.length + 1)) (c' :: (rest ++ [.lst out])) ∧ StOk c' ∧ ∀ d ∈ out, d ∈ row := by
  suffices hh : Ok (f__law_shuffled [.ref 0, rd] (c :: rest)) (fun d cs' => ∃ out c', d = .ref (rest.length + 1) ∧ cs' = c' :: (rest ++ [.lst out]) ∧ StOk c' ∧ ∀ d ∈ out, d ∈ row) by
    obtain ⟨d, cs', e, q⟩ := Ok_get hh
    obtain ⟨out, c', h1, h2, h3⟩ := q
    exact ⟨out, c', by rw [e, h1, h2], h3⟩
  have h5 : -1000000000 ≤ ((row.length : Int)) ∧ ((row.length : Int)) < 1000000000 := by omega
  have h6 : nrs ([] : List D) = true := rfl
  have hm : ∀ d ∈ row, nr d = true := by
    rw [nrs_all, List.all_eq_true] at hn
    exact hn
  unfold f__law_shuffled mDef m__law_shuffled
  walk_at "eva"
  refine Ok_for (fun ds r cs' => ∃ (L O : List D) (c' : D) (o p : Option D), r = [some (.ref 0), some rd, some (.lst L), some (.ref (rest.length + 1)), o, p] ∧ cs' = c' :: (rest ++ [.lst O]) ∧ StOk c' ∧ L.length = ds.length ∧ L.length + O.length = row.length ∧ (∀ d ∈ L, d ∈ row) ∧ ∀ d ∈ O, d ∈ row) ?_ ?_ _ _ _ ?_
  rotate_left 2
  · exact ⟨row, [], c, none, none, rfl, rfl, hc, by simp [rng], by simp, fun _ h => h, fun _ h => by cases h⟩
  · rintro r cs' ⟨L, O, c', o, p, rfl, rfl, h7, h8, h9, h10, h11⟩
    walk_at "ev"
    exact ⟨O, c', rfl, h7, h11⟩
  · rintro d ds r cs' ⟨L, O, c', o, p, rfl, rfl, h7, h8, h9, h10, h11⟩
    rw [List.length_cons] at h8
    have h8' : ds.length = L.length - 1 := by omega
    have hp : 0 < L.length := by omega
    obtain ⟨v, c2, e1, q1, q2, q3, q4⟩ := take_ok c' h7 (rest ++ [.lst O]) (L.length : Int) (by omega)
    have hv : v.toNat < L.length := by
      by_cases h5 : (L.length : Int) < 2
      · have := q4 h5
        omega
      · have := q3 (by omega)
        omega
    obtain ⟨k, rfl⟩ : ∃ k : Nat, v = (k : Int) := ⟨v.toNat, by omega⟩
    rw [Int.toNat_natCast] at hv
    have e2 := o_ixL (cs := c2 :: (rest ++ [.lst O])) (Wf.atI_nat (List.getElem?_eq_getElem hv))
    have hx : L[k] ∈ row := h10 _ (List.getElem_mem hv)
    have e3 : O.length < 16777216 ∧ nr L[k] = true ∧ nrs O = true := ⟨by omega, hm _ hx, by
      rw [nrs_all, List.all_eq_true]
      exact fun d hd => hm d (h11 d hd)⟩
    have e4 : (k : Int) + 1 = ((k + 1 : Nat) : Int) := by omega
    have e5 : (cutD L none (some (k : Int))).length + (cutD L (some ((k + 1 : Nat) : Int)) none).length ≤ 16777216 := by
      rw [cutD_to, cutD_from, List.length_take, List.length_drop]
      omega
    clear hn h8' hp
    revert h8 h9
    walk_at "eva"
    intro h8 h9
    refine ⟨_, _, c2, _, _, rfl, rfl, q1, ?_, ?_, ?_, ?_⟩
    · rw [cutD_to, cutD_from, List.length_append, List.length_take, List.length_drop]
      omega
    · rw [cutD_to, cutD_from, List.length_append, List.length_take, List.length_drop, List.length_append, List.length_singleton]
      omega
    · intro d hd
      rw [cutD_to, cutD_from] at hd
      rcases List.mem_append.mp hd with hd | hd
      · exact h10 d (List.mem_of_mem_take hd)
      · exact h10 d (List.mem_of_mem_drop hd)
    · intro d hd
      rcases List.mem_append.mp hd with hd | hd
      · exact h11 d hd
      · rw [List.mem_singleton.mp hd]
        exact hx
theorem slice_ok (c : D) (hc : StOk c) (rest : List D) (z : Str) (hl : z.length ≤ 16777216) :
    ∃ y c', f__law_slice [.ref 0, .str z] (c :: rest) = .ok (.str y) (c' :: rest) ∧ StOk c' ∧ y.length ≤ z.length := by
  obtain ⟨v, c1, e, h1, h2, h3, h4⟩ := take_ok c hc rest ((z.length : Int) + 1) (by omega)
  obtain ⟨u, c2, e2, p1, p2, p3, p4⟩ := take_ok c1 h1 rest (1 + (if (40 : Int) < (z.length : Int) - v then 40 else (z.length : Int) - v)) (by split <;> omega)
  refine ⟨_, c2, ?_, p1, cutS_le z (some v) (some (v + u))⟩
  unfold f__law_slice mDef m__law_slice
  walk_at "eva"
theorem menu_ok (c : D) (hc : StOk c) (rest : List D) : ∃ z c', f__law_menu [.ref 0] (c :: rest) = .ok (.str z) (c' :: rest) ∧ StOk c' ∧ 0 < z.length ∧ z.length ≤ 100 := by
  have l1 : Str.length (Str.ofString " !\"#$&'()*+,-./0123456789:;<=>?@ABCDEFGHIJKLMNOPQRSTUVWXYZ[\\]^_`") = 64 := by decide +kernel
  have l2 : Str.length (Str.ofString "abcdefghijklmnopqrstuvwxyz{|}~") = 30 := by decide +kernel
  unfold f__law_menu mDef m__law_menu
  generalize (Str.ofString " !\"#$&'()*+,-./0123456789:;<=>?@ABCDEFGHIJKLMNOPQRSTUVWXYZ[\\]^_`") = s1 at l1 ⊢
  generalize (Str.ofString "abcdefghijklmnopqrstuvwxyz{|}~") = s2 at l2 ⊢
  have l3 : s1.length + s2.length ≤ 16777216 := by omega
  have l4 : (s1 ++ s2).length = 94 := by rw [len_app, l1, l2]
  have l5 : s1.length + s2.length = 94 := by omega
  generalize e0 : s1 ++ s2 = s at l4
  have l6 : s.length ≤ 16777216 := by omega
  obtain ⟨v, c1, e1, h1, p1, p2, p3⟩ := take_ok c hc rest 94 (by decide)
  obtain ⟨n, rfl⟩ : ∃ n : Nat, v = (n : Int) := ⟨v.toNat, by omega⟩
  have hv : n < s.cps.toList.length := by
    have := str_len s
    have := p2 (by decide)
    omega
  have e2 := o_ixS (cs := c1 :: rest) l6 (Wf.atI_nat (List.getElem?_eq_getElem hv))
  obtain ⟨y, c2, e3, h2, hy⟩ := pick_s c1 h1 rest s (by omega) l6
  obtain ⟨d, c3, e4, h3, hd⟩ := pick_l c2 h2 rest [.str (Str.ofString "a"), .str (Str.ofString "ab"), .str (Str.ofString "ab"), .str (Str.ofString "aA"), .str (Str.ofString "abc"), .str (Str.ofString "- 0~"), .str s, .str (Str.mk #[s.cps.toList[n]] ++ y)] (by simp) (by simp) (by rfl)
  have : ∃ z, d = .str z ∧ 0 < z.length ∧ z.length ≤ 100 := by
    simp only [List.mem_cons, List.not_mem_nil, or_false] at hd
    rcases hd with h | h | h | h | h | h | h | h
    · exact ⟨_, h, by decide +kernel, by decide +kernel⟩
    · exact ⟨_, h, by decide +kernel, by decide +kernel⟩
    · exact ⟨_, h, by decide +kernel, by decide +kernel⟩
    · exact ⟨_, h, by decide +kernel, by decide +kernel⟩
    · exact ⟨_, h, by decide +kernel, by decide +kernel⟩
    · exact ⟨_, h, by decide +kernel, by decide +kernel⟩
    · exact ⟨_, h, by omega, by omega⟩
    · refine ⟨_, h, ?_, ?_⟩
      · rw [len_app, hy]
        exact Nat.succ_pos _
      · rw [len_app, hy, len_one]
        decide
  obtain ⟨z, rfl, hz⟩ := this
  refine ⟨z, c3, ?_, h3, hz⟩
  have l8 : ((94 : Nat) : Int) = 94 := rfl
  clear hd hz
  walk_at "eva"
theorem letters {i : Nat} {env : Wf.Env} {z : Str} {rest : List D} (hz : 0 < z.length) (hz2 : z.length ≤ 16777216) (h0 : ∀ d, (env.set i (some d))[0]? = some (some (.ref 0))) (h1 : ∀ d, (env.set i (some d))[1]? = some (some (.str z))) (n : Nat) (hn : n < 100000) (c : D) (hc : StOk c) :
    ∃ ss c', mapR (lcF (gtN i) mYes (mCall f__law_pick (mCons (mV 0) (mCons (mV 1) mNil))) env) (rng 0 n) (c :: rest) = .ok (ss.map D.str) (c' :: rest) ∧ StOk c' ∧ ss.length < 16777216 ∧ (Txt.join Str.empty ss).length = n ∧
      joinD (.str Str.empty) [.lst (ss.map D.str)] (c' :: rest) = .ok (.str (Txt.join Str.empty ss)) (c' :: rest) := by
  obtain ⟨ys, c', e, h2, h3, h4⟩ := map_draws (f := lcF (gtN i) mYes (mCall f__law_pick (mCons (mV 0) (mCons (mV 1) mNil))) env) (rest := rest) (fun d => ∃ y, d = .str y ∧ y.length = 1) (ds := rng 0 n) (fun d _ c hc => by
    obtain ⟨y, c', e, h5, h6⟩ := pick_s c hc rest z hz hz2
    refine ⟨.str y, c', ?_, h5, y, rfl, h6⟩
    have e0 := e_V (cs := c :: rest) (h0 d)
    have e1 := e_V (cs := c :: rest) (h1 d)
    clear h0 h1
    walk_at "eva") c hc
  obtain ⟨ss, rfl, hs⟩ := strs_of (fun z => z.length = 1) h4
  have hl : ss.length = n := by
    rw [List.length_map] at h3
    rw [h3]
    unfold rng
    simp
  have hj : (Txt.join Str.empty ss).length = n := by rw [join_len, sum_ones hs, hl]
  refine ⟨ss, c', e, h2, by omega, hj, o_join ?_⟩
  rw [sum_ones hs, len_empty]
  omega
theorem text_ok (c : D) (hc : StOk c) (rest : List D) (z : Str) (hz : 0 < z.length) (hz2 : z.length ≤ 100) : ∃ y c', f__law_text [.ref 0, .str z] (c :: rest) = .ok (.str y) (c' :: rest) ∧ StOk c' ∧ y.length ≤ 5000 := by
  obtain ⟨b1, c1, e1, h1⟩ := rare_ok c hc rest 8 (by decide)
  cases b1 with
  | false =>
    obtain ⟨v, c2, e2, h2, p1, p2⟩ := in_range_ok c1 h1 rest 0 12 (by decide) (by decide)
    obtain ⟨ss, c3, e3, h3, p3, p4, p5⟩ := letters (i := 4) (env := [some (.ref 0), some (.str z), none, none, none, none, none]) (rest := rest) hz (by omega) (fun _ => rfl) (fun _ => rfl) v.toNat (by omega) c2 h2
    refine ⟨_, c3, ?_, h3, by rw [p4]; omega⟩
    have q1 : -1000000000 ≤ v ∧ v < 1000000000 := by omega
    unfold f__law_text mDef m__law_text
    walk_at "eva"
  | true =>
    obtain ⟨v, c2, e2, h2, p1, p2, p3⟩ := take_ok c1 h1 rest 341 (by decide)
    have hv := p2 (by decide)
    clear p2 p3
    obtain ⟨b3, c3, e3, h3⟩ := rare_ok c2 h2 rest 5 (by decide)
    obtain ⟨size, hsz⟩ : ∃ size : Nat, (if b3 then (5000 : Int) else 60 + v) = (size : Int) := ⟨(if b3 then (5000 : Int) else 60 + v).toNat, by cases b3 <;> simp <;> omega⟩
    have hsz2 : size ≤ 5000 := by cases b3 <;> simp at hsz <;> omega
    obtain ⟨u, c4, e4, h4, q1, q2, q3⟩ := take_ok c3 h3 rest 5 (by decide)
    have hu := q2 (by decide)
    clear q2 q3
    obtain ⟨ss, c5, e5, h5, p3, p4, p5⟩ := letters (i := 4) (env := [some (.ref 0), some (.str z), some (.int size), none, none, none, none]) (rest := rest) hz (by omega) (fun _ => rfl) (fun _ => rfl) (1 + u).toNat (by omega) c4 h4
    obtain ⟨s, c6, e6, h6, r1, r2, r3⟩ := take_ok c5 h5 rest (size : Int) (by omega)
    obtain ⟨t, rfl⟩ : ∃ t : Nat, s = (t : Int) := ⟨s.toNat, by omega⟩
    have ht : t + 1 ≤ 5000 := by
      by_cases h : (size : Int) < 2
      · have := r3 h
        omega
      · have := r2 (by omega)
        omega
    clear r2 r3
    obtain ⟨y, c7, e7, h7, hy⟩ := pick_s c6 h6 rest z hz (by omega)
    obtain ⟨x, hx⟩ : ∃ x, x = cutS (strMul (Txt.join Str.empty ss) (size : Int)) none (some (size : Int)) := ⟨_, rfl⟩
    have hxl : x.length ≤ size := by rw [hx]; exact cutS_to _ _
    have hmul := o_mulS (z := Txt.join Str.empty ss) (i := (size : Int)) (cs := c5 :: rest) ⟨by omega, by omega, by
      rw [p4, Int.toNat_natCast]
      exact Nat.le_trans (Nat.mul_le_mul (show (1 + u).toNat ≤ 5 by omega) hsz2) (by decide)⟩
    have hml : (strMul (Txt.join Str.empty ss) (size : Int)).length ≤ 16777216 := by
      rw [mul_len, p4]
      exact Nat.le_trans (Nat.mul_le_mul (show (1 + u).toNat ≤ 5 by omega) hsz2) (by decide)
    have a1 := cutS_to x t
    have a2 := cutS_from x (t + 1)
    have l1 : x.length ≤ 16777216 := by omega
    have l2 : (cutS x none (some (t : Int))).length + 1 ≤ 16777216 := by omega
    have l3 : (cutS x none (some (t : Int))).length + 1 + (cutS x (some ((t + 1 : Nat) : Int)) none).length ≤ 16777216 := by omega
    have e8 : (t : Int) + 1 = ((t + 1 : Nat) : Int) := by omega
    have q1 : -1000000000 ≤ 1 + u ∧ 1 + u < 1000000000 := by omega
    refine ⟨cutS x none (some (t : Int)) ++ y ++ cutS x (some ((t + 1 : Nat) : Int)) none, c7, ?_, h7, by rw [len_app, len_app, hy]; omega⟩
    have hx' := hx.symm
    clear hx hxl a1 a2 ht hsz2 p4
    unfold f__law_text mDef m__law_text
    cases b3 with
    | true =>
      simp only [if_true] at hsz
      have hsz' : (5000 : Int) = (size : Int) := hsz
      simp only [hsz'] at *
      walk_at "eva"
    | false =>
      simp only [Bool.false_eq_true, if_false] at hsz
      walk_at "eva"
theorem parts_ok (c : D) (hc : StOk c) (rest : List D) (z x y : Str) (hz : 0 < z.length) (hz2 : z.length ≤ 100) (hx : x.length ≤ 5000) (hy : y.length ≤ 5000) :
    ∃ l c', f__law_parts [.ref 0, .str z, .str x, .str y] (c :: rest) = .ok (.lst l) (c' :: rest) ∧ StOk c' ∧ ∀ d ∈ l, ∃ w, d = .str w ∧ w.length ≤ 5000 := by
  obtain ⟨y1, c1, e1, h1, p1⟩ := pick_s c hc rest z hz (by omega)
  obtain ⟨y2, c2, e2, h2, p2⟩ := slice_ok c1 h1 rest x (by omega)
  obtain ⟨y3, c3, e3, h3, p3⟩ := slice_ok c2 h2 rest y (by omega)
  have l0 : x.length ≤ 16777216 := by omega
  have l1 : x.length + 1 ≤ 16777216 := by omega
  obtain ⟨a3, ha3⟩ : ∃ a3, a3 = cutS (x ++ y1) none (some (5000 : Int)) := ⟨_, rfl⟩
  have q3 : a3.length ≤ 5000 := by rw [ha3]; exact cutS_to _ 5000
  obtain ⟨y4, c4, e4, h4, p4⟩ := slice_ok c3 h3 (rest ++ [.lst [.str Str.empty, .str x, .str a3, .str y2, .str y3]]) x (by omega)
  obtain ⟨y5, c5, e5, h5, p5⟩ := pick_s c4 h4 (rest ++ [.lst [.str Str.empty, .str x, .str a3, .str y2, .str y3]]) z hz (by omega)
  have l2 : y4.length ≤ 16777216 := by omega
  have b1 := cutS_le y4 none (some (-1))
  have l3 : (cutS y4 none (some (-1))).length + 1 ≤ 16777216 := by omega
  obtain ⟨b5, hb5⟩ : ∃ b5, b5 = cutS y4 none (some (-1)) ++ y5 := ⟨_, rfl⟩
  have q5 : b5.length ≤ 5001 := by
    rw [hb5, len_app, p5]
    omega
  have q5' : b5.length ≤ 5000 := by
    have : (cutS y4 none (some (-1))).length + 1 ≤ 5000 ∨ y4.length = 0 := by
      by_cases h : y4.length = 0
      · exact .inr h
      · left
        rw [str_len, cutS_list, List.length_take]
        have e : HT.sIx y4.length y4.length (some (-1)) = y4.length - 1 := by
          unfold HT.sIx
          simp only
          rw [if_pos (by decide)]
          omega
        rw [e]
        omega
    rw [hb5, len_app, p5]
    rcases this with h | h
    · omega
    · omega
  obtain ⟨v, c6, e6, h6, r1, r2, r3⟩ := take_ok c5 h5 (rest ++ [.lst [.str Str.empty, .str x, .str a3, .str y2, .str y3, .str b5]]) 4 (by decide)
  have hv := r2 (by decide)
  clear r2 r3
  obtain ⟨ss, c7, e7, h7, s1, s2, s3⟩ := letters (i := 6) (env := [some (.ref 0), some (.str z), some (.str x), some (.str y), some (.ref (rest.length + 1)), some (.str y4), none]) (rest := rest ++ [.lst [.str Str.empty, .str x, .str a3, .str y2, .str y3, .str b5]]) hz (by omega) (fun _ => rfl) (fun _ => rfl) (1 + v).toNat (by omega) c6 h6
  obtain ⟨j, hj⟩ : ∃ j, j = Txt.join Str.empty ss := ⟨_, rfl⟩
  rw [← hj] at s2 s3
  obtain ⟨sh, c8, e8, h8, hsh⟩ := shuffled_ok c7 h7 (rest ++ [.lst [.str Str.empty, .str x, .str a3, .str y2, .str y3, .str b5, .str j]]) (.ref (rest.length + 1)) [.str Str.empty, .str x, .str a3, .str y2, .str y3, .str b5, .str j] (by simp) (by rfl) (o_listR get_lst1) (o_lenR get_lst2)
  have hall : ∀ d ∈ sh, ∃ w, d = .str w ∧ w.length ≤ 5000 := by
    intro d hd
    have := hsh d hd
    simp only [List.mem_cons, List.not_mem_nil, or_false] at this
    rcases this with h | h | h | h | h | h | h
    · exact ⟨_, h, by decide⟩
    · exact ⟨_, h, hx⟩
    · exact ⟨_, h, q3⟩
    · exact ⟨_, h, by omega⟩
    · exact ⟨_, h, by omega⟩
    · exact ⟨_, h, q5'⟩
    · exact ⟨_, h, by omega⟩
  have hn : nr (.lst sh) = true := by
    rw [n_lst, nrs_all, List.all_eq_true]
    intro d hd
    obtain ⟨w, rfl, _⟩ := hall d hd
    rfl
  refine ⟨sh, c8, ?_, h8, hall⟩
  have ha3' := ha3.symm
  have hb5' := hb5.symm
  have hj' := hj.symm
  have q1 : -1000000000 ≤ 1 + v ∧ 1 + v < 1000000000 := by omega
  clear ha3 hb5 hj hall hsh s2 q5 q5' q3 b1
  unfold f__law_parts mDef m__law_parts
  walk_at "eva"
  rw [f_nr hn]
  walk_at "ev"
theorem draws_ok (ns : List Int) (h : ns.length ≤ 63) : ∃ c, f__law_draws [.wl ns] [] = .ok (.ref 0) [c] ∧ StOk c := by
  refine ⟨.lst [.lst (ns.map .int), .int (0 : Nat), .int 0, .int 0, .int 1, .int 0], ?_, ns, 0, 0, 0, 1, 0, rfl, Nat.zero_le _, by omega, Int.le_refl _⟩
  have hm : mapR (lcF (gtN 1) mYes (mCB intD (mCons (mV 1) mNil)) [some (.wl ns), none]) (ns.map D.int) [] = .ok ((ns.map D.int).map id) [] := map_pure fun d hd => by
    obtain ⟨i, _, rfl⟩ := List.mem_map.mp hd
    walk_at "ev"
    rfl
  rw [List.map_id] at hm
  have hl : ns.length < 16777216 := by omega
  have hn : nrs (ns.map D.int) = true := nrs_map fun _ => rfl
  unfold f__law_draws mDef m__law_draws
  walk_at "eva"
  rfl
theorem places_deep (p w : Str) (hw : w.length ≤ 5001) : deep 8 (.lst (places p w)) := by
  refine ⟨?_, fun d hd => ?_⟩
  · unfold places
    rw [List.length_map]
    have := List.length_filter_le (At w p) (List.range (w.length + 1))
    rw [List.length_range] at this
    omega
  · obtain ⟨k, _, rfl⟩ := List.mem_map.mp hd
    exact trivial
theorem places_nr (p w : Str) : nrs (places p w) = true := nrs_map fun _ => rfl
theorem law_true (ns : List Int) (h : ns.length ≤ 63) : ∃ cs, f_law [.wl ns] [] = .ok (.bl true) cs := by
  suffices hh : Ok (f_law [.wl ns] []) (fun d cs' => d = .bl true) by
    obtain ⟨d, cs', e, q⟩ := Ok_get hh
    exact ⟨cs', by rw [e, q]⟩
  obtain ⟨c, e0, h0⟩ := draws_ok ns h
  obtain ⟨z, c1, e1, h1, z1, z2⟩ := menu_ok c h0 []
  obtain ⟨x, c2, e2, h2, x1⟩ := text_ok c1 h1 [] z z1 z2
  obtain ⟨y, c3, e3, h3, y1⟩ := text_ok c2 h2 [] z z1 z2
  obtain ⟨l, c4, e4, h4, hl⟩ := parts_ok c3 h3 [] z x y z1 z2 x1 y1
  unfold f_law mDef m_law
  walk_at "eva"
  refine Ok_for (fun ds r cs' => ∃ (o5 o6 o7 o8 : Option D) (c' : D) (rest : List D), r = [some (.wl ns), some (.ref 0), some (.str z), some (.str x), some (.str y), o5, o6, o7, o8] ∧ cs' = c' :: rest ∧ ∀ d ∈ ds, ∃ w, d = .str w ∧ w.length ≤ 5000) ?_ ?_ _ _ _ ⟨none, none, none, none, c4, [], rfl, rfl, hl⟩
  · rintro r cs' ⟨o5, o6, o7, o8, c', rest, rfl, rfl, _⟩
    have f1 := fun cs => places_eq x Str.empty cs (by omega) (by decide)
    have f2 := fun cs => found_eq x Str.empty cs (by omega) (by decide)
    have f3 : places Str.empty Str.empty = [.int 0] := by
      unfold places
      rw [show (List.range (Str.empty.length + 1)).filter (At Str.empty Str.empty) = [0] by decide +kernel]
      rfl
    have f4 := fun cs => places_eq Str.empty Str.empty cs (by decide) (by decide)
    rw [f3] at f4
    have g1 := fun cs => same_eq 8 (.lst (places x Str.empty)) cs (places_deep x Str.empty (by decide))
    have g2 := fun cs => same_eq 8 (.lst [.int 0]) cs ⟨by decide, fun d hd => by simp only [List.mem_singleton] at hd; subst hd; trivial⟩
    clear e0 e1 e2 e3 e4
    walk_at "eva"
  · rintro d ds r cs' ⟨o5, o6, o7, o8, c', rest, rfl, rfl, hall⟩
    obtain ⟨w, rfl, hw⟩ := hall d (List.mem_cons_self ..)
    have hall2 : ∀ d ∈ ds, ∃ w, d = .str w ∧ w.length ≤ 5000 := fun d hd => hall d (List.mem_cons_of_mem _ hd)
    clear hall
    have f1 := fun cs => found_eq w x cs (by omega) (by omega)
    have f2 := fun cs => found_eq w y cs (by omega) (by omega)
    have f3 := fun cs => places_eq w x cs (by omega) (by omega)
    have f4 := fun cs => places_eq w y cs (by omega) (by omega)
    have g1 := same_ref 7 (places w x) (c' :: (rest ++ [.lst (places w x)])) (rest.length + 1) (by simp) (places_deep w x (by omega))
    have g2 := fun cs => same_eq 8 (.lst (places w y)) cs (places_deep w y (by omega))
    have g3 := fun cs => same_eq 8 (.lst (places w x)) cs (places_deep w x (by omega))
    have n1 := places_nr w x
    have l1 : (places w x).length < 16777216 := (places_deep w x (by omega)).1
    clear e0 e1 e2 e3 e4
    have k1 : 0 < (places w x ++ [D.int (-1)]).length := by simp
    walk_at "eva"
    exact ⟨_, _, _, _, c', rest ++ [_], rfl, rfl, hall2⟩
end K01
open PySem PySem.W PyProof.Rows
set_option maxHeartbeats 0 in
theorem PySem.Challenge.cw_wayfill_k01_places_of_a_part_holds : PySem.Challenge.rw_wayfill_k01_places_of_a_part.Holds := by
  w_on; o_law; k_head; (case hw => w_witness2)
  k_fill
  refine L2.walk_of (l := PySem.Challenge.rw_wayfill_k01_places_of_a_part) (n := 63) (k := 10) (x := "script") (CX := fun w => L2.CX PySem.Challenge.rw_wayfill_k01_places_of_a_part.prog w) (sp := fun w => Wf.spF _ K01.f_law) rfl (by decide) rfl ⟨rfl, by decide, by decide⟩ (fun w h Y => PySem.W.kIn_of Y) ?F (fun w H a ns hl hO hS => Wf.law_sp (K01.law_true ns hl) hS) (fun w H s e s' h => Wf.cx_none h)
  case F =>
    intro w mg fa h KX G hmg
    refine' K01.all_mk KX G hmg ?a0 ?l0 ?c0 ?k0 ?a1 ?l1 ?c1 ?k1 ?a2 ?l2 ?c2 ?k2 ?a3 ?l3 ?c3 ?k3 ?a4 ?l4 ?c4 ?k4 ?a5 ?l5 ?c5 ?k5 ?a6 ?l6 ?c6 ?k6 ?a7 ?l7 ?c7 ?k7 ?a8 ?l8 ?c8 ?k8 ?a9 ?l9 ?c9 ?k9 ?a10 ?l10 ?c10 ?k10 ?a11 ?l11 ?c11 ?k11 ?a12 ?l12 ?c12 ?k12 ?a13 ?l13 ?c13 ?k13 ?a14 ?l14 ?c14 ?k14 ?a15 ?l15 ?c15 ?k15 ?a16 ?l16 ?c16 ?k16 ?z_abs ?z_bool ?z_int ?z_isinstance ?z_len ?z_list ?z_min ?z_range ?z_str ?z_tuple
    (case a0 => k_is)
    (case l0 => k_is)
    (case c0 => k_is)
    (case k0 => k_is)
    (case a1 => k_is)
    (case l1 => k_is)
    (case c1 => k_is)
    (case k1 => k_is)
    (case a2 => k_is)
    (case l2 => k_is)
    (case c2 => k_is)
    (case k2 => k_is)
    (case a3 => k_is)
    (case l3 => k_is)
    (case c3 => k_is)
    (case k3 => k_is)
    (case a4 => k_is)
    (case l4 => k_is)
    (case c4 => k_is)
    (case k4 => k_is)
    (case a5 => k_is)
    (case l5 => k_is)
    (case c5 => k_is)
    (case k5 => k_is)
    (case a6 => k_is)
    (case l6 => k_is)
    (case c6 => k_is)
    (case k6 => k_is)
    (case a7 => k_is)
    (case l7 => k_is)
    (case c7 => k_is)
    (case k7 => k_is)
    (case a8 => k_is)
    (case l8 => k_is)
    (case c8 => k_is)
    (case k8 => k_is)
    (case a9 => k_is)
    (case l9 => k_is)
    (case c9 => k_is)
    (case k9 => k_is)
    (case a10 => k_is)
    (case l10 => k_is)
    (case c10 => k_is)
    (case k10 => k_is)
    (case a11 => k_is)
    (case l11 => k_is)
    (case c11 => k_is)
    (case k11 => k_is)
    (case a12 => k_is)
    (case l12 => k_is)
    (case c12 => k_is)
    (case k12 => k_is)
    (case a13 => k_is)
    (case l13 => k_is)
    (case c13 => k_is)
    (case k13 => k_is)
    (case a14 => k_is)
    (case l14 => k_is)
    (case c14 => k_is)
    (case k14 => k_is)
    (case a15 => k_is)
    (case l15 => k_is)
    (case c15 => k_is)
    (case k15 => k_is)
    (case a16 => k_is)
    (case l16 => k_is)
    (case c16 => k_is)
    (case k16 => k_is)
    (case z_abs => k_is)
    (case z_bool => k_is)
    (case z_int => k_is)
    (case z_isinstance => k_is)
    (case z_len => k_is)
    (case z_list => k_is)
    (case z_min => k_is)
    (case z_range => k_is)
    (case z_str => k_is)
    (case z_tuple => k_is)
