import PyProof.Rows.All
import Wide.All
import OpenK.AllK
import Wide.FinOn
import HandS.ForMost
import HandS.ForExc
import HandS.CallSlots
import HandS.Flow
import HandS.StrMore
import HandS.IsInst
import HandS.Exc
import HandS.ExcOwn
import HandS.TryOnly
import HandS.ExcInit
import HandS.ExcField
import HandS.ExcIs
import HandS.Small
import KE.KIsAll
import KE.KExcIs
import HandS.Replace
import HandS.Style
import KE.SortData
import KE.DataCmp
import PyProof.Rows.StrStep
import PyProof.Rows.StrRev
import PyProof.SetNew
import PyProof.Rows.SetFrom
import HandS.Strs
import PyProof.StrWalks
import PyProof.FactsAll.subtypes_3
import PySem.Challenge.RW_wayfill_k00_word_order
set_option Elab.async false
set_option linter.all false
set_option maxRecDepth 100000
/-! Data, worlds, what is left behind. -/
namespace Wf
open PySem PySem.Spec PyProof.Rows L2

/-- what a value is worth: data is deep; `ref i` is the live cell i -/
inductive D where
  | non | bl (b : Bool) | int (i : Int) | str (s : Str) | ty (n : String) | rf (a : Addr)
  | wl (l : List Int)
  | lst (l : List D) | tup (l : List D)
  | dct (ks : List Key) (vs : List D)
  | ins (C : Addr) (ns : List Str) (vs : List D)
  | exn (a : Addr) (od : Option Addr) (ns : List Str) (vs : List D)
  | ref (i : Nat)

structure Wd where
  p : List Addr
  F : Addr → Prop
  G : Addr → Prop
  H : Hp

structure Le (w w' : Wd) : Prop where
  pre : ∀ (i : Nat) (a : Addr), w.p[i]? = some a → w'.p[i]? = some a
  fr : ∀ a, w.F a → w'.F a
  keep : ∀ a, w.F a → w'.H a = w.H a
  gd : ∀ a, w.G a → w'.G a ∧ w'.H a = w.H a
theorem Le.refl (w : Wd) : Le w w := ⟨fun _ _ h => h, fun _ h => h, fun _ _ => rfl, fun _ h => ⟨h, rfl⟩⟩
theorem Le.trans {a b c : Wd} (x : Le a b) (y : Le b c) : Le a c :=
  ⟨fun i u h => y.pre i u (x.pre i u h), fun u h => y.fr u (x.fr u h), fun u h => (y.keep u (x.fr u h)).trans (x.keep u h),
    fun u h => ⟨(y.gd u (x.gd u h).1).1, (y.gd u (x.gd u h).1).2.trans (x.gd u h).2⟩⟩

variable (K : PySem.W.Frag)
mutual
def Rep (w : Wd) : D → V → Prop
  | .non, v => v = .non
  | .bl b, v => v = .bl b
  | .int i, v => v = .int i
  | .str s, v => v = .str s
  | .ty n, v => v = .ty n
  | .rf a, v => v = .ref a
  | .wl l, v => ∃ a, v = .ref a ∧ ((w.F a ∧ SqL K w.H a (l.map V.int)) ∨ ∀ H, SqL K H a (l.map V.int))
  | .lst l, v => ∃ a xs, v = .ref a ∧ w.F a ∧ w.H a = some (.lst xs) ∧ Reps w l xs
  | .tup l, v => ∃ a xs, v = .ref a ∧ w.F a ∧ w.H a = some (.tup xs) ∧ Reps w l xs
  | .dct ks l, v => ∃ a xs, v = .ref a ∧ w.F a ∧ w.H a = some (.dK (ks.zip xs)) ∧ ks.length = xs.length ∧ Reps w l xs
  | .ins C ns l, v => ∃ a dx xs, v = .ref a ∧ w.F a ∧ w.H a = some (.ins C dx (ns.zip xs)) ∧ ns.length = xs.length ∧ Reps w l xs
  | .exn a od ns l, v => v = .ref a ∧ ((ns = [] ∧ l = [] ∧ od = none) ∨ ∃ d xs, od = some d ∧ w.F d ∧ w.H d = some (.xd (ns.zip xs)) ∧ ns.length = xs.length ∧ Reps w l xs)
  | .ref i, v => ∃ a, v = .ref a ∧ w.p[i]? = some a
def Reps (w : Wd) : List D → List V → Prop
  | [], xs => xs = []
  | d :: ds, xs => ∃ v vs, xs = v :: vs ∧ Rep w d v ∧ Reps w ds vs
end
/-- what stands at the live address a -/
def ORep (w : Wd) (a : Addr) : D → Prop
  | .lst l => ∃ xs, w.H a = some (.lst xs) ∧ Reps K w l xs
  | .dct ks l => ∃ xs, w.H a = some (.dK (ks.zip xs)) ∧ ks.length = xs.length ∧ Reps K w l xs
  | .ins C ns l => ∃ dx xs, w.H a = some (.ins C dx (ns.zip xs)) ∧ ns.length = xs.length ∧ Reps K w l xs
  | _ => ∃ o, w.H a = some o
-- no cell is named in it
mutual
def nr : D → Bool
  | .lst l => nrs l
  | .tup l => nrs l
  | .dct _ l => nrs l
  | .ins _ _ l => nrs l
  | .exn _ _ _ l => nrs l
  | .ref _ => false
  | _ => true
def nrs : List D → Bool
  | [] => true
  | d :: ds => nr d && nrs ds
end

/-- a cell that is given up: what it held is data from then on -/
def isTomb : D → Bool
  | .non => true
  | _ => false
structure Sim (w : Wd) (cs : List D) : Prop where
  len : w.p.length = cs.length
  nd : ∀ (i j : Nat) (a : Addr), w.p[i]? = some a → w.p[j]? = some a → i = j
  trk : ∀ a, w.F a → ∃ o, w.H a = some o
  gtr : ∀ a, w.G a → ¬ w.F a ∧ (∃ o, w.H a = some o) ∧ ∀ i : Nat, w.p[i]? ≠ some a
  cell : ∀ (i : Nat) (a : Addr) (d : D), w.p[i]? = some a → cs[i]? = some d → (isTomb d = false → ¬ w.F a) ∧ (∃ o, w.H a = some o) ∧ ORep K w a d ∧ nr d = true

theorem Le.sql {w w' : Wd} {a : Addr} {xs : List V} (e : Le w w') (f : w.F a) (h : SqL K w.H a xs) : SqL K w'.H a xs := by
  rcases h with h | h
  · refine .inl ?_
    unfold Rd
    rw [e.keep a f]
    exact h
  · exact .inr h
mutual
theorem Rep.mono {w w' : Wd} (e : Le w w') : ∀ (d : D) (v : V), Rep K w d v → Rep K w' d v
  | .non, v, h => h
  | .bl b, v, h => h
  | .int i, v, h => h
  | .str s, v, h => h
  | .ty n, v, h => h
  | .rf a, v, h => h
  | .wl l, v, h => by
    obtain ⟨a, e1, h | h⟩ := h
    · exact ⟨a, e1, .inl ⟨e.fr a h.1, e.sql K h.1 h.2⟩⟩
    · exact ⟨a, e1, .inr h⟩
  | .lst l, v, h => by
    obtain ⟨a, xs, e1, f, g, r⟩ := h
    exact ⟨a, xs, e1, e.fr a f, (e.keep a f).trans g, Reps.mono e l xs r⟩
  | .tup l, v, h => by
    obtain ⟨a, xs, e1, f, g, r⟩ := h
    exact ⟨a, xs, e1, e.fr a f, (e.keep a f).trans g, Reps.mono e l xs r⟩
  | .dct ks l, v, h => by
    obtain ⟨a, xs, e1, f, g, q, r⟩ := h
    exact ⟨a, xs, e1, e.fr a f, (e.keep a f).trans g, q, Reps.mono e l xs r⟩
  | .ins C ns l, v, h => by
    obtain ⟨a, dx, xs, e1, f, g, q, r⟩ := h
    exact ⟨a, dx, xs, e1, e.fr a f, (e.keep a f).trans g, q, Reps.mono e l xs r⟩
  | .exn a od ns l, v, h => by
    obtain ⟨e1, h | ⟨d, xs, q, f, g, z, r⟩⟩ := h
    · exact ⟨e1, .inl h⟩
    · exact ⟨e1, .inr ⟨d, xs, q, e.fr d f, (e.keep d f).trans g, z, Reps.mono e l xs r⟩⟩
  | .ref i, v, h => by
    obtain ⟨a, e1, g⟩ := h
    exact ⟨a, e1, e.pre i a g⟩
theorem Reps.mono {w w' : Wd} (e : Le w w') : ∀ (l : List D) (xs : List V), Reps K w l xs → Reps K w' l xs
  | [], xs, h => h
  | d :: ds, xs, h => by
    obtain ⟨v, vs, e1, r, q⟩ := h
    exact ⟨v, vs, e1, Rep.mono e d v r, Reps.mono e ds vs q⟩
end
-- a value that names no cell stands whatever the cells are
mutual
theorem Rep.nr {w w' : Wd} (hp : ∀ a, w.F a → w'.F a) (hk : ∀ a, w.F a → w'.H a = w.H a) : ∀ (d : D) (v : V), nr d = true → Rep K w d v → Rep K w' d v
  | .non, v, _, h => h
  | .bl b, v, _, h => h
  | .int i, v, _, h => h
  | .str s, v, _, h => h
  | .ty n, v, _, h => h
  | .rf a, v, _, h => h
  | .wl l, v, _, h => by
    obtain ⟨a, e1, h | h⟩ := h
    · refine ⟨a, e1, .inl ⟨hp a h.1, ?_⟩⟩
      rcases h.2 with z | z
      · refine .inl ?_
        unfold Rd
        rw [hk a h.1]
        exact z
      · exact .inr z
    · exact ⟨a, e1, .inr h⟩
  | .lst l, v, n, h => by
    obtain ⟨a, xs, e1, f, g, r⟩ := h
    exact ⟨a, xs, e1, hp a f, (hk a f).trans g, Reps.nr hp hk l xs n r⟩
  | .tup l, v, n, h => by
    obtain ⟨a, xs, e1, f, g, r⟩ := h
    exact ⟨a, xs, e1, hp a f, (hk a f).trans g, Reps.nr hp hk l xs n r⟩
  | .dct ks l, v, n, h => by
    obtain ⟨a, xs, e1, f, g, q, r⟩ := h
    exact ⟨a, xs, e1, hp a f, (hk a f).trans g, q, Reps.nr hp hk l xs n r⟩
  | .ins C ns l, v, n, h => by
    obtain ⟨a, dx, xs, e1, f, g, q, r⟩ := h
    exact ⟨a, dx, xs, e1, hp a f, (hk a f).trans g, q, Reps.nr hp hk l xs n r⟩
  | .exn a od ns l, v, n, h => by
    obtain ⟨e1, h | ⟨d, xs, q, f, g, z, r⟩⟩ := h
    · exact ⟨e1, .inl h⟩
    · exact ⟨e1, .inr ⟨d, xs, q, hp d f, (hk d f).trans g, z, Reps.nr hp hk l xs n r⟩⟩
  | .ref i, v, n, h => by cases n
theorem Reps.nr {w w' : Wd} (hp : ∀ a, w.F a → w'.F a) (hk : ∀ a, w.F a → w'.H a = w.H a) : ∀ (l : List D) (xs : List V), nrs l = true → Reps K w l xs → Reps K w' l xs
  | [], xs, _, h => h
  | d :: ds, xs, n, h => by
    obtain ⟨v, vs, e1, r, q⟩ := h
    have n' : (Wf.nr d && nrs ds) = true := n
    rw [Bool.and_eq_true] at n'
    exact ⟨v, vs, e1, Rep.nr hp hk d v n'.1 r, Reps.nr hp hk ds vs n'.2 q⟩
end
mutual
theorem Rep.g {w w' : Wd} (e1 : w.p = w'.p) (e2 : w.F = w'.F) (e3 : w.H = w'.H) : ∀ (d : D) (v : V), Rep K w d v → Rep K w' d v
  | .non, v, h => h
  | .bl b, v, h => h
  | .int i, v, h => h
  | .str s, v, h => h
  | .ty n, v, h => h
  | .rf a, v, h => h
  | .wl l, v, h => by
    obtain ⟨a, q, h⟩ := h
    exact ⟨a, q, by rw [← e2, ← e3]; exact h⟩
  | .lst l, v, h => by
    obtain ⟨a, xs, q, f, g, r⟩ := h
    exact ⟨a, xs, q, by rw [← e2]; exact f, by rw [← e3]; exact g, Reps.g e1 e2 e3 l xs r⟩
  | .tup l, v, h => by
    obtain ⟨a, xs, q, f, g, r⟩ := h
    exact ⟨a, xs, q, by rw [← e2]; exact f, by rw [← e3]; exact g, Reps.g e1 e2 e3 l xs r⟩
  | .dct ks l, v, h => by
    obtain ⟨a, xs, q, f, g, z, r⟩ := h
    exact ⟨a, xs, q, by rw [← e2]; exact f, by rw [← e3]; exact g, z, Reps.g e1 e2 e3 l xs r⟩
  | .ins C ns l, v, h => by
    obtain ⟨a, dx, xs, q, f, g, z, r⟩ := h
    exact ⟨a, dx, xs, q, by rw [← e2]; exact f, by rw [← e3]; exact g, z, Reps.g e1 e2 e3 l xs r⟩
  | .exn a od ns l, v, h => by
    obtain ⟨q0, h | ⟨d, xs, q, f, g, z, r⟩⟩ := h
    · exact ⟨q0, .inl h⟩
    · exact ⟨q0, .inr ⟨d, xs, q, by rw [← e2]; exact f, by rw [← e3]; exact g, z, Reps.g e1 e2 e3 l xs r⟩⟩
  | .ref i, v, h => by
    obtain ⟨a, q, g⟩ := h
    exact ⟨a, q, by rw [← e1]; exact g⟩
theorem Reps.g {w w' : Wd} (e1 : w.p = w'.p) (e2 : w.F = w'.F) (e3 : w.H = w'.H) : ∀ (l : List D) (xs : List V), Reps K w l xs → Reps K w' l xs
  | [], xs, h => h
  | d :: ds, xs, h => by
    obtain ⟨v, vs, q, r, z⟩ := h
    exact ⟨v, vs, q, Rep.g e1 e2 e3 d v r, Reps.g e1 e2 e3 ds vs z⟩
end
theorem Reps.length {w : Wd} : ∀ {l : List D} {xs : List V}, Reps K w l xs → l.length = xs.length
  | [], xs, h => by cases (show xs = [] from h); rfl
  | d :: ds, xs, h => by
    obtain ⟨v, vs, e1, r, q⟩ := h
    subst e1
    show ds.length + 1 = vs.length + 1
    rw [Reps.length q]
theorem Reps.get {w : Wd} : ∀ {l : List D} {xs : List V} {i : Nat} {d : D}, Reps K w l xs → l[i]? = some d → ∃ v, xs[i]? = some v ∧ Rep K w d v
  | [], xs, i, d, h, e => by simp at e
  | d' :: ds, xs, 0, d, h, e => by
    obtain ⟨v, vs, e1, r, q⟩ := h
    have e2 : d' = d := Option.some.inj e
    subst e1 e2
    exact ⟨v, rfl, r⟩
  | d' :: ds, xs, i + 1, d, h, e => by
    obtain ⟨v, vs, e1, r, q⟩ := h
    subst e1
    exact Reps.get (l := ds) (xs := vs) (i := i) q e
theorem Reps.app {w : Wd} : ∀ {l m : List D} {xs ys : List V}, Reps K w l xs → Reps K w m ys → Reps K w (l ++ m) (xs ++ ys)
  | [], m, xs, ys, h, g => by cases (show xs = [] from h); exact g
  | d :: ds, m, xs, ys, h, g => by
    obtain ⟨v, vs, e1, r, q⟩ := h
    subst e1
    exact ⟨v, vs ++ ys, rfl, r, Reps.app q g⟩
theorem Reps.take {w : Wd} : ∀ {l : List D} {xs : List V} (n : Nat), Reps K w l xs → Reps K w (l.take n) (xs.take n)
  | l, xs, 0, h => by rw [List.take_zero, List.take_zero]; rfl
  | [], xs, n + 1, h => by cases (show xs = [] from h); rfl
  | d :: ds, xs, n + 1, h => by
    obtain ⟨v, vs, e1, r, q⟩ := h
    subst e1
    exact ⟨v, vs.take n, rfl, r, Reps.take n q⟩
theorem Reps.drop {w : Wd} : ∀ {l : List D} {xs : List V} (n : Nat), Reps K w l xs → Reps K w (l.drop n) (xs.drop n)
  | l, xs, 0, h => h
  | [], xs, n + 1, h => by cases (show xs = [] from h); rfl
  | d :: ds, xs, n + 1, h => by
    obtain ⟨v, vs, e1, r, q⟩ := h
    subst e1
    exact Reps.drop (l := ds) n q
theorem Reps.set {w : Wd} {d' : D} {v' : V} (r' : Rep K w d' v') : ∀ {l : List D} {xs : List V} (n : Nat), Reps K w l xs → Reps K w (l.set n d') (xs.set n v')
  | [], xs, n, h => by cases (show xs = [] from h); rfl
  | d :: ds, xs, 0, h => by
    obtain ⟨v, vs, e1, r, q⟩ := h
    subst e1
    exact ⟨v', vs, rfl, r', q⟩
  | d :: ds, xs, n + 1, h => by
    obtain ⟨v, vs, e1, r, q⟩ := h
    subst e1
    exact ⟨v, vs.set n v', rfl, r, Reps.set r' n q⟩
theorem Reps.ints {w : Wd} : ∀ (ns : List Int), Reps K w (ns.map D.int) (ns.map V.int)
  | [] => rfl
  | n :: ns => ⟨_, _, rfl, rfl, Reps.ints ns⟩
theorem Reps.strs {w : Wd} : ∀ (ns : List Str), Reps K w (ns.map D.str) (ns.map V.str)
  | [] => rfl
  | n :: ns => ⟨_, _, rfl, rfl, Reps.strs ns⟩
theorem Reps.ints_eq {w : Wd} : ∀ {ns : List Int} {xs : List V}, Reps K w (ns.map D.int) xs → xs = ns.map V.int
  | [], xs, h => h
  | n :: ns, xs, h => by
    obtain ⟨v, vs, e1, r, q⟩ := h
    subst e1
    cases (show v = V.int n from r)
    rw [Reps.ints_eq (ns := ns) q]
    rfl
theorem Reps.strs_eq {w : Wd} : ∀ {ns : List Str} {xs : List V}, Reps K w (ns.map D.str) xs → xs = ns.map V.str
  | [], xs, h => h
  | n :: ns, xs, h => by
    obtain ⟨v, vs, e1, r, q⟩ := h
    subst e1
    cases (show v = V.str n from r)
    rw [Reps.strs_eq (ns := ns) q]
    rfl
theorem nrs_app (l m : List D) : nrs (l ++ m) = (nrs l && nrs m) := by
  induction l with
  | nil => rfl
  | cons d l ih =>
    show (nr d && nrs (l ++ m)) = ((nr d && nrs l) && nrs m)
    rw [ih, Bool.and_assoc]
theorem nrs_all (l : List D) : nrs l = l.all nr := by
  induction l with
  | nil => rfl
  | cons d l ih =>
    show (nr d && nrs l) = (nr d && l.all nr)
    rw [ih]

/-! ### worlds that grow -/
def Wd.new (w : Wd) (a : Addr) (o : HO) : Wd := ⟨w.p, fun b => w.F b ∨ b = a, w.G, upd w.H a o⟩
def Wd.live (w : Wd) (a : Addr) (o : HO) : Wd := ⟨w.p ++ [a], w.F, w.G, upd w.H a o⟩
def Wd.put (w : Wd) (a : Addr) (o : HO) : Wd := ⟨w.p, w.F, w.G, upd w.H a o⟩
/-- a is watched: nobody else may touch it -/
def Wd.hold (w : Wd) (a : Addr) (o : HO) : Wd := ⟨w.p, w.F, fun b => w.G b ∨ b = a, upd w.H a o⟩
variable {K}
theorem Sim.fresh {w : Wd} {cs : List D} {a : Addr} (s : Sim K w cs) (h : w.H a = none) : ¬ w.F a ∧ (∀ i : Nat, w.p[i]? ≠ some a) ∧ ¬ w.G a := by
  refine ⟨fun f => ?_, fun i e => ?_, fun g => ?_⟩
  · obtain ⟨o, ho⟩ := s.trk a f
    rw [h] at ho
    cases ho
  · have hi : i < cs.length := by
      rw [← s.len]
      exact (List.getElem?_eq_some_iff.mp e).1
    obtain ⟨_, ⟨o, ho⟩, _⟩ := s.cell i a cs[i] e (List.getElem?_eq_getElem hi)
    rw [h] at ho
    cases ho
  · obtain ⟨_, ⟨o, ho⟩, _⟩ := s.gtr a g
    rw [h] at ho
    cases ho
theorem Sim.le_new {w : Wd} {cs : List D} {a : Addr} {o : HO} (s : Sim K w cs) (h : w.H a = none) : Le w (w.new a o) := by
  refine ⟨fun _ _ h => h, fun b f => .inl f, fun b f => ?_, fun b g => ⟨g, ?_⟩⟩
  · exact upd_ne fun e => (s.fresh h).1 (e ▸ f)
  · exact upd_ne fun e => (s.fresh h).2.2 (e ▸ g)
theorem Sim.le_live {w : Wd} {cs : List D} {a : Addr} {o : HO} (s : Sim K w cs) (h : w.H a = none) : Le w (w.live a o) := by
  refine ⟨fun i b h => ?_, fun b f => f, fun b f => ?_, fun b g => ⟨g, upd_ne fun e => (s.fresh h).2.2 (e ▸ g)⟩⟩
  · show (w.p ++ [a])[i]? = some b
    rw [List.getElem?_append_left (List.getElem?_eq_some_iff.mp h).1]
    exact h
  · exact upd_ne fun e => (s.fresh h).1 (e ▸ f)
theorem Sim.le_put {w : Wd} {cs : List D} {a : Addr} {o : HO} {i : Nat} {d : D} (s : Sim K w cs) (h : w.p[i]? = some a) (hd : cs[i]? = some d) (ht : isTomb d = false := by rfl) : Le w (w.put a o) := by
  refine ⟨fun _ _ h => h, fun b f => f, fun b f => ?_, fun b g => ⟨g, upd_ne fun e => (s.gtr b g).2.2 i (e ▸ h)⟩⟩
  exact upd_ne fun e => (s.cell i a d h hd).1 ht (e ▸ f)
theorem Sim.le_hold {w : Wd} {cs : List D} {a : Addr} {o : HO} (s : Sim K w cs) (h : w.H a = none) : Le w (w.hold a o) :=
  ⟨fun _ _ h => h, fun b f => f, fun b f => upd_ne fun e => (s.fresh h).1 (e ▸ f), fun b g => ⟨.inl g, upd_ne fun e => (s.fresh h).2.2 (e ▸ g)⟩⟩
theorem ORep.mono {w w' : Wd} {a : Addr} (e : Le w w') (hk : w'.H a = w.H a) : ∀ d : D, ORep K w a d → ORep K w' a d
  | .lst l, ⟨xs, h, r⟩ => ⟨xs, hk.trans h, Reps.mono K e _ _ r⟩
  | .dct ks l, ⟨xs, h, q, r⟩ => ⟨xs, hk.trans h, q, Reps.mono K e _ _ r⟩
  | .ins C ns l, ⟨dx, xs, h, q, r⟩ => ⟨dx, xs, hk.trans h, q, Reps.mono K e _ _ r⟩
  | .non, ⟨o, h⟩ => ⟨o, hk.trans h⟩
  | .bl _, ⟨o, h⟩ => ⟨o, hk.trans h⟩
  | .int _, ⟨o, h⟩ => ⟨o, hk.trans h⟩
  | .str _, ⟨o, h⟩ => ⟨o, hk.trans h⟩
  | .ty _, ⟨o, h⟩ => ⟨o, hk.trans h⟩
  | .rf _, ⟨o, h⟩ => ⟨o, hk.trans h⟩
  | .wl _, ⟨o, h⟩ => ⟨o, hk.trans h⟩
  | .tup _, ⟨o, h⟩ => ⟨o, hk.trans h⟩
  | .exn _ _ _ _, ⟨o, h⟩ => ⟨o, hk.trans h⟩
  | .ref _, ⟨o, h⟩ => ⟨o, hk.trans h⟩
theorem Sim.new {w : Wd} {cs : List D} {a : Addr} {o : HO} (s : Sim K w cs) (h : w.H a = none) : Sim K (w.new a o) cs := by
  have le := s.le_new (o := o) h
  refine ⟨s.len, s.nd, fun b f => ?_, fun b g => ?_, fun i b d hi hd => ?_⟩
  · rcases f with f | f
    · obtain ⟨u, hu⟩ := s.trk b f
      exact ⟨u, (le.keep b f).trans hu⟩
    · exact ⟨o, by rw [f]; exact upd_same⟩
  · obtain ⟨g1, ⟨u, g2⟩, g3⟩ := s.gtr b g
    have ne : b ≠ a := fun e => (s.fresh h).2.2 (e ▸ g)
    exact ⟨fun f => f.elim g1 ne, ⟨u, (upd_ne ne).trans g2⟩, g3⟩
  · obtain ⟨c1, c2, c3, c4⟩ := s.cell i b d hi hd
    have ne : b ≠ a := fun e => (s.fresh h).2.1 i (e ▸ hi)
    have hk : (w.new a o).H b = w.H b := upd_ne ne
    refine ⟨fun t f => ?_, ?_, c3.mono le hk, c4⟩
    · rcases f with f | f
      · exact c1 t f
      · exact ne f
    · rw [hk]
      exact c2
theorem Sim.live {w : Wd} {cs : List D} {a : Addr} {o : HO} {d : D} (s : Sim K w cs) (h : w.H a = none) (hn : nr d = true) (hr : ORep K (w.live a o) a d) : Sim K (w.live a o) (cs ++ [d]) := by
  have le := s.le_live (o := o) h
  refine ⟨?_, fun i j b hi hj => ?_, fun b f => ?_, fun b g => ?_, fun i b d' hi hd => ?_⟩
  · show (w.p ++ [a]).length = (cs ++ [d]).length
    rw [List.length_append, List.length_append, s.len]
    rfl
  · have hi' : (w.p ++ [a])[i]? = some b := hi
    have hj' : (w.p ++ [a])[j]? = some b := hj
    have li := (List.getElem?_eq_some_iff.mp hi').1
    have lj := (List.getElem?_eq_some_iff.mp hj').1
    rw [List.length_append] at li lj
    by_cases i1 : i < w.p.length
    · rw [List.getElem?_append_left i1] at hi'
      by_cases j1 : j < w.p.length
      · rw [List.getElem?_append_left j1] at hj'
        exact s.nd i j b hi' hj'
      · rw [List.getElem?_append_right (by omega)] at hj'
        have e : j - w.p.length = 0 := by simp at lj; omega
        rw [e] at hj'
        have e2 : a = b := Option.some.inj hj'
        exact absurd (e2 ▸ hi') ((s.fresh h).2.1 i)
    · rw [List.getElem?_append_right (by omega)] at hi'
      have e : i - w.p.length = 0 := by simp at li; omega
      rw [e] at hi'
      have e2 : a = b := Option.some.inj hi'
      by_cases j1 : j < w.p.length
      · rw [List.getElem?_append_left j1] at hj'
        exact absurd (e2 ▸ hj') ((s.fresh h).2.1 j)
      · simp at li lj
        omega
  · obtain ⟨u, hu⟩ := s.trk b f
    exact ⟨u, (le.keep b f).trans hu⟩
  · obtain ⟨g1, ⟨u, g2⟩, g3⟩ := s.gtr b g
    have ne : b ≠ a := fun e => (s.fresh h).2.2 (e ▸ g)
    refine ⟨g1, ⟨u, (upd_ne ne).trans g2⟩, fun i hi => ?_⟩
    have hi' : (w.p ++ [a])[i]? = some b := hi
    by_cases i1 : i < w.p.length
    · rw [List.getElem?_append_left i1] at hi'
      exact g3 i hi'
    · have li := (List.getElem?_eq_some_iff.mp hi').1
      rw [List.length_append] at li
      simp at li
      have ei : i = w.p.length := by omega
      subst ei
      rw [List.getElem?_append_right (Nat.le_refl _), Nat.sub_self] at hi'
      exact ne (Option.some.inj hi').symm
  · have hi' : (w.p ++ [a])[i]? = some b := hi
    by_cases i1 : i < w.p.length
    · rw [List.getElem?_append_left i1] at hi'
      rw [List.getElem?_append_left (by rw [← s.len]; exact i1)] at hd
      obtain ⟨c1, c2, c3, c4⟩ := s.cell i b d' hi' hd
      have ne : b ≠ a := fun e => (s.fresh h).2.1 i (e ▸ hi')
      have hk : (w.live a o).H b = w.H b := upd_ne ne
      exact ⟨c1, by rw [hk]; exact c2, c3.mono le hk, c4⟩
    · have li := (List.getElem?_eq_some_iff.mp hi').1
      rw [List.length_append] at li
      simp at li
      have ei : i = w.p.length := by omega
      subst ei
      rw [List.getElem?_append_right (Nat.le_refl _), Nat.sub_self] at hi'
      rw [List.getElem?_append_right (by rw [s.len]; exact Nat.le_refl _), s.len, Nat.sub_self] at hd
      have e1 : a = b := Option.some.inj hi'
      have e2 : d = d' := Option.some.inj hd
      subst e1 e2
      exact ⟨fun _ => (s.fresh h).1, ⟨o, upd_same⟩, hr, hn⟩
theorem Sim.put {w : Wd} {cs : List D} {a : Addr} {o : HO} {i : Nat} {d0 d : D} (s : Sim K w cs) (hi : w.p[i]? = some a) (hd0 : cs[i]? = some d0) (hn : nr d = true) (hr : ORep K (w.put a o) a d) (ht : isTomb d0 = false := by rfl) : Sim K (w.put a o) (cs.set i d) := by
  have le := s.le_put (o := o) hi hd0 ht
  refine ⟨by rw [List.length_set]; exact s.len, s.nd, fun b f => ?_, fun b g => ?_, fun j b d' hj hd => ?_⟩
  · obtain ⟨u, hu⟩ := s.trk b f
    exact ⟨u, (le.keep b f).trans hu⟩
  · obtain ⟨g1, ⟨u, g2⟩, g3⟩ := s.gtr b g
    exact ⟨g1, ⟨u, (upd_ne (show b ≠ a from fun e => g3 i (by rw [e]; exact hi))).trans g2⟩, g3⟩
  · have hj' : w.p[j]? = some b := hj
    by_cases e : i = j
    · subst e
      have e1 : a = b := Option.some.inj (hi.symm.trans hj')
      subst e1
      rw [List.getElem?_set_self (List.getElem?_eq_some_iff.mp hd0).1] at hd
      have e2 : d = d' := Option.some.inj hd
      subst e2
      exact ⟨fun _ => (s.cell i a d0 hi hd0).1 ht, ⟨o, upd_same⟩, hr, hn⟩
    · rw [List.getElem?_set_ne e] at hd
      obtain ⟨c1, c2, c3, c4⟩ := s.cell j b d' hj' hd
      have ne : b ≠ a := fun z => e (s.nd i j a hi (z ▸ hj'))
      have hk : (w.put a o).H b = w.H b := upd_ne ne
      exact ⟨c1, by rw [hk]; exact c2, c3.mono le hk, c4⟩
theorem Sim.hold {w : Wd} {cs : List D} {a : Addr} {o : HO} (s : Sim K w cs) (h : w.H a = none) : Sim K (w.hold a o) cs := by
  have le := s.le_hold (o := o) h
  refine ⟨s.len, s.nd, fun b f => ?_, fun b g => ?_, fun i b d hi hd => ?_⟩
  · obtain ⟨u, hu⟩ := s.trk b f
    exact ⟨u, (le.keep b f).trans hu⟩
  · rcases g with g | g
    · obtain ⟨g1, ⟨u, g2⟩, g3⟩ := s.gtr b g
      have ne : b ≠ a := fun e => (s.fresh h).2.2 (e ▸ g)
      exact ⟨g1, ⟨u, (upd_ne ne).trans g2⟩, g3⟩
    · subst g
      exact ⟨(s.fresh h).1, ⟨o, upd_same⟩, (s.fresh h).2.1⟩
  · obtain ⟨c1, c2, c3, c4⟩ := s.cell i b d hi hd
    have ne : b ≠ a := fun e => (s.fresh h).2.1 i (e ▸ hi)
    have hk : (w.hold a o).H b = w.H b := upd_ne ne
    exact ⟨c1, by rw [hk]; exact c2, c3.mono le hk, c4⟩
/-- the watched thing changes -/
def Wd.turn (w : Wd) (a : Addr) (o : HO) : Wd := ⟨w.p, w.F, w.G, upd w.H a o⟩
/-- what is watched in w but for a, in the world w' -/
structure LeB (a : Addr) (w w' : Wd) : Prop where
  pre : ∀ (i : Nat) (b : Addr), w.p[i]? = some b → w'.p[i]? = some b
  fr : ∀ b, w.F b → w'.F b
  keep : ∀ b, w.F b → w'.H b = w.H b
  gd : ∀ b, w.G b → b ≠ a → w'.G b ∧ w'.H b = w.H b
theorem Le.b {w w' : Wd} (e : Le w w') (a : Addr) : LeB a w w' := ⟨e.pre, e.fr, e.keep, fun b g _ => e.gd b g⟩
theorem LeB.trans {x : Addr} {a b c : Wd} (e : LeB x a b) (f : LeB x b c) : LeB x a c :=
  ⟨fun i u h => f.pre i u (e.pre i u h), fun u h => f.fr u (e.fr u h), fun u h => (f.keep u (e.fr u h)).trans (e.keep u h),
    fun u h n => ⟨(f.gd u (e.gd u h n).1 n).1, (f.gd u (e.gd u h n).1 n).2.trans (e.gd u h n).2⟩⟩
theorem Sim.turnB {w : Wd} {cs : List D} {a : Addr} {o : HO} (s : Sim K w cs) (g : w.G a) : LeB a w (w.turn a o) :=
  ⟨fun _ _ h => h, fun _ h => h, fun b f => upd_ne fun e => (s.gtr a g).1 (e ▸ f), fun b g' n => ⟨g', upd_ne n⟩⟩
theorem Sim.turn {w : Wd} {cs : List D} {a : Addr} {o : HO} (s : Sim K w cs) (g : w.G a) : Sim K (w.turn a o) cs := by
  have le := s.turnB (o := o) g
  have hp : ∀ b, w.F b → (w.turn a o).F b := fun _ h => h
  refine ⟨s.len, s.nd, fun b f => ?_, fun b g' => ?_, fun i b d hi hd => ?_⟩
  · obtain ⟨u, hu⟩ := s.trk b f
    exact ⟨u, (le.keep b f).trans hu⟩
  · obtain ⟨g1, ⟨u, g2⟩, g3⟩ := s.gtr b g'
    by_cases e : b = a
    · subst e
      exact ⟨g1, ⟨o, upd_same⟩, g3⟩
    · exact ⟨g1, ⟨u, (upd_ne e).trans g2⟩, g3⟩
  · obtain ⟨c1, c2, c3, c4⟩ := s.cell i b d hi hd
    have ne : b ≠ a := fun e => (s.gtr a g).2.2 i (e ▸ hi)
    have hk : (w.turn a o).H b = w.H b := upd_ne ne
    refine ⟨c1, by rw [hk]; exact c2, ?_, c4⟩
    cases d with
    | lst l => obtain ⟨xs, h, r⟩ := c3; exact ⟨xs, hk.trans h, Reps.nr K hp le.keep _ _ c4 r⟩
    | dct ks l => obtain ⟨xs, h, q, r⟩ := c3; exact ⟨xs, hk.trans h, q, Reps.nr K hp le.keep _ _ c4 r⟩
    | ins C ns l => obtain ⟨dx, xs, h, q, r⟩ := c3; exact ⟨dx, xs, hk.trans h, q, Reps.nr K hp le.keep _ _ c4 r⟩
    | _ => obtain ⟨u, h⟩ := c3; exact ⟨u, hk.trans h⟩
theorem Rep.b {w w' : Wd} {a : Addr} (e : LeB a w w') (d : D) (v : V) (h : Rep K w d v) : Rep K w' d v := by
  have e2 : Le ⟨w.p, w.F, fun _ => False, w.H⟩ ⟨w'.p, w'.F, fun _ => False, w'.H⟩ := ⟨e.pre, e.fr, e.keep, fun _ g => g.elim⟩
  exact Rep.g K (w := ⟨w'.p, w'.F, fun _ => False, w'.H⟩) (w' := w') rfl rfl rfl d v (Rep.mono K e2 d v (Rep.g K (w := w) (w' := ⟨w.p, w.F, fun _ => False, w.H⟩) rfl rfl rfl d v h))
theorem Reps.b {w w' : Wd} {a : Addr} (e : LeB a w w') (d : List D) (v : List V) (h : Reps K w d v) : Reps K w' d v := by
  have e2 : Le ⟨w.p, w.F, fun _ => False, w.H⟩ ⟨w'.p, w'.F, fun _ => False, w'.H⟩ := ⟨e.pre, e.fr, e.keep, fun _ g => g.elim⟩
  exact Reps.g K (w := ⟨w'.p, w'.F, fun _ => False, w'.H⟩) (w' := w') rfl rfl rfl d v (Reps.mono K e2 d v (Reps.g K (w := w) (w' := ⟨w.p, w.F, fun _ => False, w.H⟩) rfl rfl rfl d v h))
/-- the watched thing settles -/
def Wd.settle (w : Wd) (a : Addr) : Wd := ⟨w.p, fun b => w.F b ∨ b = a, fun b => w.G b ∧ b ≠ a, w.H⟩
theorem Wd.settleB (w : Wd) (a : Addr) : LeB a w (w.settle a) := ⟨fun _ _ h => h, fun _ h => .inl h, fun _ _ => rfl, fun b g n => ⟨⟨g, n⟩, rfl⟩⟩
theorem Sim.settle {w : Wd} {cs : List D} {a : Addr} (s : Sim K w cs) (g : w.G a) : Sim K (w.settle a) cs := by
  refine ⟨s.len, s.nd, fun b f => ?_, fun b g' => ?_, fun i b d hi hd => ?_⟩
  · rcases f with f | f
    · exact s.trk b f
    · rw [f]
      exact (s.gtr a g).2.1
  · obtain ⟨g1, g2, g3⟩ := s.gtr b g'.1
    exact ⟨fun f => f.elim g1 g'.2, g2, g3⟩
  · obtain ⟨c1, c2, c3, c4⟩ := s.cell i b d hi hd
    refine ⟨fun t f => f.elim (c1 t) fun e => (s.gtr a g).2.2 i (e ▸ hi), c2, ?_, c4⟩
    have hp : ∀ b, w.F b → (w.settle a).F b := fun _ h => .inl h
    have hk : ∀ b, w.F b → (w.settle a).H b = w.H b := fun _ _ => rfl
    cases d with
    | lst l => obtain ⟨xs, h, r⟩ := c3; exact ⟨xs, h, Reps.nr K hp hk _ _ c4 r⟩
    | dct ks l => obtain ⟨xs, h, q, r⟩ := c3; exact ⟨xs, h, q, Reps.nr K hp hk _ _ c4 r⟩
    | ins C ns l => obtain ⟨dx, xs, h, q, r⟩ := c3; exact ⟨dx, xs, h, q, Reps.nr K hp hk _ _ c4 r⟩
    | _ => obtain ⟨u, h⟩ := c3; exact ⟨u, h⟩
/-- the watched thing becomes a cell -/
def Wd.adopt (w : Wd) (a : Addr) : Wd := ⟨w.p ++ [a], w.F, fun b => w.G b ∧ b ≠ a, w.H⟩
theorem Wd.adoptB (w : Wd) (a : Addr) : LeB a w (w.adopt a) := by
  refine ⟨fun i b h => ?_, fun _ h => h, fun _ _ => rfl, fun b g n => ⟨⟨g, n⟩, rfl⟩⟩
  show (w.p ++ [a])[i]? = some b
  rw [List.getElem?_append_left (List.getElem?_eq_some_iff.mp h).1]
  exact h
theorem Sim.adopt {w : Wd} {cs : List D} {a : Addr} {d : D} (s : Sim K w cs) (g : w.G a) (hn : nr d = true) (hr : ORep K w a d) : Sim K (w.adopt a) (cs ++ [d]) := by
  have hp : ∀ b, w.F b → (w.adopt a).F b := fun _ h => h
  have hk : ∀ b, w.F b → (w.adopt a).H b = w.H b := fun _ _ => rfl
  have tr : ∀ (b : Addr) (d : D), nr d = true → ORep K w b d → ORep K (w.adopt a) b d := fun b d c4 c3 => by
    cases d with
    | lst l => obtain ⟨xs, h, r⟩ := c3; exact ⟨xs, h, Reps.nr K hp hk _ _ c4 r⟩
    | dct ks l => obtain ⟨xs, h, q, r⟩ := c3; exact ⟨xs, h, q, Reps.nr K hp hk _ _ c4 r⟩
    | ins C ns l => obtain ⟨dx, xs, h, q, r⟩ := c3; exact ⟨dx, xs, h, q, Reps.nr K hp hk _ _ c4 r⟩
    | _ => obtain ⟨u, h⟩ := c3; exact ⟨u, h⟩
  refine ⟨?_, fun i j b hi hj => ?_, fun b f => s.trk b f, fun b g' => ?_, fun i b d' hi hd => ?_⟩
  · show (w.p ++ [a]).length = (cs ++ [d]).length
    rw [List.length_append, List.length_append, s.len]
    rfl
  · have hi' : (w.p ++ [a])[i]? = some b := hi
    have hj' : (w.p ++ [a])[j]? = some b := hj
    have li := (List.getElem?_eq_some_iff.mp hi').1
    have lj := (List.getElem?_eq_some_iff.mp hj').1
    rw [List.length_append] at li lj
    simp at li lj
    by_cases i1 : i < w.p.length
    · rw [List.getElem?_append_left i1] at hi'
      by_cases j1 : j < w.p.length
      · rw [List.getElem?_append_left j1] at hj'
        exact s.nd i j b hi' hj'
      · have e : j = w.p.length := by omega
        subst e
        rw [List.getElem?_append_right (Nat.le_refl _), Nat.sub_self] at hj'
        have e2 : a = b := Option.some.inj hj'
        subst e2
        exact absurd hi' ((s.gtr a g).2.2 i)
    · have e : i = w.p.length := by omega
      subst e
      rw [List.getElem?_append_right (Nat.le_refl _), Nat.sub_self] at hi'
      have e2 : a = b := Option.some.inj hi'
      subst e2
      by_cases j1 : j < w.p.length
      · rw [List.getElem?_append_left j1] at hj'
        exact absurd hj' ((s.gtr a g).2.2 j)
      · omega
  · obtain ⟨g1, g2, g3⟩ := s.gtr b g'.1
    refine ⟨g1, g2, fun i hi => ?_⟩
    have hi' : (w.p ++ [a])[i]? = some b := hi
    have li := (List.getElem?_eq_some_iff.mp hi').1
    rw [List.length_append] at li
    simp at li
    by_cases i1 : i < w.p.length
    · rw [List.getElem?_append_left i1] at hi'
      exact g3 i hi'
    · have e : i = w.p.length := by omega
      subst e
      rw [List.getElem?_append_right (Nat.le_refl _), Nat.sub_self] at hi'
      exact g'.2 (Option.some.inj hi').symm
  · have hi' : (w.p ++ [a])[i]? = some b := hi
    have li := (List.getElem?_eq_some_iff.mp hi').1
    rw [List.length_append] at li
    simp at li
    by_cases i1 : i < w.p.length
    · rw [List.getElem?_append_left i1] at hi'
      rw [List.getElem?_append_left (by rw [← s.len]; exact i1)] at hd
      obtain ⟨c1, c2, c3, c4⟩ := s.cell i b d' hi' hd
      exact ⟨c1, c2, tr b d' c4 c3, c4⟩
    · have e : i = w.p.length := by omega
      subst e
      rw [List.getElem?_append_right (Nat.le_refl _), Nat.sub_self] at hi'
      rw [List.getElem?_append_right (by rw [s.len]; exact Nat.le_refl _), s.len, Nat.sub_self] at hd
      have e1 : a = b := Option.some.inj hi'
      have e2 : d = d' := Option.some.inj hd
      subst e1 e2
      exact ⟨fun _ => (s.gtr a g).1, (s.gtr a g).2.1, tr a d hn hr, hn⟩
/-- what data lean on alone -/
structure Lx (w w' : Wd) : Prop where
  pre : ∀ (i : Nat) (b : Addr), w.p[i]? = some b → w'.p[i]? = some b
  fr : ∀ b, w.F b → w'.F b
  keep : ∀ b, w.F b → w'.H b = w.H b
theorem Le.x {w w' : Wd} (e : Le w w') : Lx w w' := ⟨e.pre, e.fr, e.keep⟩
theorem LeB.x {w w' : Wd} {a : Addr} (e : LeB a w w') : Lx w w' := ⟨e.pre, e.fr, e.keep⟩
theorem Lx.trans {a b c : Wd} (e : Lx a b) (f : Lx b c) : Lx a c :=
  ⟨fun i u h => f.pre i u (e.pre i u h), fun u h => f.fr u (e.fr u h), fun u h => (f.keep u (e.fr u h)).trans (e.keep u h)⟩
theorem Rep.x {w w' : Wd} (e : Lx w w') (d : D) (v : V) (h : Rep K w d v) : Rep K w' d v := by
  have e2 : Le ⟨w.p, w.F, fun _ => False, w.H⟩ ⟨w'.p, w'.F, fun _ => False, w'.H⟩ := ⟨e.pre, e.fr, e.keep, fun _ g => g.elim⟩
  exact Rep.g K (w := ⟨w'.p, w'.F, fun _ => False, w'.H⟩) (w' := w') rfl rfl rfl d v (Rep.mono K e2 d v (Rep.g K (w := w) (w' := ⟨w.p, w.F, fun _ => False, w.H⟩) rfl rfl rfl d v h))
theorem Lx.sql {w w' : Wd} {a : Addr} {xs : List V} (e : Lx w w') (f : w.F a) (h : SqL K w.H a xs) : SqL K w'.H a xs := by
  rcases h with h | h
  · refine .inl ?_
    unfold Rd
    rw [e.keep a f]
    exact h
  · exact .inr h
end Wf
set_option Elab.async false
set_option linter.all false
set_option maxRecDepth 100000
/-! Readings by mirrors. -/
namespace Wf
open PySem PySem.Spec PyProof.Rows L2

inductive R (α : Type) where
  | ok (a : α) (cs : List D)
  | err (x : D) (r : List (Option D)) (cs : List D)
  | bad
def R.bind {α β : Type} (r : R α) (k : α → List D → R β) : R β := match r with
  | .ok a cs => k a cs
  | .err x r cs => .err x r cs
  | .bad => .bad
@[simp] theorem R.bind_ok {α β : Type} (a : α) (cs : List D) (k : α → List D → R β) : (R.ok a cs).bind k = k a cs := (rfl)
@[simp] theorem R.bind_err {α β : Type} (x : D) (r : List (Option D)) (cs : List D) (k : α → List D → R β) : (R.err x r cs).bind k = .err x r cs := (rfl)
@[simp] theorem R.bind_bad {α β : Type} (k : α → List D → R β) : (R.bad : R α).bind k = .bad := (rfl)
theorem R.bind_assoc {α β γ : Type} (r : R α) (k : α → List D → R β) (h : β → List D → R γ) : (r.bind k).bind h = r.bind fun a cs => (k a cs).bind h := by
  cases r <;> rfl

abbrev Env := List (Option D)
abbrev M := Env → List D → R D
abbrev MT := Env → List D → R Bool
abbrev ML := Env → List D → R (List D)
inductive Fl where
  | nx (e : Env) | ret (d : D) | brk (e : Env) | ct (e : Env)
abbrev MS := Env → List D → R Fl
abbrev Fn := List D → List D → R D

section
variable (K : PySem.W.Frag)
def XRep (w : Wd) (x : D) (c : Value) (od : Option Addr) : Prop := match x with
  | .ins C ns l => c = .ref C ∧ ((ns = [] ∧ l = [] ∧ od = none) ∨ ∃ d xs, od = some d ∧ w.F d ∧ w.H d = some (.xd (ns.zip xs)) ∧ ns.length = xs.length ∧ Reps K w l xs)
  | .ty n => c = .type n ∧ od = none
  | _ => False
abbrev EE := Env → Wd → Value → Option Addr → Prop
def After (E : EE) (w : Wd) {α : Type} (r : R α) (P : α → List D → Wd → Prop) : Prop := match r with
  | .ok a cs => ∀ w', Le w w' → Sim K w' cs → P a cs w'
  | .err x r cs => ∀ w' c od, Le w w' → Sim K w' cs → XRep K w' x c od → E r w' c od
  | .bad => False
structure EnvR (w : Wd) (r : Env) (σ : L2.St) : Prop where
  len : σ.length = r.length
  at_ : ∀ (i : Nat) (d : D), r[i]? = some (some d) → ∃ v, σ[i]? = some (some v) ∧ Rep K w d v
end
section
variable {K : PySem.W.Frag} {E : EE} {w w' : Wd} {α β : Type}
theorem After.mono {r : R α} {P : α → List D → Wd → Prop} (e : Le w w') (h : After K E w r P) : After K E w' r P := by
  cases r with
  | ok a cs => exact fun w2 l s => h w2 (e.trans l) s
  | err x r cs => exact fun w2 c od l s x => h w2 c od (e.trans l) s x
  | bad => exact h
theorem After.imp {r : R α} {P P' : α → List D → Wd → Prop} (h : After K E w r P) (k : ∀ a cs w', Le w w' → Sim K w' cs → P a cs w' → P' a cs w') : After K E w r P' := by
  cases r with
  | ok a cs => exact fun w2 l s => k a cs w2 l s (h w2 l s)
  | err x r cs => exact h
  | bad => exact h
theorem After.bind {r : R α} {k : α → List D → R β} {P : β → List D → Wd → Prop} (h : After K E w (r.bind k) P) : After K E w r (fun a cs w' => After K E w' (k a cs) P) := by
  cases r with
  | ok a cs => exact fun w2 l s => After.mono l h
  | err x r cs => exact h
  | bad => exact h
theorem EnvR.mono {r : Env} {σ : L2.St} (e : Le w w') (h : EnvR K w r σ) : EnvR K w' r σ :=
  ⟨h.len, fun i d q => let ⟨v, a, b⟩ := h.at_ i d q; ⟨v, a, Rep.mono K e d v b⟩⟩
theorem EnvR.b {a : Addr} {r : Env} {σ : L2.St} (e : LeB a w w') (h : EnvR K w r σ) : EnvR K w' r σ :=
  ⟨h.len, fun i d q => let ⟨v, x, b⟩ := h.at_ i d q; ⟨v, x, Rep.b e d v b⟩⟩
theorem EnvR.set {r : Env} {σ : L2.St} {d : D} {v : V} (i : Nat) (h : EnvR K w r σ) (q : Rep K w d v) : EnvR K w (r.set i (some d)) (σ.set i (some v)) := by
  refine ⟨by rw [List.length_set, List.length_set]; exact h.len, fun j d' e => ?_⟩
  by_cases hj : i = j
  · subst hj
    have hl : i < r.length := by
      have z := (List.getElem?_eq_some_iff.mp e).1
      rw [List.length_set] at z
      exact z
    rw [List.getElem?_set_self hl] at e
    have e2 : d = d' := Option.some.inj (Option.some.inj e)
    subst e2
    exact ⟨v, List.getElem?_set_self (by rw [h.len]; exact hl), q⟩
  · rw [List.getElem?_set_ne hj] at e
    obtain ⟨u, a, b⟩ := h.at_ j d' e
    exact ⟨u, by rw [List.getElem?_set_ne hj]; exact a, b⟩
/-- a name's value is forgotten -/
theorem EnvR.unset {r : Env} {σ : L2.St} (i : Nat) (h : EnvR K w r σ) (o : Option V) : EnvR K w (r.set i none) (σ.set i o) := by
  refine ⟨by rw [List.length_set, List.length_set]; exact h.len, fun j d' e => ?_⟩
  by_cases hj : i = j
  · subst hj
    have hl : i < r.length := by
      have z := (List.getElem?_eq_some_iff.mp e).1
      rw [List.length_set] at z
      exact z
    rw [List.getElem?_set_self hl] at e
    cases e
  · rw [List.getElem?_set_ne hj] at e
    obtain ⟨u, a, b⟩ := h.at_ j d' e
    exact ⟨u, by rw [List.getElem?_set_ne hj]; exact a, b⟩
end

/-! ### readings -/
section
variable (K : PySem.W.Frag) (W : WX)
/-- what is wished of an exception, at an env -/
def EW : EE := fun r w' c od => ∀ σ', EnvR K w' r σ' → W c od σ' w'.H
def tE (m : M) : TE := fun σ H Q => ∃ w r cs, w.H = H ∧ Sim K w cs ∧ EnvR K w r σ ∧ After K (EW K W) w (m r cs) (fun d _ w' => ∀ v, Rep K w' d v → Q v w'.H)
def tT (m : MT) : TT := fun σ H Q => ∃ w r cs, w.H = H ∧ Sim K w cs ∧ EnvR K w r σ ∧ After K (EW K W) w (m r cs) (fun b _ w' => Q b w'.H)
def tA (m : ML) : TA := fun σ H Q => ∃ w r cs, w.H = H ∧ Sim K w cs ∧ EnvR K w r σ ∧ After K (EW K W) w (m r cs) (fun ds _ w' => ∀ vs, Reps K w' ds vs → Q vs w'.H)
def FlP (D : Ends) (fl : Fl) (w' : Wd) : Prop := match fl with
  | .nx r => ∀ σ', EnvR K w' r σ' → D.nx σ' w'.H
  | .brk r => ∀ σ', EnvR K w' r σ' → D.bk σ' w'.H
  | .ct r => ∀ σ', EnvR K w' r σ' → D.ct σ' w'.H
  | .ret d => ∀ v, Rep K w' d v → D.rt v w'.H
def tS (m : MS) : TS := fun D σ H => ∃ w r cs, w.H = H ∧ Sim K w cs ∧ EnvR K w r σ ∧ After K (EW K W) w (m r cs) (fun fl _ w' => FlP K D fl w')
end
abbrev JE (X : Cx) (W : WX) (e : Expr) (m : M) : Prop := PE X e (tE X.K W m)
abbrev JT (X : Cx) (W : WX) (e : Expr) (m : MT) : Prop := PT X e (tT X.K W m)
abbrev JA (X : Cx) (W : WX) (es : List Expr) (m : ML) : Prop := PA X es (tA X.K W m)
abbrev JS (X : Cx) (W : WX) (st : Stmt) (m : MS) : Prop := PS X st (tS X.K W m)
abbrev JB (X : Cx) (W : WX) (st : List Stmt) (m : MS) : Prop := PSs X st (tS X.K W m)
theorem peI {X : Cx} {e : Expr} {t t' : TE} (h : PE X e t) (k : ∀ σ H Q, t' σ H Q → t σ H Q) : PE X e t' := ⟨fun pins s σ H Q I q => h.run pins s σ H Q I (k σ H Q q)⟩
theorem ptI {X : Cx} {e : Expr} {t t' : TT} (h : PT X e t) (k : ∀ σ H Q, t' σ H Q → t σ H Q) : PT X e t' := ⟨fun pins s σ H Q I q => h.run pins s σ H Q I (k σ H Q q)⟩
theorem paI {X : Cx} {e : List Expr} {t t' : TA} (h : PA X e t) (k : ∀ σ H Q, t' σ H Q → t σ H Q) : PA X e t' := ⟨fun pos pins s σ H Q I q => h.run pos pins s σ H Q I (k σ H Q q)⟩
theorem psI {X : Cx} {e : Stmt} {t t' : TS} (h : PS X e t) (k : ∀ D σ H, t' D σ H → t D σ H) : PS X e t' := ⟨fun pins s σ H D I q => h.run pins s σ H D I (k D σ H q)⟩
theorem pssI {X : Cx} {e : List Stmt} {t t' : TS} (h : PSs X e t) (k : ∀ D σ H, t' D σ H → t D σ H) : PSs X e t' := ⟨fun pins s σ H D I q => h.run pins s σ H D I (k D σ H q)⟩

section
variable {X : Cx} {W : WX} {K : PySem.W.Frag}
/-! ### from a reading of m to what it leaves: the one step that all rules share -/
theorem tE.go {m : M} {k : D → List D → R D} {σ : L2.St} {H : Hp} {Q Q' : VK} (h : ∃ w r cs, w.H = H ∧ Sim K w cs ∧ EnvR K w r σ ∧ After K (EW K W) w ((m r cs).bind k) (fun d _ w' => ∀ v, Rep K w' d v → Q v w'.H))
    (q : ∀ w d cs v, Sim K w cs → Rep K w d v → After K (EW K W) w (k d cs) (fun d _ w' => ∀ v, Rep K w' d v → Q v w'.H) → Q' v w.H) : tE K W m σ H Q' := by
  obtain ⟨w, r, cs, e, s, ev, a⟩ := h
  exact ⟨w, r, cs, e, s, ev, (After.bind a).imp fun d cs' w' _ s' a' v rv => q w' d cs' v s' rv a'⟩
/-- a name -/
def mV (i : Nat) : M := fun r cs => match r[i]? with
  | some (some d) => .ok d cs
  | _ => .bad
theorem je_v (i : Nat) {x : Str} {pos : Pos} (hN : X.N[i]? = some x := by rfl) (hv : Vis X.env.scope x := by first | exact Or.inl rfl | exact Or.inr (Or.inl rfl) | exact Or.inr (Or.inr rfl)) (hd : (x == ("__debug__" : Str)) = false := by decide)
    (hcd : (x == ("__classdict__" : Str)) = false := by decide) : JE X W (.Name x pos) (mV i) := by
  refine peI (pe_var hN hv hd hcd) fun σ H Q ⟨w, r, cs, e, s, ev, a⟩ => ?_
  unfold mV at a
  split at a
  · rename_i d hd
    obtain ⟨v, h1, h2⟩ := ev.at_ i d hd
    exact ⟨v, h1, e ▸ a w (Le.refl w) s v h2⟩
  · exact a.elim
def mC (d : D) : M := fun _ cs => .ok d cs
theorem tC_of {d : D} {v : V} (hr : ∀ w, Rep K w d v) : ∀ σ H Q, tE K W (mC d) σ H Q → tC v σ H Q := fun σ H Q ⟨w, r, cs, e, s, ev, a⟩ => by
  have := a w (Le.refl w) s v (hr w)
  rw [e] at this
  exact this
theorem je_int {i j pos} : JE X W (.Constant (.int i) j pos) (mC (.int i)) := peI pe_int (tC_of fun _ => rfl)
theorem je_bl {b j pos} : JE X W (.Constant (.bool b) j pos) (mC (.bl b)) := peI pe_bl (tC_of fun _ => rfl)
theorem je_non {j pos} : JE X W (.Constant .none j pos) (mC .non) := peI pe_non (tC_of fun _ => rfl)
theorem je_str {x j pos} : JE X W (.Constant (.str x) j pos) (mC (.str x)) := peI pe_str (tC_of fun _ => rfl)
theorem je_glob {x : Str} {a : Addr} {pos : Pos} (hg : Gl X x) (hm : X.mg x = some (.ref a)) (hd : (x == ("__debug__" : Str)) = false := by decide) : JE X W (.Name x pos) (mC (.rf a)) :=
  peI (pe_glob (v := .ref a) hg hm rfl hd) (tC_of fun _ => rfl)
theorem je_ty {x : Str} {n : String} {pos : Pos} (hg : Gl X x) (hm : X.mg x = none) (hv : bootBuiltins x = some (.type n)) (hn : x ≠ "__name__" := by decide) (hd : (x == ("__debug__" : Str)) = false := by decide) : JE X W (.Name x pos) (mC (.ty n)) :=
  peI (pe_bltn (v := .ty n) hg hm hv rfl hn hd) (tC_of fun _ => rfl)

/-! ### operations on values -/
abbrev Op2 := D → D → List D → R D
def OpS (K : PySem.W.Frag) (r : R2) (f : Op2) : Prop := ∀ (E : EE) (w : Wd) (cs : List D) (x y : D) (vx vy : V) (Q : VK), Sim K w cs → Rep K w x vx → Rep K w y vy →
  After K E w (f x y cs) (fun d _ w' => ∀ v, Rep K w' d v → Q v w'.H) → r vx vy w.H Q
def mOp (f : Op2) (ma mb : M) : M := fun r cs => (ma r cs).bind fun x cs => (mb r cs).bind fun y cs => f x y cs
variable {a b c : Expr} {ma mb mc : M} {pos : Pos}
theorem t_op {r : R2} {f : Op2} (hs : OpS K r f) : ∀ σ H Q, tE K W (mOp f ma mb) σ H Q → tOp r (tE K W ma) (tE K W mb) σ H Q := fun σ H Q ⟨w, rr, cs, e, s, ev, a⟩ => by
  refine ⟨w, rr, cs, e, s, ev, (After.bind a).imp fun x cs1 w1 l1 s1 a1 v1 r1 => ?_⟩
  refine ⟨w1, rr, cs1, rfl, s1, ev.mono l1, (After.bind a1).imp fun y cs2 w2 l2 s2 a2 v2 r2 => ?_⟩
  exact hs _ w2 cs2 x y v1 v2 Q s2 (Rep.mono K l2 x v1 r1) r2 a2
theorem je_op {op : Operator} {r : R2} {f : Op2} (ho : OpR X (binaryOp op) r) (hs : OpS X.K r f) (ha : JE X W a ma) (hb : JE X W b mb) : JE X W (.BinOp a op b pos) (mOp f ma mb) := peI (pe_op ho ha hb) (t_op hs)
theorem je_cmp {op : CmpOp} {r : R2} {f : Op2} (ho : OpR X (compareOp op) r) (hs : OpS X.K r f) (ha : JE X W a ma) (hb : JE X W b mb) (hm : behindInMarks op b = false) : JE X W (.Compare a [op] [b] pos) (mOp f ma mb) := peI (pe_cmpR ho ha hb hm) (t_op hs)
theorem je_ix {r : R2} {f : Op2} (ho : IxR X r) (hs : OpS X.K r f) (ha : JE X W a ma) (hb : JE X W b mb) (hp : PlainIx b) : JE X W (.Subscript a b pos) (mOp f ma mb) := peI (pe_ix ho ha hb hp) (t_op hs)
/-- a value that is True or False, as a test -/
def mB (m : M) : MT := fun r cs => (m r cs).bind fun d cs => match d with
  | .bl b => .ok b cs
  | _ => .bad
theorem t_test {t : TE} {m : M} (ht : ∀ σ H Q, tE K W m σ H Q → t σ H Q) : ∀ σ H Q, tT K W (mB m) σ H Q → tTest t σ H Q := fun σ H Q ⟨w, rr, cs, e, s, ev, a⟩ => by
  refine ht σ H _ ⟨w, rr, cs, e, s, ev, (After.bind a).imp fun x cs1 w1 l1 s1 a1 v1 r1 => ?_⟩
  cases x with
  | bl b => exact ⟨b, r1, a1 w1 (Le.refl w1) s1⟩
  | _ => exact a1.elim
theorem jt_cmp {op : CmpOp} {r : R2} {f : Op2} (ho : OpR X (compareOp op) r) (hs : OpS X.K r f) (ha : JE X W a ma) (hb : JE X W b mb) (hm : behindInMarks op b = false) : JT X W (.Compare a [op] [b] pos) (mB (mOp f ma mb)) := ptI (pt_cmpR ho ha hb hm) (t_test (t_op hs))
theorem jt_val (h : JE X W a ma) (he : ∀ whole, isTrue a X.env whole = (do let v ← whole; standAt a.pos; holding [v] (truthy v)) := by intro _; rfl) : JT X W a (mB ma) := ptI (pt_val h he) (t_test fun _ _ _ h => h)
/-- a < b < c -/
def mChain (f g : Op2) (ma mb mc : M) : M := fun r cs => (ma r cs).bind fun x cs => (mb r cs).bind fun y cs => (f x y cs).bind fun z cs => match z with
  | .bl true => (mc r cs).bind fun u cs => g y u cs
  | .bl false => .ok (.bl false) cs
  | _ => .bad
theorem t_chain {r r' : R2} {f g : Op2} (hf : OpS K r f) (hg : OpS K r' g) : ∀ σ H Q, tE K W (mChain f g ma mb mc) σ H Q → tChain r r' (tE K W ma) (tE K W mb) (tE K W mc) σ H Q := fun σ H Q ⟨w, rr, cs, e, s, ev, a⟩ => by
  refine ⟨w, rr, cs, e, s, ev, (After.bind a).imp fun x cs1 w1 l1 s1 a1 v1 r1 => ?_⟩
  refine ⟨w1, rr, cs1, rfl, s1, ev.mono l1, (After.bind a1).imp fun y cs2 w2 l2 s2 a2 v2 r2 => ?_⟩
  refine hf _ w2 cs2 x y v1 v2 _ s2 (Rep.mono K l2 x v1 r1) r2 ((After.bind a2).imp fun z cs3 w3 l3 s3 a3 v3 r3 => ?_)
  cases z with
  | bl k =>
    cases k with
    | true =>
      refine ⟨true, r3, ?_⟩
      rw [if_pos rfl]
      refine ⟨w3, rr, cs3, rfl, s3, ev.mono (l1.trans (l2.trans l3)), (After.bind a3).imp fun u cs4 w4 l4 s4 a4 v4 r4 => ?_⟩
      exact hg _ w4 cs4 y u v2 v4 Q s4 (Rep.mono K (l3.trans l4) y v2 r2) r4 a4
    | false =>
      refine ⟨false, r3, ?_⟩
      rw [if_neg Bool.false_ne_true]
      exact a3 w3 (Le.refl w3) s3 (.bl false) rfl
  | _ => exact a3.elim
theorem je_chain {op op' : CmpOp} {r r' : R2} {f g : Op2} (ho : OpR X (compareOp op) r) (hf : OpS X.K r f) (ho' : OpR X (compareOp op') r') (hg : OpS X.K r' g) (ha : JE X W a ma) (hb : JE X W b mb) (hc : JE X W c mc)
    (hm : lastMarks [op, op'] [b, c] = false := by with_unfolding_all rfl) : JE X W (.Compare a [op, op'] [b, c] pos) (mChain f g ma mb mc) := peI (pe_chain ho ho' ha hb hc hm) (t_chain hf hg)
theorem jt_chain {op op' : CmpOp} {r r' : R2} {f g : Op2} (ho : OpR X (compareOp op) r) (hf : OpS X.K r f) (ho' : OpR X (compareOp op') r') (hg : OpS X.K r' g) (ha : JE X W a ma) (hb : JE X W b mb) (hc : JE X W c mc)
    (hm : lastMarks [op, op'] [b, c] = false := by with_unfolding_all rfl) : JT X W (.Compare a [op, op'] [b, c] pos) (mB (mChain f g ma mb mc)) := ptI (pt_chain ho ho' ha hb hc hm) (t_test (t_chain hf hg))
/-- one operand -/
abbrev Op1 := D → List D → R D
def UnS (K : PySem.W.Frag) (r : V → Hp → VK → Prop) (f : Op1) : Prop := ∀ (E : EE) (w : Wd) (cs : List D) (x : D) (vx : V) (Q : VK), Sim K w cs → Rep K w x vx →
  After K E w (f x cs) (fun d _ w' => ∀ v, Rep K w' d v → Q v w'.H) → r vx w.H Q
def mUn (f : Op1) (ma : M) : M := fun r cs => (ma r cs).bind fun x cs => f x cs
theorem je_un {op : UnaryOp} {r : V → Hp → VK → Prop} {f : Op1} (ho : UnR X (unaryOp op) r) (hs : UnS X.K r f) (ha : JE X W a ma) : JE X W (.UnaryOp op a pos) (mUn f ma) := by
  refine peI (pe_un ho ha) fun σ H Q ⟨w, rr, cs, e, s, ev, a⟩ => ?_
  exact ⟨w, rr, cs, e, s, ev, (After.bind a).imp fun x cs1 w1 l1 s1 a1 v1 r1 => hs _ w1 cs1 x v1 Q s1 r1 a1⟩

/-! ### tests -/
def mNot (m : MT) : MT := fun r cs => (m r cs).bind fun b cs => .ok (!b) cs
theorem jt_not {m : MT} (h : JT X W a m) : JT X W (.UnaryOp .Not a pos) (mNot m) := by
  refine ptI (pt_not h) fun σ H Q ⟨w, rr, cs, e, s, ev, a⟩ => ?_
  exact ⟨w, rr, cs, e, s, ev, (After.bind a).imp fun x cs1 w1 l1 s1 a1 => a1 w1 (Le.refl w1) s1⟩
def mAnd (m n : MT) : MT := fun r cs => (m r cs).bind fun b cs => if b then n r cs else .ok false cs
def mOr (m n : MT) : MT := fun r cs => (m r cs).bind fun b cs => if b then .ok true cs else n r cs
abbrev JW (X : Cx) (W : WX) (e : Expr) (m : MT) : Prop := PW X e (tT X.K W m)
theorem pwI {X : Cx} {e : Expr} {t t' : TT} (h : PW X e t) (k : ∀ σ H Q, t' σ H Q → t σ H Q) : PW X e t' := ⟨fun u pins s σ H Q I q => h.run u pins s σ H Q I (k σ H Q q)⟩
theorem t_and {m n : MT} : ∀ σ H Q, tT K W (mAnd m n) σ H Q → tAnd (tT K W m) (tT K W n) σ H Q := fun σ H Q ⟨w, rr, cs, e, s, ev, a⟩ => by
  refine ⟨w, rr, cs, e, s, ev, (After.bind a).imp fun x cs1 w1 l1 s1 a1 => ?_⟩
  cases x with
  | true =>
    rw [if_pos rfl]
    exact ⟨w1, rr, cs1, rfl, s1, ev.mono l1, a1⟩
  | false =>
    rw [if_neg Bool.false_ne_true]
    exact a1 w1 (Le.refl w1) s1
theorem t_or {m n : MT} : ∀ σ H Q, tT K W (mOr m n) σ H Q → tOr (tT K W m) (tT K W n) σ H Q := fun σ H Q ⟨w, rr, cs, e, s, ev, a⟩ => by
  refine ⟨w, rr, cs, e, s, ev, (After.bind a).imp fun x cs1 w1 l1 s1 a1 => ?_⟩
  cases x with
  | true =>
    rw [if_pos rfl]
    exact a1 w1 (Le.refl w1) s1
  | false =>
    rw [if_neg Bool.false_ne_true]
    exact ⟨w1, rr, cs1, rfl, s1, ev.mono l1, a1⟩
end
end Wf
set_option Elab.async false
set_option linter.all false
set_option maxRecDepth 100000
/-! Readings by mirrors: lists of arguments, displays, slices, calls, statements. -/
namespace Wf
open PySem PySem.Spec PyProof.Rows L2
section
variable {X : Cx} {W : WX} {K : PySem.W.Frag} {a b c e : Expr} {es : List Expr} {ma mb mc m n : M} {ml : ML} {mt : MT} {pos : Pos}
theorem jw_and {rest : List Expr} {m n : MT} (h : JT X W a m) (k : JW X W (.BoolOp .And (b :: rest) pos) n) : JW X W (.BoolOp .And (a :: b :: rest) pos) (mAnd m n) := pwI (pw_and h k) t_and
theorem jw_and1 {m : MT} (h : JT X W a m) : JW X W (.BoolOp .And [a] pos) m := pw_and1 h
theorem jw_or {rest : List Expr} {m n : MT} (h : JT X W a m) (k : JW X W (.BoolOp .Or (b :: rest) pos) n) : JW X W (.BoolOp .Or (a :: b :: rest) pos) (mOr m n) := pwI (pw_or h k) t_or
theorem jw_or1 {m : MT} (h : JT X W a m) : JW X W (.BoolOp .Or [a] pos) m := pw_or1 h
theorem JW.jt {m : MT} (h : JW X W e m) : JT X W e m := PW.pt h
/-- a and b, a or b as values (the left one True or False) -/
def mAndV (m n : M) : M := fun r cs => (m r cs).bind fun d cs => match d with
  | .bl true => n r cs
  | .bl false => .ok (.bl false) cs
  | _ => .bad
def mOrV (m n : M) : M := fun r cs => (m r cs).bind fun d cs => match d with
  | .bl true => .ok (.bl true) cs
  | .bl false => n r cs
  | _ => .bad
theorem je_and {rest : List Expr} (h : JE X W a m) (k : JE X W (.BoolOp .And (b :: rest) pos) n) : JE X W (.BoolOp .And (a :: b :: rest) pos) (mAndV m n) := by
  refine peI (pe_and h k) fun σ H Q ⟨w, rr, cs, e, s, ev, a⟩ => ?_
  refine ⟨w, rr, cs, e, s, ev, (After.bind a).imp fun x cs1 w1 l1 s1 a1 v r1 => ?_⟩
  cases x with
  | bl k =>
    refine ⟨k, r1, ?_⟩
    cases k with
    | true =>
      rw [if_pos rfl]
      exact ⟨w1, rr, cs1, rfl, s1, ev.mono l1, a1⟩
    | false =>
      rw [if_neg Bool.false_ne_true]
      exact a1 w1 (Le.refl w1) s1 _ rfl
  | _ => exact a1.elim
theorem je_or {rest : List Expr} (h : JE X W a m) (k : JE X W (.BoolOp .Or (b :: rest) pos) n) : JE X W (.BoolOp .Or (a :: b :: rest) pos) (mOrV m n) := by
  refine peI (pe_or h k) fun σ H Q ⟨w, rr, cs, e, s, ev, a⟩ => ?_
  refine ⟨w, rr, cs, e, s, ev, (After.bind a).imp fun x cs1 w1 l1 s1 a1 v r1 => ?_⟩
  cases x with
  | bl k =>
    refine ⟨k, r1, ?_⟩
    cases k with
    | true =>
      rw [if_pos rfl]
      exact a1 w1 (Le.refl w1) s1 _ rfl
    | false =>
      rw [if_neg Bool.false_ne_true]
      exact ⟨w1, rr, cs1, rfl, s1, ev.mono l1, a1⟩
  | _ => exact a1.elim
theorem je_one {op : BoolOp} (h : JE X W a m) : JE X W (.BoolOp op [a] pos) m := pe_one h
def mNotV (m : M) : M := fun r cs => (m r cs).bind fun d cs => match d with
  | .bl b => .ok (.bl (!b)) cs
  | _ => .bad
theorem je_not (h : JE X W a m) : JE X W (.UnaryOp .Not a pos) (mNotV m) := by
  refine peI (pe_not h) fun σ H Q ⟨w, rr, cs, e, s, ev, a⟩ => ?_
  refine ⟨w, rr, cs, e, s, ev, (After.bind a).imp fun x cs1 w1 l1 s1 a1 v r1 => ?_⟩
  cases x with
  | bl k => exact ⟨k, r1, a1 w1 (Le.refl w1) s1 _ rfl⟩
  | _ => exact a1.elim
def mIfE (c : MT) (m n : M) : M := fun r cs => (c r cs).bind fun b cs => if b then m r cs else n r cs
theorem je_ifE {mc : MT} (hc : JT X W c mc) (ha : JE X W a m) (hb : JE X W b n) : JE X W (.IfExp c a b pos) (mIfE mc m n) := by
  refine peI (pe_ifExp hc ha hb) fun σ H Q ⟨w, rr, cs, e, s, ev, a⟩ => ?_
  refine ⟨w, rr, cs, e, s, ev, (After.bind a).imp fun x cs1 w1 l1 s1 a1 => ?_⟩
  cases x with
  | true =>
    rw [if_pos rfl]
    exact ⟨w1, rr, cs1, rfl, s1, ev.mono l1, a1⟩
  | false =>
    rw [if_neg Bool.false_ne_true]
    exact ⟨w1, rr, cs1, rfl, s1, ev.mono l1, a1⟩
/-! ### arguments, displays -/
def mNil : ML := fun _ cs => .ok [] cs
def mCons (m : M) (ml : ML) : ML := fun r cs => (m r cs).bind fun d cs => (ml r cs).bind fun ds cs => .ok (d :: ds) cs
theorem ja_nil : JA X W [] mNil := paI pa_nil fun σ H Q ⟨w, r, cs, e, s, ev, a⟩ => by
  have := a w (Le.refl w) s [] rfl
  rw [e] at this
  exact this
theorem t_cons : ∀ σ H Q, tA K W (mCons m ml) σ H Q → tCons (tE K W m) (tA K W ml) σ H Q := fun σ H Q ⟨w, rr, cs, e, s, ev, a⟩ => by
  refine ⟨w, rr, cs, e, s, ev, (After.bind a).imp fun x cs1 w1 l1 s1 a1 v1 r1 => ?_⟩
  refine ⟨w1, rr, cs1, rfl, s1, ev.mono l1, (After.bind a1).imp fun y cs2 w2 l2 s2 a2 v2 r2 => ?_⟩
  exact a2 w2 (Le.refl w2) s2 (v1 :: v2) ⟨v1, v2, rfl, Rep.mono K l2 x v1 r1, r2⟩
theorem ja_cons (h : JE X W e m) (k : JA X W es ml) (hs : starEach (e :: es) X.env = (false, eval e X.env) :: starEach es X.env := by rfl) : JA X W (e :: es) (mCons m ml) := paI (pa_cons h k hs) t_cons
theorem After.ok {α : Type} {E : EE} {w : Wd} {d : α} {cs : List D} {P : α → List D → Wd → Prop} (h : After K E w (.ok d cs) P) {w' : Wd} (l : Le w w') (s : Sim K w' cs) : P d cs w' := h w' l s
def mTup (ml : ML) : M := fun r cs => (ml r cs).bind fun ds cs => if ds.length ≤ sizeLine then .ok (.tup ds) cs else .bad
def mLst (ml : ML) : M := fun r cs => (ml r cs).bind fun ds cs => if ds.length ≤ sizeLine then .ok (.lst ds) cs else .bad
def mLstL (ml : ML) : M := fun r cs => (ml r cs).bind fun ds cs => if ds.length ≤ sizeLine ∧ nrs ds = true then .ok (.ref cs.length) (cs ++ [.lst ds]) else .bad
theorem if_bad {α : Type} {E : EE} {w : Wd} {p : Prop} [Decidable p] {r : R α} {P : α → List D → Wd → Prop} (h : After K E w (if p then r else .bad) P) : p ∧ After K E w r P := by
  by_cases hp : p
  · rw [if_pos hp] at h
    exact ⟨hp, h⟩
  · rw [if_neg hp] at h
    exact h.elim
theorem Rep.newT {w : Wd} {cs : List D} {l : List D} {xs : List V} {p : Addr} (s : Sim K w cs) (h : w.H p = none) (r : Reps K w l xs) : Rep K (w.new p (.tup xs)) (.tup l) (.ref p) :=
  ⟨p, xs, rfl, .inr rfl, upd_same, Reps.mono K (s.le_new h) l xs r⟩
theorem Rep.newL {w : Wd} {cs : List D} {l : List D} {xs : List V} {p : Addr} (s : Sim K w cs) (h : w.H p = none) (r : Reps K w l xs) : Rep K (w.new p (.lst xs)) (.lst l) (.ref p) :=
  ⟨p, xs, rfl, .inr rfl, upd_same, Reps.mono K (s.le_new h) l xs r⟩
theorem Rep.newC {w : Wd} {cs : List D} {p : Addr} {o : HO} (s : Sim K w cs) : Rep K (w.live p o) (.ref cs.length) (.ref p) := by
  refine ⟨p, rfl, ?_⟩
  show (w.p ++ [p])[cs.length]? = some p
  rw [← s.len, List.getElem?_append_right (Nat.le_refl _), Nat.sub_self]
  rfl
theorem je_tup {x1} (h : JA X W es ml) : JE X W (.Tuple es x1 pos) (mTup ml) := by
  refine peI (pe_tup h) fun σ H Q ⟨w, rr, cs, e, s, ev, a⟩ => ?_
  refine ⟨w, rr, cs, e, s, ev, (After.bind a).imp fun ds cs1 w1 l1 s1 a1 vs r1 => ?_⟩
  obtain ⟨hz, a1⟩ := if_bad a1
  refine ⟨by rw [← Reps.length _ r1]; exact hz, fun p np => ?_⟩
  exact a1.ok (s1.le_new np) (s1.new np) _ (Rep.newT s1 np r1)
theorem je_lst (h : JA X W es ml) : JE X W (.List es pos) (mLst ml) := by
  refine peI (pe_lst h) fun σ H Q ⟨w, rr, cs, e, s, ev, a⟩ => ?_
  refine ⟨w, rr, cs, e, s, ev, (After.bind a).imp fun ds cs1 w1 l1 s1 a1 vs r1 => ?_⟩
  obtain ⟨hz, a1⟩ := if_bad a1
  refine ⟨by rw [← Reps.length _ r1]; exact hz, fun p np => ?_⟩
  exact a1.ok (s1.le_new np) (s1.new np) _ (Rep.newL s1 np r1)
theorem Sim.liveL {w : Wd} {cs : List D} {l : List D} {xs : List V} {p : Addr} (s : Sim K w cs) (h : w.H p = none) (hn : nrs l = true) (r : Reps K w l xs) : Sim K (w.live p (.lst xs)) (cs ++ [.lst l]) :=
  s.live h hn ⟨xs, upd_same, Reps.mono K (s.le_live h) l xs r⟩
theorem je_lstL (h : JA X W es ml) : JE X W (.List es pos) (mLstL ml) := by
  refine peI (pe_lst h) fun σ H Q ⟨w, rr, cs, e, s, ev, a⟩ => ?_
  refine ⟨w, rr, cs, e, s, ev, (After.bind a).imp fun ds cs1 w1 l1 s1 a1 vs r1 => ?_⟩
  obtain ⟨⟨hz, hn⟩, a1⟩ := if_bad a1
  refine ⟨by rw [← Reps.length _ r1]; exact hz, fun p np => ?_⟩
  exact a1.ok (s1.le_live np) (s1.liveL np hn r1) _ (Rep.newC s1)
/-! ### slices -/
abbrev MO := Env → List D → R (Option Int)
def tOp_ (K : PySem.W.Frag) (W : WX) (m : MO) : TO := fun σ H Q => ∃ w r cs, w.H = H ∧ Sim K w cs ∧ EnvR K w r σ ∧ After K (EW K W) w (m r cs) (fun o _ w' => Q o w'.H)
abbrev JO (X : Cx) (W : WX) (e : Option Expr) (m : MO) : Prop := PO X e (tOp_ X.K W m)
def mNoP : MO := fun _ cs => .ok none cs
def mP (m : M) : MO := fun r cs => (m r cs).bind fun d cs => match d with
  | .int i => .ok (some i) cs
  | _ => .bad
theorem poI {X : Cx} {e : Option Expr} {t t' : TO} (h : PO X e t) (k : ∀ σ H Q, t' σ H Q → t σ H Q) : PO X e t' := ⟨fun pins s σ H Q I q => h.run pins s σ H Q I (k σ H Q q)⟩
theorem jo_none : JO X W none mNoP := poI po_none fun σ H Q ⟨w, r, cs, e, s, ev, a⟩ => by
  have h : Q none w.H := a w (Le.refl w) s
  rw [e] at h
  exact h
theorem jo_some (h : JE X W e m) : JO X W (some e) (mP m) := poI (po_some h) fun σ H Q ⟨w, rr, cs, e, s, ev, a⟩ => by
  refine ⟨w, rr, cs, e, s, ev, (After.bind a).imp fun x cs1 w1 l1 s1 a1 v1 r1 => ?_⟩
  cases x with
  | int i => exact ⟨i, r1, a1 w1 (Le.refl w1) s1⟩
  | _ => exact a1.elim
abbrev OpSl := D → Option Int → Option Int → List D → R D
def SlS (K : PySem.W.Frag) (r : V → Option Int → Option Int → Hp → VK → Prop) (f : OpSl) : Prop := ∀ (E : EE) (w : Wd) (cs : List D) (x : D) (vx : V) (lo hi : Option Int) (Q : VK), Sim K w cs → Rep K w x vx →
  After K E w (f x lo hi cs) (fun d _ w' => ∀ v, Rep K w' d v → Q v w'.H) → r vx lo hi w.H Q
def mSl (f : OpSl) (m : M) (lo hi : MO) : M := fun r cs => (m r cs).bind fun x cs => (lo r cs).bind fun l cs => (hi r cs).bind fun u cs => f x l u cs
theorem je_slice {lo hi : Option Expr} {ml mh : MO} {r : V → Option Int → Option Int → Hp → VK → Prop} {f : OpSl} {p2 : Pos} (ho : SlR X r) (hs : SlS X.K r f) (ha : JE X W a m) (hl : JO X W lo ml) (hh : JO X W hi mh) :
    JE X W (.Subscript a (.Slice lo hi none p2) pos) (mSl f m ml mh) := by
  refine peI (pe_slice ho ha hl hh) fun σ H Q ⟨w, rr, cs, e, s, ev, a⟩ => ?_
  refine ⟨w, rr, cs, e, s, ev, (After.bind a).imp fun x cs1 w1 l1 s1 a1 v1 r1 => ?_⟩
  refine ⟨w1, rr, cs1, rfl, s1, ev.mono l1, (After.bind a1).imp fun y cs2 w2 l2 s2 a2 => ?_⟩
  refine ⟨w2, rr, cs2, rfl, s2, ev.mono (l1.trans l2), (After.bind a2).imp fun z cs3 w3 l3 s3 a3 => ?_⟩
  exact hs _ w3 cs3 x v1 y z Q s3 (Rep.mono _ (l2.trans l3) x v1 r1) a3
/-! ### built-ins, methods of built-in types -/
abbrev OpC := List D → List D → R D
def CallS (K : PySem.W.Frag) (r : List V → Hp → VK → Prop) (f : OpC) : Prop := ∀ (E : EE) (w : Wd) (cs : List D) (ds : List D) (vs : List V) (Q : VK), Sim K w cs → Reps K w ds vs →
  After K E w (f ds cs) (fun d _ w' => ∀ v, Rep K w' d v → Q v w'.H) → r vs w.H Q
def mCB (f : OpC) (ml : ML) : M := fun r cs => (ml r cs).bind fun ds cs => f ds cs
theorem t_cb {r : List V → Hp → VK → Prop} {f : OpC} (hs : CallS K r f) : ∀ σ H Q, tE K W (mCB f ml) σ H Q → tCB r (tA K W ml) σ H Q := fun σ H Q ⟨w, rr, cs, e, s, ev, a⟩ =>
  ⟨w, rr, cs, e, s, ev, (After.bind a).imp fun x cs1 w1 l1 s1 a1 v1 r1 => hs _ w1 cs1 x v1 Q s1 r1 a1⟩
theorem je_callB {id : String} {x : Str} {p : Pos} {r : List V → Hp → VK → Prop} {f : OpC} (hc : CallR X (.builtin id) r) (hs : CallS X.K r f) (hg : Gl X x) (hm : X.mg x = none) (hv : bootBuiltins x = some (.builtin id)) (ha : JA X W (e :: es) ml) (hn : x ≠ "__name__" := by decide) (hdb : (x == ("__debug__" : Str)) = false := by decide)
    (he : starEach (e :: es) X.env = (false, eval e X.env) :: starEach es X.env := by rfl) (hpl : (backTo pos (starEach es X.env)).any (·.1) = false := by rfl) : JE X W (.Call (.Name x p) (e :: es) [] pos) (mCB f ml) := peI (pe_callB hc hg hm hv ha hn hdb he hpl) (t_cb hs)
theorem je_callT {id : String} {x : Str} {p : Pos} {r : List V → Hp → VK → Prop} {f : OpC} (hc : CallR X (.type id) r) (hs : CallS X.K r f) (hg : Gl X x) (hm : X.mg x = none) (hv : bootBuiltins x = some (.type id)) (ha : JA X W (e :: es) ml) (hn : x ≠ "__name__" := by decide) (hdb : (x == ("__debug__" : Str)) = false := by decide)
    (he : starEach (e :: es) X.env = (false, eval e X.env) :: starEach es X.env := by rfl) (hpl : (backTo pos (starEach es X.env)).any (·.1) = false := by rfl) : JE X W (.Call (.Name x p) (e :: es) [] pos) (mCB f ml) := peI (pe_callTy hc hg hm hv ha hn hdb he hpl) (t_cb hs)
abbrev OpM := D → List D → List D → R D
def tyD (T : String) (x : D) (cs : List D) : Bool := match x with
  | .str _ => T == "str"
  | .int _ => T == "int"
  | .lst _ => T == "list"
  | .dct _ _ => T == "dict"
  | .ref i => match cs[i]? with
    | some (.lst _) => T == "list"
    | some (.dct _ _) => T == "dict"
    | _ => false
  | _ => false
theorem tyD_ok {T : String} {x : D} {cs : List D} {w : Wd} {v : V} (s : Sim K w cs) (r : Rep K w x v) (h : tyD T x cs = true) : tyV K T v w.H := by
  cases x with
  | str z =>
    cases (show v = .str z from r)
    exact eq_of_beq h
  | int z =>
    cases (show v = .int z from r)
    exact eq_of_beq h
  | lst l =>
    obtain ⟨a, xs, rfl, f, g, q⟩ := r
    exact .inl ⟨eq_of_beq h, xs, .inl (.inl g)⟩
  | dct ks l =>
    obtain ⟨a, xs, rfl, f, g, _, q⟩ := r
    exact .inr (.inr (.inl ⟨eq_of_beq h, .inl ⟨_, g⟩⟩))
  | ref i =>
    obtain ⟨a, rfl, hi⟩ := r
    unfold tyD at h
    cases hc : cs[i]? with
    | none =>
      simp only [hc] at h
      cases h
    | some d =>
      obtain ⟨_, _, o, _⟩ := s.cell i a d hi hc
      cases d with
      | lst l =>
        simp only [hc] at h
        obtain ⟨xs, g, _⟩ := o
        exact .inl ⟨eq_of_beq h, xs, .inl (.inl g)⟩
      | dct ks l =>
        simp only [hc] at h
        obtain ⟨xs, g, _⟩ := o
        exact .inr (.inr (.inl ⟨eq_of_beq h, .inl ⟨_, g⟩⟩))
      | _ =>
        simp only [hc] at h
        cases h
  | _ => cases h
def MtS (K : PySem.W.Frag) (r : V → List V → Hp → VK → Prop) (f : OpM) : Prop := ∀ (E : EE) (w : Wd) (cs : List D) (x : D) (vx : V) (ds : List D) (vs : List V) (Q : VK), Sim K w cs → Rep K w x vx → Reps K w ds vs →
  After K E w (f x ds cs) (fun d _ w' => ∀ v, Rep K w' d v → Q v w'.H) → r vx vs w.H Q
def mBM (T : String) (f : OpM) (mo : M) (ml : ML) : M := fun r cs => (mo r cs).bind fun x cs => if tyD T x cs = true then (ml r cs).bind fun ds cs => f x ds cs else .bad
theorem je_bm {o : Expr} {mo : M} {name : Str} {apos cpos : Pos} {T id : String} {r : V → List V → Hp → VK → Prop} {f : OpM} (pa : PlainAttrs T) (slot : Slot T name id) (hty : typeOf (.builtin id) = pure (.type "method_descriptor")) (hm : MtR X id r) (hs : MtS X.K r f) (ho : JE X W o mo) (ha : JA X W (e :: es) ml)
    (hbase : attributeBase o name X.env (eval o X.env) = eval o X.env := by rfl)
    (hfew : ((backTo cpos (starEach (e :: es) X.env)).all (fun x => !x.1) && (backToKw cpos (keywordEach [] X.env)).all (fun x => x.1.isSome)
      && decide ((e :: es).length + ([] : List Keyword).length + (if ([] : List Keyword).isEmpty then 0 else 1) < 30)) = true := by rfl)
    (hline : (apos.endLine == cpos.line) = true := by rfl) (hst : starEach (e :: es) X.env = (false, eval e X.env) :: starEach es X.env := by rfl) (hplain : (backTo cpos (starEach es X.env)).any (·.1) = false := by rfl) :
    JE X W (.Call (.Attribute o name apos) (e :: es) [] cpos) (mBM T f mo ml) := by
  refine peI (pe_bm pa slot hty hm ho ha hbase hfew hline hst hplain) fun σ H Q ⟨w, rr, cs, e, s, ev, a⟩ => ?_
  refine ⟨w, rr, cs, e, s, ev, (After.bind a).imp fun x cs1 w1 l1 s1 a1 v1 r1 => ?_⟩
  obtain ⟨hT, a1⟩ := if_bad a1
  refine ⟨tyD_ok s1 r1 hT, w1, rr, cs1, rfl, s1, ev.mono l1, (After.bind a1).imp fun ds cs2 w2 l2 s2 a2 vs r2 => ?_⟩
  exact hs _ w2 cs2 x v1 ds vs Q s2 (Rep.mono _ l2 x v1 r1) r2 a2
def mBM0 (T : String) (f : OpM) (mo : M) : M := fun r cs => (mo r cs).bind fun x cs => if tyD T x cs = true then f x [] cs else .bad
theorem je_bm0 {o : Expr} {mo : M} {name : Str} {apos cpos : Pos} {T id : String} {r : V → List V → Hp → VK → Prop} {f : OpM} (pa : PlainAttrs T) (slot : Slot T name id) (hty : typeOf (.builtin id) = pure (.type "method_descriptor")) (hm : MtR X id r) (hs : MtS X.K r f) (ho : JE X W o mo)
    (hbase : attributeBase o name X.env (eval o X.env) = eval o X.env := by rfl) (hline : (apos.endLine == cpos.line) = true := by rfl) : JE X W (.Call (.Attribute o name apos) [] [] cpos) (mBM0 T f mo) := by
  refine peI (pe_bm0 pa slot hty hm ho hbase hline) fun σ H Q ⟨w, rr, cs, e, s, ev, a⟩ => ?_
  refine ⟨w, rr, cs, e, s, ev, (After.bind a).imp fun x cs1 w1 l1 s1 a1 v1 r1 => ?_⟩
  obtain ⟨hT, a1⟩ := if_bad a1
  exact ⟨tyD_ok s1 r1 hT, hs _ w1 cs1 x v1 [] [] Q s1 r1 rfl a1⟩
/-! ### the call of a def -/
def spF (K : PySem.W.Frag) (f : Fn) : Sp := fun vs H Q E => ∃ w ds cs, w.H = H ∧ Sim K w cs ∧ Reps K w ds vs ∧ After K (fun _ w' c od => E c od w'.H) w (f ds cs) (fun d _ w' => ∀ v, Rep K w' d v → Q v w'.H)
def noteE {α : Type} (r : Env) : R α → R α
  | .err x _ cs => .err x r cs
  | o => o
theorem After.note {w : Wd} {α : Type} {rr : Env} {x : R α} {P : α → List D → Wd → Prop} {σ : L2.St} (ev : EnvR K w rr σ) (h : After K (EW K W) w (noteE rr x) P) : After K (fun _ w' c od => W c od σ w'.H) w x P := by
  cases x with
  | ok a cs => exact h
  | err x r cs => exact fun w' c od l s q => h w' c od l s q σ (ev.mono l)
  | bad => exact h
def mCall (f : Fn) (ml : ML) : M := fun r cs => (ml r cs).bind fun ds cs => noteE r (f ds cs)
variable {k : Nat} {f : Addr} {fd : FuncData} {ps : List Str} {fn : Fn} {x : Str} {p : Pos}
theorem je_call (F : FnOk X.prog X.w X.K X.mg X.base (L2.CX X.prog X.w) k f fd ps (spF X.K fn)) (hr : Room k X.A) (hg : Gl X x) (hm : X.mg x = some (.ref f)) (hk : PySem.W.keepIn X.K (.ref f) = true) (hb : Binds X.K fd ps []) (tk : Takes X W)
    (ha : JA X W (e :: es) ml) (hdb : (x == ("__debug__" : Str)) = false := by decide) (he : starEach (e :: es) X.env = (false, eval e X.env) :: starEach es X.env := by rfl) (hpl : (backTo pos (starEach es X.env)).any (·.1) = false := by rfl) :
    JE X W (.Call (.Name x p) (e :: es) [] pos) (mCall fn ml) := by
  refine peI (pe_callS F hr hg hm hk hb (passAt tk) ha hdb he hpl) fun σ H Q ⟨w, rr, cs, e, s, ev, a⟩ => ?_
  refine ⟨w, rr, cs, e, s, ev, (After.bind a).imp fun ds cs1 w1 l1 s1 a1 vs r1 => ?_⟩
  exact ⟨w1, ds, cs1, rfl, s1, r1, After.note (ev.mono l1) a1⟩
end
end Wf
set_option Elab.async false
set_option linter.all false
set_option maxRecDepth 100000
/-! Readings by mirrors: statements, targets, loops, comprehensions, defs. -/
namespace Wf
open PySem PySem.Spec PyProof.Rows L2
section
variable {X : Cx} {W : WX} {K : PySem.W.Frag} {a b c e : Expr} {es : List Expr} {ma mb mc m n : M} {ml : ML} {mt : MT} {pos : Pos} {st : Stmt} {sts : List Stmt} {ms ns : MS}
/-! ### statements -/
def mSkip : MS := fun r cs => .ok (.nx r) cs
def mSeq (m n : MS) : MS := fun r cs => (m r cs).bind fun fl cs => match fl with
  | .nx r' => n r' cs
  | o => .ok o cs
theorem jb_nil : JB X W [] mSkip := pssI pss_nil fun D σ H ⟨w, r, cs, e, s, ev, a⟩ => by
  have h : D.nx σ w.H := a w (Le.refl w) s σ ev
  rw [e] at h
  exact h
theorem js_pass {pos : Pos} : JS X W (.Pass pos) mSkip := psI ps_pass fun D σ H ⟨w, r, cs, e, s, ev, a⟩ => by
  have h : D.nx σ w.H := a w (Le.refl w) s σ ev
  rw [e] at h
  exact h
theorem t_seq : ∀ D σ H, tS K W (mSeq ms ns) D σ H → tSeq (tS K W ms) (tS K W ns) D σ H := fun D σ H ⟨w, rr, cs, e, s, ev, a⟩ => by
  refine ⟨w, rr, cs, e, s, ev, (After.bind a).imp fun fl cs1 w1 l1 s1 a1 => ?_⟩
  cases fl with
  | nx r' => exact fun σ' ev' => ⟨w1, r', cs1, rfl, s1, ev', a1⟩
  | ret d => exact a1 w1 (Le.refl w1) s1
  | brk r' => exact a1 w1 (Le.refl w1) s1
  | ct r' => exact a1 w1 (Le.refl w1) s1
theorem jb_cons (h : JS X W st ms) (k : JB X W sts ns) : JB X W (st :: sts) (mSeq ms ns) := pssI (pss_cons h k) t_seq
theorem jb_one (h : JS X W st ms) : JB X W [st] ms := pss_one h
def mBrk : MS := fun r cs => .ok (.brk r) cs
def mCt : MS := fun r cs => .ok (.ct r) cs
theorem js_brk {pos : Pos} : JS X W (.Break pos) mBrk := psI ps_break fun D σ H ⟨w, r, cs, e, s, ev, a⟩ => by
  have h : D.bk σ w.H := a w (Le.refl w) s σ ev
  rw [e] at h
  exact h
theorem js_ct {pos : Pos} : JS X W (.Continue pos) mCt := psI ps_continue fun D σ H ⟨w, r, cs, e, s, ev, a⟩ => by
  have h : D.ct σ w.H := a w (Le.refl w) s σ ev
  rw [e] at h
  exact h
def mExpr (m : M) : MS := fun r cs => (m r cs).bind fun _ cs => .ok (.nx r) cs
theorem js_expr (h : JE X W e m) (hs : swapsWith e none pos.line X.env = pure false := by rfl) : JS X W (.Expr e pos) (mExpr m) := psI (ps_expr h hs) fun D σ H ⟨w, rr, cs, e, s, ev, a⟩ =>
  ⟨w, rr, cs, e, s, ev, (After.bind a).imp fun x cs1 w1 l1 s1 a1 v1 r1 => a1 w1 (Le.refl w1) s1 σ (ev.mono l1)⟩
def mRet (m : M) : MS := fun r cs => (m r cs).bind fun d cs => .ok (.ret d) cs
theorem js_ret (h : JE X W e m) : JS X W (.Return (some e) pos) (mRet m) := psI (ps_ret h) fun D σ H ⟨w, rr, cs, e, s, ev, a⟩ =>
  ⟨w, rr, cs, e, s, ev, (After.bind a).imp fun x cs1 w1 l1 s1 a1 v1 r1 => a1 w1 (Le.refl w1) s1 v1 r1⟩
theorem js_retN : JS X W (.Return none pos) (mRet (mC .non)) := psI ps_retN fun D σ H ⟨w, rr, cs, e, s, ev, a⟩ => by
  have h : D.rt .non w.H := a w (Le.refl w) s .non rfl
  rw [e] at h
  exact h
def mIf (c : MT) (m n : MS) : MS := fun r cs => (c r cs).bind fun b cs => if b then m r cs else n r cs
theorem js_if {A B : List Stmt} {mc : MT} (hc : JT X W c mc) (ha : JB X W A ms) (hb : JB X W B ns) : JS X W (.If c A B pos) (mIf mc ms ns) := psI (ps_if hc ha hb) fun D σ H ⟨w, rr, cs, e, s, ev, a⟩ => by
  refine ⟨w, rr, cs, e, s, ev, (After.bind a).imp fun x cs1 w1 l1 s1 a1 => ?_⟩
  cases x with
  | true =>
    rw [if_pos rfl]
    exact ⟨w1, rr, cs1, rfl, s1, ev.mono l1, a1⟩
  | false =>
    rw [if_neg Bool.false_ne_true]
    exact ⟨w1, rr, cs1, rfl, s1, ev.mono l1, a1⟩
/-! ### targets: names, and tuples of names -/
def GT (K : PySem.W.Frag) (vs : List Nat) (g : TG) (f : D → Env → Option Env) : Prop := ∀ (w : Wd) (r r' : Env) (σ : L2.St) (d : D) (v : V) (Q : L2.St → Hp → Prop), EnvR K w r σ → Rep K w d v → f d r = some r' →
  (∀ σ', EnvR K w r' σ' → wipe σ' vs = wipe σ vs → Q σ' w.H) → g v σ w.H Q
def gtN (i : Nat) : D → Env → Option Env := fun d r => some (r.set i (some d))
theorem wipe_set {σ : L2.St} {i : Nat} {o : Option V} : ∀ {vs : List Nat}, i ∈ vs → wipe (σ.set i o) vs = wipe σ vs
  | v :: vs, h => by
    unfold wipe
    by_cases hv : i ∈ vs
    · rw [wipe_set hv]
    · have e : v = i := by
        rcases List.mem_cons.mp h with h | h
        · exact h.symm
        · exact absurd h hv
      subst e
      have aux : ∀ (us : List Nat) (τ : L2.St), (wipe (τ.set v o) us).set v none = (wipe τ us).set v none := by
        intro us
        induction us with
        | nil => intro τ; show (τ.set v o).set v none = τ.set v none; exact List.set_set _
        | cons u us ih =>
          intro τ
          unfold wipe
          by_cases hu : u = v
          · subst hu
            rw [List.set_set, List.set_set]
            exact ih τ
          · rw [List.set_comm _ _ hu, List.set_comm _ _ hu, ih τ]
      exact aux vs σ
theorem gt_name {vs : List Nat} {i : Nat} (h : i ∈ vs) : GT K vs (gName i) (gtN i) := fun w r r' σ d v Q ev rv e q => by
  have e2 : r.set i (some d) = r' := Option.some.inj e
  subst e2
  exact q _ (ev.set i rv) (wipe_set h)
abbrev GTs (K : PySem.W.Frag) (vs : List Nat) (g : TGs) (f : List D → Env → Option Env) : Prop := ∀ (w : Wd) (r r' : Env) (σ : L2.St) (ds : List D) (xs : List V) (Q : L2.St → Hp → Prop), EnvR K w r σ → Reps K w ds xs → f ds r = some r' →
  (∀ σ', EnvR K w r' σ' → wipe σ' vs = wipe σ vs → Q σ' w.H) → g xs σ w.H Q
def gtNil : List D → Env → Option Env := fun ds r => match ds with
  | [] => some r
  | _ => none
def gtCons (f : D → Env → Option Env) (g : List D → Env → Option Env) : List D → Env → Option Env := fun ds r => match ds with
  | d :: ds => (f d r).bind (g ds)
  | [] => none
theorem gts_nil {vs : List Nat} : GTs K vs gNil gtNil := fun w r r' σ ds xs Q ev rv e q => by
  cases ds with
  | nil =>
    cases (show xs = [] from rv)
    have e2 : r = r' := Option.some.inj e
    subst e2
    exact ⟨rfl, q σ ev rfl⟩
  | cons d ds => cases e
theorem gts_cons {vs : List Nat} {g : TG} {h : TGs} {f : D → Env → Option Env} {k : List D → Env → Option Env} (hg : GT K vs g f) (hh : GTs K vs h k) : GTs K vs (gCons g h) (gtCons f k) := fun w r r' σ ds xs Q ev rv e q => by
  cases ds with
  | nil => cases e
  | cons d ds =>
    obtain ⟨v, vs', rfl, rd, rds⟩ := rv
    unfold gtCons at e
    cases h1 : f d r with
    | none =>
      simp only [h1] at e
      cases e
    | some r1 =>
      simp only [h1] at e
      refine ⟨v, vs', rfl, hg w r r1 σ d v _ ev rd h1 fun σ1 ev1 w1 => ?_⟩
      exact hh w r1 r' σ1 ds vs' Q ev1 rds e fun σ2 ev2 w2 => q σ2 ev2 (w2.trans w1)
def gtTup (n : Nat) (f : List D → Env → Option Env) : D → Env → Option Env := fun d r => match d with
  | .tup ds => if ds.length = n then f ds r else none
  | _ => none
theorem gt_tup {vs : List Nat} {n : Nat} {h : TGs} {k : List D → Env → Option Env} (hh : GTs K vs h k) : GT K vs (gTup K n h) (gtTup n k) := fun w r r' σ d v Q ev rv e q => by
  cases d with
  | tup ds =>
    obtain ⟨a, xs, rfl, f, g, rs⟩ := rv
    unfold gtTup at e
    by_cases hn : ds.length = n
    · simp only [if_pos hn] at e
      exact ⟨a, xs, rfl, .inl (.inl g), by rw [← Reps.length _ rs]; exact hn, hh w r r' σ ds xs Q ev rs e q⟩
    · simp only [if_neg hn] at e
      cases e
  | _ => cases e
/-- target = e -/
def mAsg (f : D → Env → Option Env) (m : M) : MS := fun r cs => (m r cs).bind fun d cs => match f d r with
  | some r' => .ok (.nx r') cs
  | none => .bad
theorem t_asg {te : TE} {vs : List Nat} {g : TG} {f : D → Env → Option Env} (ht : ∀ σ H Q, tE K W m σ H Q → te σ H Q) (hg : GT K vs g f) : ∀ D σ H, tS K W (mAsg f m) D σ H → tAsg te g D σ H := fun D σ H ⟨w, rr, cs, e, s, ev, a⟩ => by
  refine ht σ H _ ⟨w, rr, cs, e, s, ev, (After.bind a).imp fun x cs1 w1 l1 s1 a1 v1 r1 => ?_⟩
  cases h1 : f x rr with
  | none =>
    simp only [h1] at a1
    exact a1.elim
  | some r' =>
    simp only [h1] at a1
    exact hg w1 rr r' σ x v1 _ (ev.mono l1) r1 h1 fun σ' ev' _ => a1 w1 (Le.refl w1) s1 σ' ev'
theorem js_set {i : Nat} {x : Str} {pos' : Pos} (hN : X.N.Nodup) (hi : X.N[i]? = some x) (hx : Loc X.env.scope x) (he : JE X W e m) (hs : swapsWith e (some (.Name x pos')) pos.line X.env = pure false := by rfl) (hf : X.fn x = true ∨ X.env.scope.names.lookup x = some .local := by first | exact .inl rfl | exact .inr rfl | assumption) :
    JS X W (.Assign [.Name x pos'] e pos) (mAsg (gtN i) m) := psI (ps_set hN hi hx he hs hf) (t_asg (fun _ _ _ h => h) (gt_name (vs := [i]) (by simp)))
theorem js_asg {tg : Expr} {vs : List Nat} {g : TG} {f : D → Env → Option Env} (he : JE X W e m) (hg : PG X tg g) (hG : GT X.K vs g f) (hs : swapsWithSole [tg] e pos.line X.env = pure false := by rfl) (hw : swappedStores [tg] e X.env = pure none := by rfl)
    (h1 : (assignEach [tg] X.env).map (·.2) = [assign tg X.env] := by rfl) : JS X W (.Assign [tg] e pos) (mAsg f m) := psI (ps_asg he hg hs hw h1) (t_asg (fun _ _ _ h => h) hG)
/-- o[i] = e -/
abbrev Op3 := D → D → D → List D → Option (List D)
def SetS (K : PySem.W.Frag) (r : V → V → V → Hp → (Hp → Prop) → Prop) (f : Op3) : Prop := ∀ (w : Wd) (cs cs' : List D) (o i d : D) (vo vi v : V) (Q : Hp → Prop), Sim K w cs → Rep K w o vo → Rep K w i vi → Rep K w d v → f o i d cs = some cs' →
  (∀ w', Le w w' → Sim K w' cs' → Q w'.H) → r vo vi v w.H Q
def mSub (f : Op3) (me mo mi : M) : MS := fun r cs => (me r cs).bind fun d cs => (mo r cs).bind fun o cs => (mi r cs).bind fun i cs => match f o i d cs with
  | some cs' => .ok (.nx r) cs'
  | none => .bad
theorem js_sub {o i : Expr} {mo mi : M} {r : V → V → V → Hp → (Hp → Prop) → Prop} {f : Op3} (hr : PSet X r) (hs : SetS X.K r f) (he : JE X W e m) (ho : JE X W o mo) (hi : JE X W i mi) {p2 : Pos}
    (ha : ∀ v, assign (.Subscript o i p2) X.env v = (do
      let ov ← holding [v] (eval o X.env)
      let iv ← holding [v, ov] (eval i X.env)
      standAt p2
      holding [v, ov, iv] (setItem ov iv v)
      release [v, ov, iv] []) := by intro _; rfl)
    (hsw : swapsWithSole [.Subscript o i p2] e pos.line X.env = pure false := by rfl) (hw : swappedStores [.Subscript o i p2] e X.env = pure none := by rfl)
    (h1 : (assignEach [.Subscript o i p2] X.env).map (·.2) = [assign (.Subscript o i p2) X.env] := by rfl) : JS X W (.Assign [.Subscript o i p2] e pos) (mSub f m mo mi) := by
  refine psI (ps_asg he (pg_sub ho hi hr ha) hsw hw h1) fun D σ H ⟨w, rr, cs, e, s, ev, a⟩ => ?_
  refine ⟨w, rr, cs, e, s, ev, (After.bind a).imp fun x cs1 w1 l1 s1 a1 v1 r1 => ?_⟩
  refine ⟨w1, rr, cs1, rfl, s1, ev.mono l1, (After.bind a1).imp fun y cs2 w2 l2 s2 a2 v2 r2 => ?_⟩
  refine ⟨w2, rr, cs2, rfl, s2, ev.mono (l1.trans l2), (After.bind a2).imp fun z cs3 w3 l3 s3 a3 v3 r3 => ?_⟩
  cases h1 : f y z x cs3 with
  | none =>
    simp only [h1] at a3
    exact a3.elim
  | some cs4 =>
    simp only [h1] at a3
    exact hs w3 cs3 cs4 y z x v2 v3 v1 _ s3 (Rep.mono _ l3 y v2 r2) r3 (Rep.mono _ (l2.trans l3) x v1 r1) h1 fun w4 l4 s4 => a3 w4 l4 s4 σ (ev.mono (l1.trans (l2.trans (l3.trans l4))))
/-! ### what a loop walks -/
def IterOk (K : PySem.W.Frag) (w : Wd) (J : It) (ds : List D) : Prop := ∀ w', Lx w w' → ∀ i : Nat, (ds.length ≤ i → J.stop i w'.H) ∧ ∀ d, ds[i]? = some d → J.go i w'.H ∧
  ∀ x H' cs, Sim K w' cs → J.yld i w'.H x H' → ∃ w2, w2.H = H' ∧ Le w' w2 ∧ Sim K w2 cs ∧ Rep K w2 d x
theorem IterOk.mono {w w' : Wd} {J : It} {ds : List D} (e : Lx w w') (h : IterOk K w J ds) : IterOk K w' J ds := fun w2 l => h w2 (e.trans l)
def tIt (K : PySem.W.Frag) (W : WX) (m : ML) : TI := fun σ H Rr => ∃ w r cs, w.H = H ∧ Sim K w cs ∧ EnvR K w r σ ∧ After K (EW K W) w (m r cs) (fun ds _ w' => ∀ J, IterOk K w' J ds → Rr J w'.H)
abbrev JI (X : Cx) (W : WX) (tg e : Expr) (m : ML) : Prop := PI X tg e (tIt X.K W m)
theorem piI {X : Cx} {tg e : Expr} {t t' : TI} (h : PI X tg e t) (k : ∀ σ H Q, t' σ H Q → t σ H Q) : PI X tg e t' := ⟨fun pins s σ H Q I q => h.run pins s σ H Q I (k σ H Q q)⟩
def itD (d : D) : Option (List D) := match d with
  | .lst l => some l
  | .tup l => some l
  | .wl l => some (l.map .int)
  | .str s => some (s.cps.toList.map fun c => .str ⟨#[c]⟩)
  | _ => none
def mIt (f : D → Option (List D)) (m : M) : ML := fun r cs => (m r cs).bind fun d cs => match f d with
  | some l => .ok l cs
  | none => .bad
def itL (d : D) : Option (List D) := match d with
  | .lst l => some l
  | .wl l => some (l.map .int)
  | _ => none
theorem IterOk.list {w : Wd} {a : Addr} {xs : List V} {ds : List D} (h : ∀ w', Lx w w' → SqL K w'.H a xs) (r : Reps K w ds xs) : IterOk K w (Itl K a) ds := fun w' l i => by
  refine ⟨fun hi => ⟨xs, h w' l, by rw [← Reps.length _ r]; exact hi⟩, fun d hd => ?_⟩
  obtain ⟨x, hx, rx⟩ := Reps.get _ r hd
  refine ⟨⟨xs, x, h w' l, hx⟩, fun y H' cs s ⟨e, hy⟩ => ⟨w', e.symm, Le.refl w', s, ?_⟩⟩
  have := hy xs (h w' l)
  rw [hx] at this
  cases this
  exact Rep.x l d x rx
theorem IterOk.tuple {w : Wd} {a : Addr} {xs : List V} {ds : List D} (h : ∀ w', Lx w w' → SqT K w'.H a xs) (r : Reps K w ds xs) : IterOk K w (Itt K a) ds := fun w' l i => by
  refine ⟨fun hi => ⟨xs, h w' l, by rw [← Reps.length _ r]; exact hi⟩, fun d hd => ?_⟩
  obtain ⟨x, hx, rx⟩ := Reps.get _ r hd
  refine ⟨⟨xs, x, h w' l, hx⟩, fun y H' cs s ⟨e, hy⟩ => ⟨w', e.symm, Le.refl w', s, ?_⟩⟩
  have := hy xs (h w' l)
  rw [hx] at this
  cases this
  exact Rep.x l d x rx
theorem ji_list {tg : Expr} (h : JE X W e m) : JI X W tg e (mIt itL m) := by
  refine piI (pi_list h) fun σ H Q ⟨w, rr, cs, e, s, ev, a⟩ => ?_
  refine ⟨w, rr, cs, e, s, ev, (After.bind a).imp fun x cs1 w1 l1 s1 a1 v1 r1 => ?_⟩
  cases x with
  | lst l =>
    obtain ⟨p, xs, rfl, f, g, q⟩ := r1
    refine ⟨p, rfl, ⟨xs, .inl (.inl g)⟩, a1 w1 (Le.refl w1) s1 _ (IterOk.list (fun w' l => .inl (.inl ((l.keep p f).trans g))) q)⟩
  | wl l =>
    obtain ⟨p, rfl, hq⟩ := r1
    have hs : ∀ w', Lx w1 w' → SqL X.K w'.H p (l.map V.int) := fun w' le => by
      rcases hq with ⟨f, q⟩ | q
      · exact le.sql f q
      · exact q w'.H
    exact ⟨p, rfl, ⟨_, hs w1 (Le.refl w1).x⟩, a1 w1 (Le.refl w1) s1 _ (IterOk.list hs (Reps.ints _ l))⟩
  | _ => exact a1.elim
def itT (d : D) : Option (List D) := match d with
  | .tup l => some l
  | _ => none
theorem ji_tup {tg : Expr} (h : JE X W e m) : JI X W tg e (mIt itT m) := by
  refine piI (pi_tup h) fun σ H Q ⟨w, rr, cs, e, s, ev, a⟩ => ?_
  refine ⟨w, rr, cs, e, s, ev, (After.bind a).imp fun x cs1 w1 l1 s1 a1 v1 r1 => ?_⟩
  cases x with
  | tup l =>
    obtain ⟨p, xs, rfl, f, g, q⟩ := r1
    refine ⟨p, rfl, ⟨xs, .inl (.inl g)⟩, a1 w1 (Le.refl w1) s1 _ (IterOk.tuple (fun w' l => .inl (.inl ((l.keep p f).trans g))) q)⟩
  | _ => exact a1.elim
def chrs (s : Str) : List D := s.cps.toList.map fun c => .str ⟨#[c]⟩
def itS (d : D) : Option (List D) := match d with
  | .str s => some (chrs s)
  | _ => none
theorem ji_str {tg : Expr} (h : JE X W e m) : JI X W tg e (mIt itS m) := by
  refine piI (pi_str h) fun σ H Q ⟨w, rr, cs, e, s, ev, a⟩ => ?_
  refine ⟨w, rr, cs, e, s, ev, (After.bind a).imp fun x cs1 w1 l1 s1 a1 v1 r1 => ?_⟩
  cases x with
  | str z =>
    refine ⟨z, r1, a1 w1 (Le.refl w1) s1 _ fun w' l i => ⟨fun hi => ?_, fun d hd => ?_⟩⟩
    · show z.cps.size ≤ i
      have : (chrs z).length = z.cps.size := by
        unfold chrs
        rw [List.length_map]
        rfl
      rw [← this]
      exact hi
    · unfold chrs at hd
      rw [List.getElem?_map] at hd
      cases hc : z.cps.toList[i]? with
      | none =>
        rw [hc] at hd
        cases hd
      | some c =>
        rw [hc] at hd
        have hd2 : D.str ⟨#[c]⟩ = d := Option.some.inj hd
        have hi : i < z.cps.size := (List.getElem?_eq_some_iff.mp hc).1
        refine ⟨hi, fun y H' cs s ⟨e1, c', hc', ey⟩ => ⟨w', e1.symm, Le.refl w', s, ?_⟩⟩
        have : z.cps[i]? = some c := by
          rw [← Array.getElem?_toList]
          exact hc
        rw [this] at hc'
        cases hc'
        rw [← hd2, ey]
        rfl
  | _ => exact a1.elim
def rng (lo : Int) (n : Nat) : List D := (List.range n).map fun k => .int (lo + (k : Nat))
theorem IterOk.rng {w : Wd} {lo : Int} {n : Nat} : IterOk K w (Itr lo n) (rng lo n) := fun w' l i => by
  refine ⟨fun hi => ?_, fun d hd => ?_⟩
  · show n ≤ i
    unfold Wf.rng at hi
    rw [List.length_map, List.length_range] at hi
    exact hi
  · unfold Wf.rng at hd
    rw [List.getElem?_map] at hd
    cases hc : (List.range n)[i]? with
    | none =>
      rw [hc] at hd
      cases hd
    | some c =>
      rw [hc] at hd
      have hi : i < n := by
        have := (List.getElem?_eq_some_iff.mp hc).1
        rw [List.length_range] at this
        exact this
      have ec : c = i := by
        rw [List.getElem?_range hi] at hc
        exact (Option.some.inj hc).symm
      subst ec
      refine ⟨hi, fun y H' cs s ⟨e1, ey⟩ => ⟨w', e1.symm, Le.refl w', s, ?_⟩⟩
      have hd2 : D.int (lo + (c : Nat)) = d := Option.some.inj hd
      rw [← hd2, ey]
      rfl
/-- range(n), range(a, b) -/
def mRng1 (ml : ML) : ML := fun r cs => (ml r cs).bind fun ds cs => match ds with
  | [.int j] => if -(2 ^ 62) ≤ j ∧ j < 2 ^ 62 then .ok (rng 0 j.toNat) cs else .bad
  | _ => .bad
def mRng2 (ml : ML) : ML := fun r cs => (ml r cs).bind fun ds cs => match ds with
  | [.int i, .int j] => if -(2 ^ 62) ≤ i ∧ i < 2 ^ 62 ∧ -(2 ^ 62) ≤ j ∧ j < 2 ^ 62 then .ok (rng i (j - i).toNat) cs else .bad
  | _ => .bad
theorem t_rng1 : ∀ σ H Q, tIt K W (mRng1 ml) σ H Q → iRng1 (tA K W ml) σ H Q := fun σ H Q ⟨w, rr, cs, e, s, ev, a⟩ => by
  refine ⟨w, rr, cs, e, s, ev, (After.bind a).imp fun x cs1 w1 l1 s1 a1 v1 r1 => ?_⟩
  split at a1
  · rename_i j
    obtain ⟨hj, a1⟩ := if_bad a1
    obtain ⟨v, vs, e1, r2, r3⟩ := r1
    cases (show v = .int j from r2)
    cases (show vs = [] from r3)
    exact ⟨j, e1, hj.1, hj.2, a1 w1 (Le.refl w1) s1 _ IterOk.rng⟩
  · exact a1.elim
theorem t_rng2 : ∀ σ H Q, tIt K W (mRng2 ml) σ H Q → iRng2 (tA K W ml) σ H Q := fun σ H Q ⟨w, rr, cs, e, s, ev, a⟩ => by
  refine ⟨w, rr, cs, e, s, ev, (After.bind a).imp fun x cs1 w1 l1 s1 a1 v1 r1 => ?_⟩
  split at a1
  · rename_i i j
    obtain ⟨hj, a1⟩ := if_bad a1
    obtain ⟨v, vs, e1, r2, v', vs', e2, r3, r4⟩ := r1
    cases (show v = .int i from r2)
    cases (show v' = .int j from r3)
    cases (show vs' = [] from r4)
    subst e2
    exact ⟨i, j, e1, hj, a1 w1 (Le.refl w1) s1 _ IterOk.rng⟩
  · exact a1.elim
/-! ### for, while -/
def forR (f : Env → D → List D → R Fl) : List D → Env → List D → R Fl
  | [], r, cs => .ok (.nx r) cs
  | d :: ds, r, cs => (f r d cs).bind fun fl cs => match fl with
    | .nx r' => forR f ds r' cs
    | .ct r' => forR f ds r' cs
    | .brk r' => .ok (.nx r') cs
    | .ret v => .ok (.ret v) cs
def mFor (mi : ML) (g : D → Env → Option Env) (b : MS) : MS := fun r cs => (mi r cs).bind fun ds cs => forR (fun r d cs => match g d r with
  | some r' => b r' cs
  | none => .bad) ds r cs
theorem js_for {tg iter : Expr} {body : List Stmt} {mi : ML} {vs : List Nat} {g : TG} {gf : D → Env → Option Env} (hp : PassesOwn (model X.prog X.w) X.A X.env X.xe) (hc : X.calm = true) (hi : JI X W tg iter mi) (hg : PG X tg g) (hG : GT X.K vs g gf) (hb : JB X W body ms)
    (hs : ∀ x, foldedSetIterable iter X.env x = pure x := by intro _; rfl) : JS X W (.For tg iter body [] pos) (mFor mi gf ms) := by
  refine psI (ps_for hp hc hi hg hb hs) fun D σ H ⟨w, rr, cs, e, s, ev, a⟩ => ?_
  refine ⟨w, rr, cs, e, s, ev, (After.bind a).imp fun ds cs1 w1 l1 s1 a1 J hJ => ?_⟩
  refine ⟨fun i n σ2 H2 => ∃ w2 r2 cs2, n + i = ds.length ∧ w2.H = H2 ∧ Sim X.K w2 cs2 ∧ EnvR X.K w2 r2 σ2 ∧ IterOk X.K w2 J ds ∧ After X.K (EW X.K W) w2 (forR (fun r d cs => match gf d r with
    | some r' => ms r' cs
    | none => .bad) (ds.drop i) r2 cs2) (fun fl _ w' => FlP X.K D fl w'), ⟨ds.length, w1, rr, cs1, rfl, rfl, s1, ev.mono l1, hJ, a1⟩, fun i n σ2 H2 ⟨w2, r2, cs2, en, e2, s2, ev2, J2, a2⟩ => ?_⟩
  subst e2
  obtain ⟨hstop, hgo⟩ := J2 w2 (Le.refl w2).x i
  by_cases hi : i < ds.length
  · right
    have hd : ds[i]? = some ds[i] := List.getElem?_eq_getElem hi
    obtain ⟨go, hy⟩ := hgo ds[i] hd
    rw [List.drop_eq_getElem_cons hi] at a2
    refine ⟨go, fun σ3 H3 => ∃ w3 r3 cs3, w3.H = H3 ∧ Sim X.K w3 cs3 ∧ EnvR X.K w3 r3 σ3 ∧ IterOk X.K w3 J ds ∧ After X.K (EW X.K W) w3 (forR (fun r d cs => match gf d r with
      | some r' => ms r' cs
      | none => .bad) (ds.drop (i + 1)) r3 cs3) (fun fl _ w' => FlP X.K D fl w'), fun σ3 H3 ⟨w3, r3, cs3, e3, s3, ev3, J3, a3⟩ => ⟨n - 1, by omega, w3, r3, cs3, by omega, e3, s3, ev3, J3, a3⟩, fun x H' yl => ?_⟩
    obtain ⟨w3, e3, l3, s3, rd⟩ := hy x H' cs2 s2 yl
    subst e3
    have a3 := After.bind (After.mono l3 a2)
    cases hgf : gf ds[i] r2 with
    | none =>
      simp only [hgf] at a3
      exact a3.elim
    | some r' =>
      simp only [hgf] at a3
      refine hG w3 r2 r' σ2 ds[i] x _ (ev2.mono l3) rd hgf fun σ4 ev4 _ => ?_
      refine ⟨w3, r', cs2, rfl, s3, ev4, a3.imp fun fl cs5 w5 l5 s5 a5 => ?_⟩
      cases fl with
      | nx r5 => exact fun σ5 ev5 => ⟨w5, r5, cs5, rfl, s5, ev5, J2.mono (l3.trans l5).x, a5⟩
      | ct r5 => exact fun σ5 ev5 => ⟨w5, r5, cs5, rfl, s5, ev5, J2.mono (l3.trans l5).x, a5⟩
      | brk r5 => exact a5 w5 (Le.refl w5) s5
      | ret v => exact a5 w5 (Le.refl w5) s5
  · left
    refine ⟨hstop (by omega), ?_⟩
    rw [List.drop_eq_nil_of_le (by omega)] at a2
    exact a2 w2 (Le.refl w2) s2 σ2 ev2
def whileR (c : MT) (b : MS) : Nat → Env → List D → R Fl
  | 0, _, _ => .bad
  | n + 1, r, cs => (c r cs).bind fun t cs => if t then (b r cs).bind fun fl cs => match fl with
      | .nx r' => whileR c b n r' cs
      | .ct r' => whileR c b n r' cs
      | .brk r' => .ok (.nx r') cs
      | .ret v => .ok (.ret v) cs
    else .ok (.nx r) cs
def mWhile (n : Nat) (c : MT) (b : MS) : MS := fun r cs => whileR c b n r cs
theorem js_while (n : Nat) {c : Expr} {body : List Stmt} {mc : MT} (hp : PassesOwn (model X.prog X.w) X.A X.env X.xe) (hc : JT X W c mc) (hb : JB X W body ms) : JS X W (.While c body [] pos) (mWhile n mc ms) := by
  refine psI (ps_while hp hc hb) fun D σ H ⟨w, rr, cs, e, s, ev, a⟩ => ?_
  refine ⟨fun k σ2 H2 => ∃ w2 r2 cs2, w2.H = H2 ∧ Sim X.K w2 cs2 ∧ EnvR X.K w2 r2 σ2 ∧ After X.K (EW X.K W) w2 (whileR mc ms k r2 cs2) (fun fl _ w' => FlP X.K D fl w'), ⟨n, w, rr, cs, e, s, ev, a⟩, fun k σ2 H2 ⟨w2, r2, cs2, e2, s2, ev2, a2⟩ => ?_⟩
  subst e2
  cases k with
  | zero => exact a2.elim
  | succ k =>
    refine ⟨w2, r2, cs2, rfl, s2, ev2, (After.bind a2).imp fun t cs3 w3 l3 s3 a3 => ?_⟩
    cases t with
    | false =>
      rw [if_neg Bool.false_ne_true]
      exact a3 w3 (Le.refl w3) s3 σ2 (ev2.mono l3)
    | true =>
      rw [if_pos rfl]
      refine ⟨fun σ4 H4 => ∃ w4 r4 cs4, w4.H = H4 ∧ Sim X.K w4 cs4 ∧ EnvR X.K w4 r4 σ4 ∧ After X.K (EW X.K W) w4 (whileR mc ms k r4 cs4) (fun fl _ w' => FlP X.K D fl w'), fun σ4 H4 h4 => ⟨k, Nat.lt_succ_self k, h4⟩, ?_⟩
      refine ⟨w3, r2, cs3, rfl, s3, ev2.mono l3, (After.bind a3).imp fun fl cs5 w5 l5 s5 a5 => ?_⟩
      cases fl with
      | nx r5 => exact fun σ5 ev5 => ⟨w5, r5, cs5, rfl, s5, ev5, a5⟩
      | ct r5 => exact fun σ5 ev5 => ⟨w5, r5, cs5, rfl, s5, ev5, a5⟩
      | brk r5 => exact a5 w5 (Le.refl w5) s5
      | ret v => exact a5 w5 (Le.refl w5) s5
end
end Wf
set_option Elab.async false
set_option linter.all false
set_option maxRecDepth 100000
/-! Readings by mirrors: comprehensions, calls by keywords, defs. -/
namespace Wf
open PySem PySem.Spec PyProof.Rows L2
section
variable {X : Cx} {W : WX} {K : PySem.W.Frag} {a b c e : Expr} {es : List Expr} {ma mb mc m n : M} {ml : ML} {mt : MT} {pos : Pos} {st : Stmt} {sts : List Stmt} {ms ns : MS}
/-! ### comprehensions -/
def addO (o : Option D) (ys : List D) : List D := match o with
  | some y => y :: ys
  | none => ys
def mapR (f : D → List D → R (Option D)) : List D → List D → R (List D)
  | [], cs => .ok [] cs
  | d :: ds, cs => (f d cs).bind fun o cs => (mapR f ds cs).bind fun ys cs => .ok (addO o ys) cs
def tW (W : WX) : WX := fun _ _ _ _ => False
abbrev W0 : WX := fun _ _ _ _ => False
def wipeD (r : Env) : List Nat → Env
  | [] => r
  | v :: vs => (wipeD r vs).set v none
theorem EnvR.wipe {w : Wd} {r : Env} {σ : L2.St} (h : EnvR K w r σ) : ∀ vs : List Nat, EnvR K w (wipeD r vs) (wipe σ vs)
  | [] => h
  | v :: vs => (EnvR.wipe h vs).unset v none
theorem wipe_get {σ : L2.St} {v : Nat} : ∀ {vs : List Nat}, v ∈ vs → (wipe σ vs)[v]? = none ∨ (wipe σ vs)[v]? = some none
  | u :: vs, h => by
    unfold L2.wipe
    by_cases e : u = v
    · subst e
      by_cases hl : u < (L2.wipe σ vs).length
      · exact .inr (List.getElem?_set_self hl)
      · exact .inl (List.getElem?_eq_none (by rw [List.length_set]; omega))
    · rw [List.getElem?_set_ne e]
      rcases List.mem_cons.mp h with h | h
      · exact absurd h.symm e
      · exact wipe_get h
theorem set_none {σ : L2.St} {v : Nat} (h : σ[v]? = none ∨ σ[v]? = some none) : σ.set v none = σ := by
  apply List.ext_getElem?
  intro j
  by_cases e : v = j
  · subst e
    by_cases hl : v < σ.length
    · rw [List.getElem?_set_self hl]
      rcases h with h | h
      · rw [List.getElem?_eq_none_iff] at h
        omega
      · exact h.symm
    · rw [List.getElem?_eq_none (by rw [List.length_set]; omega), List.getElem?_eq_none (by omega)]
  · rw [List.getElem?_set_ne e]
theorem wipe_sub {σ : L2.St} {us : List Nat} : ∀ {vs : List Nat}, (∀ v ∈ vs, v ∈ us) → L2.wipe (L2.wipe σ us) vs = L2.wipe σ us
  | [], _ => rfl
  | v :: vs, h => by
    show (L2.wipe (L2.wipe σ us) vs).set v none = L2.wipe σ us
    rw [wipe_sub (fun u hu => h u (List.mem_cons_of_mem _ hu))]
    exact set_none (wipe_get (h v (List.mem_cons_self ..)))
def lcF (g : D → Env → Option Env) (mt : MT) (me : M) (r : Env) : D → List D → R (Option D) := fun d cs => match g d r with
  | some r' => (mt r' cs).bind fun b cs => if b then (me r' cs).bind fun y cs => .ok (some y) cs else .ok none cs
  | none => .bad
/-- no exception leaves it -/
def calmR {α : Type} : R α → R α
  | .err _ _ _ => .bad
  | o => o
def mLcG (vs : List Nat) (mi : ML) (g : D → Env → Option Env) (mt : MT) (me : M) (k : List D → List D → R D) : M := fun r cs => (mi r cs).bind fun ds cs => (calmR (mapR (lcF g mt me (wipeD r vs)) ds cs)).bind fun ys cs => if ys.length < sizeLine then k ys cs else .bad
def mLc (vs : List Nat) (mi : ML) (g : D → Env → Option Env) (mt : MT) (me : M) : M := mLcG vs mi g mt me fun ys cs => .ok (.lst ys) cs
def mLcL (vs : List Nat) (mi : ML) (g : D → Env → Option Env) (mt : MT) (me : M) : M := mLcG vs mi g mt me fun ys cs => if nrs ys = true then .ok (.ref cs.length) (cs ++ [.lst ys]) else .bad
theorem mapR_len {f : D → List D → R (Option D)} : ∀ {ds : List D} {cs ys cs' : List D}, mapR f ds cs = .ok ys cs' → ys.length ≤ ds.length
  | [], cs, ys, cs', h => by
    cases h
    exact Nat.le_refl _
  | d :: ds, cs, ys, cs', h => by
    unfold mapR at h
    cases h1 : f d cs with
    | ok o cs1 =>
      rw [h1] at h
      simp only [R.bind_ok] at h
      cases h2 : mapR f ds cs1 with
      | ok zs cs2 =>
        rw [h2] at h
        simp only [R.bind_ok] at h
        have := mapR_len h2
        cases o with
        | none =>
          cases h
          exact Nat.le_succ_of_le this
        | some y =>
          cases h
          exact Nat.succ_le_succ this
      | err x r cs2 =>
        rw [h2] at h
        cases h
      | bad =>
        rw [h2] at h
        cases h
    | err x r cs1 =>
      rw [h1] at h
      cases h
    | bad =>
      rw [h1] at h
      cases h
theorem bind_ok_iff {α β : Type} {r : R α} {k : α → List D → R β} {b : β} {cs' : List D} (h : r.bind k = .ok b cs') : ∃ a cs, r = .ok a cs ∧ k a cs = .ok b cs' := by
  cases r with
  | ok a cs => exact ⟨a, cs, rfl, h⟩
  | err x r cs => cases h
  | bad => cases h
theorem calm_ok {α : Type} {E : EE} {w : Wd} {r : R α} {β : Type} {k : α → List D → R β} {P : β → List D → Wd → Prop} (h : After K E w ((calmR r).bind k) P) : ∃ a cs, r = .ok a cs ∧ After K E w (k a cs) P := by
  cases r with
  | ok a cs => exact ⟨a, cs, rfl, h⟩
  | err x r cs => exact h.elim
  | bad => exact h.elim
theorem t_lc {vs : List Nat} {wi : ML} {g : TG} {gf : D → Env → Option Env} {k : List D → List D → R D} {me : M}
    (hG : GT K vs g gf)
    (fin : ∀ (E : EE) (w0 w : Wd) (cs : List D) (p : Addr) (ys : List D) (acc : List V) (Q : VK), ¬ w0.G p → LeB p w0 w → Sim K w cs → w.G p → w.H p = some (.lst acc) → Reps K w ys acc → After K E w0 (k ys cs) (fun d _ w' => ∀ v, Rep K w' d v → Q v w'.H) → Q (.ref p) w.H) :
    ∀ σ H Q, tE K W (mLcG vs wi gf mt me k) σ H Q → tLc (tIt K W wi) g (tT K W0 mt) (tE K W0 me) vs σ H Q := fun σ H Q ⟨w, rr, cs, e, s, ev, a⟩ => by
  refine ⟨w, rr, cs, e, s, ev, (After.bind a).imp fun ds cs1 w1 l1 s1 a1 J hJ p np => ?_⟩
  obtain ⟨ys, csE, eq, a2⟩ := calm_ok a1
  obtain ⟨hz, a2⟩ := if_bad a2
  have ev1 := ev.mono l1
  refine ⟨fun i n H2 => ∃ w2 cs2 acc ad zs, n + i = ds.length ∧ w2.H = H2 ∧ Sim K w2 cs2 ∧ w2.G p ∧ w2.H p = some (.lst acc) ∧ Reps K w2 ad acc ∧ LeB p w1 w2 ∧ IterOk K w2 J ds ∧ mapR (lcF gf mt me (wipeD rr vs)) (ds.drop i) cs2 = .ok zs csE ∧ ad ++ zs = ys,
    ⟨ds.length, w1.hold p (.lst []), cs1, [], [], ys, rfl, rfl, s1.hold np, .inr rfl, upd_same, rfl, (s1.le_hold np).b p, hJ.mono (s1.le_hold np).x, eq, rfl⟩, fun i n H2 ⟨w2, cs2, acc, ad, zs, en, e2, s2, g2, hp, ra, lb, J2, m2, ez⟩ => ?_⟩
  subst e2
  obtain ⟨hstop, hgo⟩ := J2 w2 (Le.refl w2).x i
  by_cases hi : i < ds.length
  · right
    have hd : ds[i]? = some ds[i] := List.getElem?_eq_getElem hi
    obtain ⟨go, hy⟩ := hgo ds[i] hd
    rw [List.drop_eq_getElem_cons hi] at m2
    unfold mapR at m2
    obtain ⟨o, cs3, f3, m3⟩ := bind_ok_iff m2
    obtain ⟨zs', cs4, m4, m5⟩ := bind_ok_iff m3
    have ezs : addO o zs' = zs := by
      cases m5
      rfl
    have ecs : cs4 = csE := by
      cases m5
      rfl
    subst ecs
    refine ⟨go, fun H3 => ∃ w2 cs2 acc ad zs, w2.H = H3 ∧ Sim K w2 cs2 ∧ w2.G p ∧ w2.H p = some (.lst acc) ∧ Reps K w2 ad acc ∧ LeB p w1 w2 ∧ IterOk K w2 J ds ∧ mapR (lcF gf mt me (wipeD rr vs)) (ds.drop (i + 1)) cs2 = .ok zs cs4 ∧ ad ++ zs = ys, fun H3 ⟨w2, cs2, acc, ad, zs, h⟩ => ⟨n - 1, by omega, w2, cs2, acc, ad, zs, by omega, h⟩, fun x H' yl => ?_⟩
    obtain ⟨w3, e3, l3, s3, rd⟩ := hy x H' cs2 s2 yl
    subst e3
    unfold lcF at f3
    cases hgf : gf ds[i] (wipeD rr vs) with
    | none =>
      simp only [hgf] at f3
      cases f3
    | some r' =>
      simp only [hgf] at f3
      obtain ⟨b, cs5, t5, f5⟩ := bind_ok_iff f3
      have evw : EnvR K w3 (wipeD rr vs) (wipe σ vs) := ((ev1.b lb).mono l3).wipe vs
      refine hG w3 (wipeD rr vs) r' (wipe σ vs) ds[i] x _ evw rd hgf fun σ2 ev2 ew => ⟨?_, w3, r', cs2, rfl, s3, ev2, ?_⟩
      · rw [ew]
        exact wipe_sub fun _ h => h
      rw [t5]
      intro w5 l5 s5
      cases b with
      | false =>
        rw [if_neg Bool.false_ne_true] at f5 ⊢
        cases f5
        refine ⟨w5, _, acc, ad, zs', rfl, s5, ((l3.trans l5).gd p g2).1, ((l3.trans l5).gd p g2).2.trans hp, Reps.mono K (l3.trans l5) _ _ ra, lb.trans ((l3.trans l5).b p), J2.mono (l3.trans l5).x, m4, ?_⟩
        rw [← ez, ← ezs]
        rfl
      | true =>
        rw [if_pos rfl] at f5 ⊢
        obtain ⟨y, cs6, t6, f6⟩ := bind_ok_iff f5
        cases f6
        refine ⟨w5, r', cs5, rfl, s5, ev2.mono l5, ?_⟩
        rw [t6]
        intro w6 l6 s6 v rv
        have l36 := (l3.trans l5).trans l6
        have hp6 : w6.H p = some (.lst acc) := (l36.gd p g2).2.trans hp
        have g6 := (l36.gd p g2).1
        refine ⟨acc, hp6, ?_, ?_⟩
        · rw [← Reps.length K ra]
          have : ad.length ≤ ys.length := by
            rw [← ez, List.length_append]
            omega
          omega
        · have lt := s6.turnB (o := .lst (acc ++ [v])) g6
          refine ⟨w6.turn p (.lst (acc ++ [v])), _, acc ++ [v], ad ++ [y], zs', rfl, s6.turn g6, g6, upd_same, Reps.app K (Reps.b lt _ _ (Reps.mono K l36 _ _ ra)) ⟨v, [], rfl, Rep.b lt _ _ rv, rfl⟩, (lb.trans (l36.b p)).trans lt, ?_, m4, ?_⟩
          · exact (J2.mono l36.x).mono lt.x
          · rw [← ez, ← ezs, List.append_assoc]
            rfl
  · left
    refine ⟨hstop (by omega), ?_⟩
    rw [List.drop_eq_nil_of_le (by omega)] at m2
    cases m2
    rw [List.append_nil] at ez
    subst ez
    exact fin _ w1 w2 csE p ad acc Q (s1.fresh np).2.2 lb s2 g2 hp ra a2
theorem fin_lc (E : EE) (w0 w : Wd) (cs : List D) (p : Addr) (ys : List D) (acc : List V) (Q : VK) (np : ¬ w0.G p) (lb : LeB p w0 w) (s : Sim K w cs) (g : w.G p) (hp : w.H p = some (.lst acc)) (ra : Reps K w ys acc)
    (h : After K E w0 (.ok (.lst ys) cs) (fun d _ w' => ∀ v, Rep K w' d v → Q v w'.H)) : Q (.ref p) w.H := by
  have l2 := lb.trans (Wd.settleB w p)
  have le : Le w0 (w.settle p) := ⟨l2.pre, l2.fr, l2.keep, fun b gb => l2.gd b gb fun e => np (e ▸ gb)⟩
  exact h (w.settle p) le (s.settle g) (.ref p) ⟨p, acc, rfl, .inr rfl, hp, Reps.b (Wd.settleB w p) _ _ ra⟩
theorem fin_lcL (E : EE) (w0 w : Wd) (cs : List D) (p : Addr) (ys : List D) (acc : List V) (Q : VK) (np : ¬ w0.G p) (lb : LeB p w0 w) (s : Sim K w cs) (g : w.G p) (hp : w.H p = some (.lst acc)) (ra : Reps K w ys acc)
    (h : After K E w0 (if nrs ys = true then .ok (.ref cs.length) (cs ++ [.lst ys]) else .bad) (fun d _ w' => ∀ v, Rep K w' d v → Q v w'.H)) : Q (.ref p) w.H := by
  obtain ⟨hn, h⟩ := if_bad h
  have l2 := lb.trans (Wd.adoptB w p)
  have le : Le w0 (w.adopt p) := ⟨l2.pre, l2.fr, l2.keep, fun b gb => l2.gd b gb fun e => np (e ▸ gb)⟩
  refine h (w.adopt p) le (s.adopt g hn ⟨acc, hp, ra⟩) (.ref p) ⟨p, rfl, ?_⟩
  show (w.p ++ [p])[cs.length]? = some p
  rw [← s.len, List.getElem?_append_right (Nat.le_refl _), Nat.sub_self]
  rfl
section
variable {elt tg iter : Expr} {ifs : List Expr} {scope : Scope} {own : List (Str × Nat)} {wi : ML} {g : TG} {gf : D → Env → Option Env} {me : M}
theorem je_lc (hc : X.calm = true) (hN : X.N.Nodup) (hi : JI X W tg iter wi) (ok : BlkOk X.N X.env.scope scope own)
    (hg : ∀ (s : Shared) (H : Hp) (C : Addr) (cl : List (Str × Addr)) (fp : List Addr), PG (X.blk s H scope (compEnvC scope cl C X.env) fp) tg g) (hG : GT X.K (own.map (·.2)) g gf)
    (ht : ∀ (s : Shared) (H : Hp) (C : Addr) (cl : List (Str × Addr)) (fp : List Addr), PTs (X.blk s H scope (compEnvC scope cl C X.env) fp) ifs (tT X.K W0 mt))
    (he : ∀ (s : Shared) (H : Hp) (C : Addr) (cl : List (Str × Addr)) (fp : List Addr), JE (X.blk s H scope (compEnvC scope cl C X.env) fp) W0 elt me) (hs : ∀ x, foldedSetIterable iter X.env x = pure x := by intro _; rfl) :
    JE X W (.ListComp elt [⟨tg, iter, ifs, 0⟩] scope pos) (mLc (own.map (·.2)) wi gf mt me) := peI (pe_lc hc hN hi ok hg ht he hs) (t_lc hG fin_lc)
theorem je_lcL (hc : X.calm = true) (hN : X.N.Nodup) (hi : JI X W tg iter wi) (ok : BlkOk X.N X.env.scope scope own)
    (hg : ∀ (s : Shared) (H : Hp) (C : Addr) (cl : List (Str × Addr)) (fp : List Addr), PG (X.blk s H scope (compEnvC scope cl C X.env) fp) tg g) (hG : GT X.K (own.map (·.2)) g gf)
    (ht : ∀ (s : Shared) (H : Hp) (C : Addr) (cl : List (Str × Addr)) (fp : List Addr), PTs (X.blk s H scope (compEnvC scope cl C X.env) fp) ifs (tT X.K W0 mt))
    (he : ∀ (s : Shared) (H : Hp) (C : Addr) (cl : List (Str × Addr)) (fp : List Addr), JE (X.blk s H scope (compEnvC scope cl C X.env) fp) W0 elt me) (hs : ∀ x, foldedSetIterable iter X.env x = pure x := by intro _; rfl) :
    JE X W (.ListComp elt [⟨tg, iter, ifs, 0⟩] scope pos) (mLcL (own.map (·.2)) wi gf mt me) := peI (pe_lc hc hN hi ok hg ht he hs) (t_lc hG fin_lcL)
theorem js_setLc {i : Nat} {y : Str} {py spos : Pos} (hc : X.calm = true) (hN : X.N.Nodup) (hy : X.N[i]? = some y) (hyl : X.env.scope.names.lookup y = some .local)
    (hsw : swapsWith (.ListComp elt [⟨tg, iter, ifs, 0⟩] scope pos) (some (.Name y py)) spos.line X.env = pure true) (hi : JI X W tg iter wi) (ok : BlkOk X.N X.env.scope scope own)
    (hg : ∀ (s : Shared) (H : Hp) (C : Addr) (cl : List (Str × Addr)) (fp : List Addr), PG (X.blk s H scope (compEnvC scope cl C X.env) fp) tg g) (hG : GT X.K (own.map (·.2)) g gf)
    (ht : ∀ (s : Shared) (H : Hp) (C : Addr) (cl : List (Str × Addr)) (fp : List Addr), PTs (X.blk s H scope (compEnvC scope cl C X.env) fp) ifs (tT X.K W0 mt))
    (he : ∀ (s : Shared) (H : Hp) (C : Addr) (cl : List (Str × Addr)) (fp : List Addr), JE (X.blk s H scope (compEnvC scope cl C X.env) fp) W0 elt me) (hs : ∀ x, foldedSetIterable iter X.env x = pure x := by intro _; rfl) :
    JS X W (.Assign [.Name y py] (.ListComp elt [⟨tg, iter, ifs, 0⟩] scope pos) spos) (mAsg (gtN i) (mLc (own.map (·.2)) wi gf mt me)) := psI (ps_setLc hc hN hy hyl hsw hi ok hg ht he hs) (t_asg (t_lc hG fin_lc) (gt_name (vs := [i]) (by simp)))
theorem js_setLcL {i : Nat} {y : Str} {py spos : Pos} (hc : X.calm = true) (hN : X.N.Nodup) (hy : X.N[i]? = some y) (hyl : X.env.scope.names.lookup y = some .local)
    (hsw : swapsWith (.ListComp elt [⟨tg, iter, ifs, 0⟩] scope pos) (some (.Name y py)) spos.line X.env = pure true) (hi : JI X W tg iter wi) (ok : BlkOk X.N X.env.scope scope own)
    (hg : ∀ (s : Shared) (H : Hp) (C : Addr) (cl : List (Str × Addr)) (fp : List Addr), PG (X.blk s H scope (compEnvC scope cl C X.env) fp) tg g) (hG : GT X.K (own.map (·.2)) g gf)
    (ht : ∀ (s : Shared) (H : Hp) (C : Addr) (cl : List (Str × Addr)) (fp : List Addr), PTs (X.blk s H scope (compEnvC scope cl C X.env) fp) ifs (tT X.K W0 mt))
    (he : ∀ (s : Shared) (H : Hp) (C : Addr) (cl : List (Str × Addr)) (fp : List Addr), JE (X.blk s H scope (compEnvC scope cl C X.env) fp) W0 elt me) (hs : ∀ x, foldedSetIterable iter X.env x = pure x := by intro _; rfl) :
    JS X W (.Assign [.Name y py] (.ListComp elt [⟨tg, iter, ifs, 0⟩] scope pos) spos) (mAsg (gtN i) (mLcL (own.map (·.2)) wi gf mt me)) := psI (ps_setLc hc hN hy hyl hsw hi ok hg ht he hs) (t_asg (t_lc hG fin_lcL) (gt_name (vs := [i]) (by simp)))
def mYes : MT := fun _ cs => .ok true cs
theorem jts_nil : PTs X [] (tT X.K W mYes) := ⟨fun pins s σ H Q I ⟨w, r, cs, e, sm, ev, a⟩ => pts_nil.run pins s σ H Q I (by
  have h : Q true w.H := a w (Le.refl w) sm
  rw [e] at h
  exact h)⟩
theorem jts_one {c : Expr} (h : JT X W c mt) : PTs X [c] (tT X.K W mt) := pts_one h
end
/-! ### a call with keywords -/
def pick {α : Type} (ix : List Nat) (xs : List α) : List α := ix.filterMap fun i => xs[i]?
theorem Reps.pick {w : Wd} {l : List D} {xs : List V} (h : Reps K w l xs) : ∀ ix : List Nat, Reps K w (Wf.pick ix l) (Wf.pick ix xs)
  | [] => rfl
  | i :: ix => by
    have ih := Reps.pick h ix
    unfold Wf.pick at ih ⊢
    rw [List.filterMap_cons, List.filterMap_cons]
    cases e : l[i]? with
    | none =>
      have : xs[i]? = none := by
        rw [List.getElem?_eq_none_iff] at e ⊢
        rw [← Reps.length K h]
        exact e
      rw [this]
      exact ih
    | some d =>
      obtain ⟨v, hv, rv⟩ := Reps.get K h e
      rw [hv]
      exact ⟨v, _, rfl, rv, ih⟩
theorem Vals.pick {vs : List V} {us : List Value} (h : Vals vs us) : ∀ ix : List Nat, Vals (Wf.pick ix vs) (Wf.pick ix us)
  | [] => .nil
  | i :: ix => by
    have ih := Vals.pick h ix
    unfold Wf.pick at ih ⊢
    rw [List.filterMap_cons, List.filterMap_cons]
    cases e : vs[i]? with
    | none =>
      rw [Vals.none_of h e]
      exact ih
    | some d =>
      obtain ⟨u, hu, ru⟩ := Vals.get h e
      rw [hu]
      exact .cons ru ih
/-- how the keywords bind: n positional values, then those of the names ks; ix: the parameters' order of them all -/
def KBs (fd : FuncData) (ps : List Str) (n : Nat) (ks : List Str) (ix : List Nat) : Prop := ∀ (us ws : List Value), us.length = n → ws.length = ks.length → bindArgs fd ⟨us, ks.zip ws⟩ = pure (ps.zip (pick ix (us ++ ws)))
abbrev JK (X : Cx) (W : WX) (ks : List Keyword) (m : ML) : Prop := PK X ks (tA X.K W m)
theorem pkI {X : Cx} {e : List Keyword} {t t' : TA} (h : PK X e t) (k : ∀ σ H Q, t' σ H Q → t σ H Q) : PK X e t' := ⟨fun pos pins s σ H Q I q => h.run pos pins s σ H Q I (k σ H Q q)⟩
theorem jk_nil : JK X W [] mNil := pkI pk_nil fun σ H Q ⟨w, r, cs, e, s, ev, a⟩ => by
  have := a w (Le.refl w) s [] rfl
  rw [e] at this
  exact this
theorem jk_cons {nm : Option Str} {kpos : Pos} {kws : List Keyword} (h : JE X W e m) (k : JK X W kws ml) : JK X W (⟨nm, e, kpos⟩ :: kws) (mCons m ml) := pkI (pk_cons h k) t_cons
def mApp (ma mb : ML) : ML := fun r cs => (ma r cs).bind fun ds cs => (mb r cs).bind fun es cs => .ok (ds ++ es) cs
def mCallK0 (f : Fn) (k : Nat) (ix : List Nat) (mk : ML) : M := fun r cs => (mk r cs).bind fun es cs => if es.length = k then noteE r (f (pick ix es) cs) else .bad
def mCallK (f : Fn) (n k : Nat) (ix : List Nat) (ml mk : ML) : M := fun r cs => (ml r cs).bind fun ds cs => (mk r cs).bind fun es cs => if ds.length = n ∧ es.length = k then noteE r (f (pick ix (ds ++ es)) cs) else .bad
section
variable {k : Nat} {f : Addr} {fd : FuncData} {ps ks : List Str} {fn : Fn} {x : Str} {p : Pos} {mk : ML} {kws : List Keyword} {nn : Nat} {ix : List Nat}
theorem run_fnKS {pins : List (Addr × Obj)} {σ : L2.St} {H : Hp} {s : Shared} {Q : VK} {us ws : List Value} {vs zs : List V} {E : XK} (F : FnOk X.prog X.w X.K X.mg X.base (L2.CX X.prog X.w) k f fd ps (spF X.K fn)) (hr : Room k X.A) (hb : KBs fd ps nn ks ix)
    (hx : PassesAt (L2.CX X.prog X.w) X σ E) (I : Inv X pins σ H s) (r : Vals vs us) (rz : Vals zs ws) (h1 : vs.length = nn) (h2 : zs.length = ks.length) (h : spF X.K fn (pick ix (vs ++ zs)) H Q E) : wpAny (model X.prog X.w) X.A (call (.ref f) us (ks.zip ws)) (EP X pins σ Q) X.xe s := by
  have r2 : Vals (pick ix (vs ++ zs)) (pick ix (us ++ ws)) := Vals.pick (Vals.append r rz) ix
  have hl : (pick ix (us ++ ws)).length = ps.length := by rw [← r2.length]; exact F.len _ _ _ _ h
  have hbt : BindsTo s fd ⟨us, ks.zip ws⟩ (ps.zip (pick ix (us ++ ws))) := .of_eq (hb us ws (r.length ▸ h1) (rz.length ▸ h2))
  refine wpAny_call (codeAny_mono (F.run X.A X.stack s H ⟨us, ks.zip ws⟩ (pick ix (us ++ ws)) (pick ix (vs ++ zs)) Q E hr I.env0 hbt r2 h) fun r s' hq => ?_)
  cases r with
  | error e => exact hx pins H s e s' I hq
  | ok fl =>
    cases fl with
    | ret u => exact I.after hq
    | next => exact False.elim hq
    | brk => exact False.elim hq
    | cont => exact False.elim hq
theorem je_callK0 (F : FnOk X.prog X.w X.K X.mg X.base (L2.CX X.prog X.w) k f fd ps (spF X.K fn)) (hr : Room k X.A) (hg : Gl X x) (hm : X.mg x = some (.ref f)) (hk : PySem.W.keepIn X.K (.ref f) = true) (hb : KBs fd ps 0 ks ix) (tk : Takes X W)
    (hkw : JK X W kws mk) (hall : (backToKw pos (keywordEach kws X.env)).all (·.1.isSome) = true := by rfl) (hks : (backToKw pos (keywordEach kws X.env)).filterMap (·.1) = ks := by rfl) (hdb : (x == ("__debug__" : Str)) = false := by decide)
    (hpl : ((backTo pos (starEach [] X.env)).any (·.1) || (backToKw pos (keywordEach kws X.env)).any (·.1.isNone)) = false := by rfl) :
    JE X W (.Call (.Name x p) [] kws pos) (mCallK0 fn ks.length ix mk) := by
  refine ⟨fun pins s σ H Q I ⟨w, rr, cs, e, sm, ev, a⟩ => ?_⟩
  refine wpAny_Call_Name_kw (ld_glob I hg hm ?_ hdb)
  refine PySem.W.callWith_KW0 (h₀ := X.base) I.ok.mod.kin hk hall ?_ hpl
  have t : tA X.K W mk σ H (fun zs H2 => zs.length = ks.length ∧ spF X.K fn (pick ix ([] ++ zs)) H2 Q (WE W σ)) := by
    refine ⟨w, rr, cs, e, sm, ev, (After.bind a).imp fun ds cs1 w1 l1 s1 a1 vs r1 => ?_⟩
    obtain ⟨hz, a1⟩ := if_bad a1
    exact ⟨by rw [← Reps.length _ r1]; exact hz, w1, pick ix ds, cs1, rfl, s1, Reps.pick r1 ix, After.note (ev.mono l1) a1⟩
  refine thn (hkw.run pos pins s σ H _ I t) fun ws s2 ⟨zs, H2, I2, rz, q1, q2⟩ => ⟨I2.kIn, ?_⟩
  rw [hks]
  exact run_fnKS (us := []) (vs := []) F hr hb (passAt tk σ) I2 .nil rz rfl q1 q2
theorem je_callK (F : FnOk X.prog X.w X.K X.mg X.base (L2.CX X.prog X.w) k f fd ps (spF X.K fn)) (hr : Room k X.A) (hg : Gl X x) (hm : X.mg x = some (.ref f)) (hk : PySem.W.keepIn X.K (.ref f) = true) (hb : KBs fd ps nn ks ix) (tk : Takes X W)
    (ha : JA X W (e :: es) ml) (hkw : JK X W kws mk) (hall : (backToKw pos (keywordEach kws X.env)).all (·.1.isSome) = true := by rfl) (hks : (backToKw pos (keywordEach kws X.env)).filterMap (·.1) = ks := by rfl) (hdb : (x == ("__debug__" : Str)) = false := by decide)
    (he : starEach (e :: es) X.env = (false, eval e X.env) :: starEach es X.env := by rfl)
    (hpl : ((backTo pos (starEach (e :: es) X.env)).any (·.1) || (backToKw pos (keywordEach kws X.env)).any (·.1.isNone)) = false := by rfl) :
    JE X W (.Call (.Name x p) (e :: es) kws pos) (mCallK fn nn ks.length ix ml mk) := by
  refine ⟨fun pins s σ H Q I ⟨w, rr, cs, e, sm, ev, a⟩ => ?_⟩
  refine wpAny_Call_Name_kw (ld_glob I hg hm ?_ hdb)
  refine PySem.W.callWith_KW (h₀ := X.base) I.ok.mod.kin hk hall ?_ hpl he
  have t : tA X.K W ml σ H (fun us H1 => tA X.K W mk σ H1 (fun zs H2 => us.length = nn ∧ zs.length = ks.length ∧ spF X.K fn (pick ix (us ++ zs)) H2 Q (WE W σ))) := by
    refine ⟨w, rr, cs, e, sm, ev, (After.bind a).imp fun ds cs1 w1 l1 s1 a1 vs r1 => ?_⟩
    refine ⟨w1, rr, cs1, rfl, s1, ev.mono l1, (After.bind a1).imp fun es cs2 w2 l2 s2 a2 us r2 => ?_⟩
    obtain ⟨⟨h1, h2⟩, a2⟩ := if_bad a2
    exact ⟨by rw [← Reps.length _ r1]; exact h1, by rw [← Reps.length _ r2]; exact h2, w2, pick ix (ds ++ es), cs2, rfl, s2, Reps.pick (Reps.app _ (Reps.mono _ l2 _ _ r1) r2) ix, After.note (ev.mono (l1.trans l2)) a2⟩
  refine thn (ha.run pos pins s σ H _ I t) fun us s1 ⟨vs, H1, I1, r, t1⟩ => ?_
  refine thn (hkw.run pos pins s1 σ H1 _ I1 t1) fun ws s2 ⟨zs, H2, I2, rz, q0, q1, q2⟩ => ⟨I2.kIn, ?_⟩
  rw [hks]
  exact run_fnKS F hr hb (passAt tk σ) I2 r rz q0 q1 q2
end
end
/-! ### a def -/
/-- what a def hands back: cells of its own are left behind, but one list that it returns (also in a pair behind a word) -/
def outR (n : Nat) (d : D) (cs : List D) : R D := if nr d = true then .ok d (cs.take n) else match d with
  | .ref i => if i < n then .ok (.ref i) (cs.take n) else match cs[i]? with
    | some c => .ok (.ref n) (cs.take n ++ [c])
    | none => .bad
  | .tup [x, .ref i] => if nr x = true then match cs[i]? with
      | some c => if n ≤ i then .ok (.tup [x, .ref n]) (cs.take n ++ [c]) else .bad
      | none => .bad
    else .bad
  | _ => .bad
def finR (n : Nat) : R Fl → R D
  | .ok (.nx _) cs => .ok .non (cs.take n)
  | .ok (.ret d) cs => outR n d cs
  | .err x _ cs => if nr x = true then .err x [] (cs.take n) else .bad
  | _ => .bad
def env0 (n : Nat) (ds : List D) : Env := ds.map some ++ List.replicate (n - ds.length) none
/-- the def's function: nps parameters, nn names -/
def mDef (nps nn : Nat) (m : MS) : Fn := fun ds cs => if ds.length = nps then finR cs.length (m (env0 nn ds) cs) else .bad
section
variable {K : PySem.W.Frag}
def Wd.cut (w : Wd) (n : Nat) : Wd := ⟨w.p.take n, w.F, w.G, w.H⟩
theorem take_get {α : Type} {xs : List α} {n i : Nat} {x : α} (h : (xs.take n)[i]? = some x) : i < n ∧ xs[i]? = some x := by
  rw [List.getElem?_take] at h
  split at h
  · exact ⟨by assumption, h⟩
  · cases h
theorem ORep.cell {w w' : Wd} {a : Addr} (hp : ∀ a, w.F a → w'.F a) (hk : ∀ a, w.F a → w'.H a = w.H a) (hh : w'.H a = w.H a) : ∀ (d : D), nr d = true → ORep K w a d → ORep K w' a d := fun d c4 c3 => by
  cases d with
  | lst l => obtain ⟨xs, h, r⟩ := c3; exact ⟨xs, hh.trans h, Reps.nr K hp hk _ _ c4 r⟩
  | dct ks l => obtain ⟨xs, h, q, r⟩ := c3; exact ⟨xs, hh.trans h, q, Reps.nr K hp hk _ _ c4 r⟩
  | ins C ns l => obtain ⟨dx, xs, h, q, r⟩ := c3; exact ⟨dx, xs, hh.trans h, q, Reps.nr K hp hk _ _ c4 r⟩
  | _ => obtain ⟨u, h⟩ := c3; exact ⟨u, hh.trans h⟩
theorem Sim.cut {w : Wd} {cs : List D} (s : Sim K w cs) (n : Nat) : Sim K (w.cut n) (cs.take n) := by
  refine ⟨?_, fun i j a hi hj => s.nd i j a (take_get hi).2 (take_get hj).2, s.trk, fun a g => ?_, fun i a d hi hd => ?_⟩
  · show (w.p.take n).length = _
    rw [List.length_take, List.length_take, s.len]
  · obtain ⟨g1, g2, g3⟩ := s.gtr a g
    exact ⟨g1, g2, fun i hi => g3 i (take_get hi).2⟩
  · obtain ⟨c1, c2, c3, c4⟩ := s.cell i a d (take_get hi).2 (take_get hd).2
    exact ⟨c1, c2, ORep.cell (w := w) (w' := w.cut n) (fun _ h => h) (fun _ _ => rfl) rfl d c4 c3, c4⟩
theorem Le.cut {w0 w : Wd} {n : Nat} (l : Le w0 w) (h : w0.p.length ≤ n) : Le w0 (w.cut n) := by
  refine ⟨fun i a hi => ?_, l.fr, l.keep, l.gd⟩
  have hl : i < w0.p.length := (List.getElem?_eq_some_iff.mp hi).1
  show (w.p.take n)[i]? = some a
  rw [List.getElem?_take, if_pos (by omega)]
  exact l.pre i a hi
/-- one cell is kept, as the last -/
def Wd.keep1 (w : Wd) (n : Nat) (a : Addr) : Wd := ⟨w.p.take n ++ [a], w.F, w.G, w.H⟩
theorem Sim.keep1 {w : Wd} {cs : List D} {n i : Nat} {a : Addr} {c : D} (s : Sim K w cs) (hn : n ≤ i) (hi : w.p[i]? = some a) (hc : cs[i]? = some c) : Sim K (w.keep1 n a) (cs.take n ++ [c]) := by
  have hlen : i < w.p.length := (List.getElem?_eq_some_iff.mp hi).1
  have hl : (w.p.take n).length = n := by
    rw [List.length_take]
    omega
  have hl2 : (cs.take n).length = n := by
    rw [List.length_take, ← s.len]
    omega
  have get : ∀ (j : Nat) (b : Addr), (w.p.take n ++ [a])[j]? = some b → (j < n ∧ w.p[j]? = some b) ∨ (j = n ∧ b = a) := fun j b h => by
    by_cases hj : j < n
    · rw [List.getElem?_append_left (by omega)] at h
      exact .inl ⟨hj, (take_get h).2⟩
    · have hz := (List.getElem?_eq_some_iff.mp h).1
      rw [List.length_append, hl] at hz
      simp at hz
      have : j = n := by omega
      subst this
      rw [List.getElem?_append_right (by omega), hl, Nat.sub_self] at h
      exact .inr ⟨rfl, (Option.some.inj h).symm⟩
  refine ⟨?_, fun j k b hj hk => ?_, s.trk, fun b g => ?_, fun j b d hj hd => ?_⟩
  · show (w.p.take n ++ [a]).length = _
    rw [List.length_append, List.length_append, hl, hl2]
    rfl
  · rcases get j b hj with ⟨h1, h2⟩ | ⟨h1, h2⟩ <;> rcases get k b hk with ⟨h3, h4⟩ | ⟨h3, h4⟩
    · exact s.nd j k b h2 h4
    · subst h4
      have := s.nd j i b h2 hi
      omega
    · subst h2
      have := s.nd k i b h4 hi
      omega
    · omega
  · obtain ⟨g1, g2, g3⟩ := s.gtr b g
    refine ⟨g1, g2, fun j hj => ?_⟩
    rcases get j b hj with ⟨_, h2⟩ | ⟨_, h2⟩
    · exact g3 j h2
    · subst h2
      exact g3 i hi
  · have tr : ∀ (b : Addr) (d : D), nr d = true → ORep K w b d → ORep K (w.keep1 n a) b d := fun b d c4 c3 => ORep.cell (w := w) (w' := w.keep1 n a) (fun _ h => h) (fun _ _ => rfl) rfl d c4 c3
    rcases get j b hj with ⟨h1, h2⟩ | ⟨h1, h2⟩
    · rw [List.getElem?_append_left (by omega)] at hd
      obtain ⟨c1, c2, c3, c4⟩ := s.cell j b d h2 (take_get hd).2
      exact ⟨c1, c2, tr b d c4 c3, c4⟩
    · subst h1 h2
      rw [List.getElem?_append_right (by omega), hl2, Nat.sub_self] at hd
      have e : c = d := Option.some.inj hd
      subst e
      obtain ⟨c1, c2, c3, c4⟩ := s.cell i b c hi hc
      exact ⟨c1, c2, tr b c c4 c3, c4⟩
theorem Le.keep1 {w0 w : Wd} {n : Nat} {a : Addr} (l : Le w0 w) (h : w0.p.length = n) : Le w0 (w.keep1 n a) := by
  refine ⟨fun i b hi => ?_, l.fr, l.keep, l.gd⟩
  have hl : i < w0.p.length := (List.getElem?_eq_some_iff.mp hi).1
  have hi' := l.pre i b hi
  have hl' : i < w.p.length := (List.getElem?_eq_some_iff.mp hi').1
  show (w.p.take n ++ [a])[i]? = some b
  rw [List.getElem?_append_left (by rw [List.length_take]; omega), List.getElem?_take, if_pos (by omega)]
  exact hi'
theorem out_ok {E : EE} {w0 w : Wd} {n : Nat} {d : D} {cs : List D} {Q : VK} {v : V} (h0 : w0.p.length = n) (l : Le w0 w) (s : Sim K w cs) (rv : Rep K w d v) (h : After K E w0 (outR n d cs) (fun d _ w' => ∀ v, Rep K w' d v → Q v w'.H)) : Q v w.H := by
  unfold outR at h
  have hx : Lx w (w.cut n) → True := fun _ => trivial
  split at h
  · rename_i hn
    exact h (w.cut n) (l.cut (by omega)) (s.cut n) v (Rep.nr K (w := w) (w' := w.cut n) (fun _ h => h) (fun _ _ => rfl) d v hn rv)
  · split at h
    · rename_i i _
      obtain ⟨a, rfl, hi⟩ := rv
      split at h
      · rename_i hin
        refine h (w.cut n) (l.cut (by omega)) (s.cut n) (.ref a) ⟨a, rfl, ?_⟩
        show (w.p.take n)[i]? = some a
        rw [List.getElem?_take, if_pos hin]
        exact hi
      · rename_i hin
        split at h
        · rename_i c hc
          refine h (w.keep1 n a) (l.keep1 h0) (s.keep1 (by omega) hi hc) (.ref a) ⟨a, rfl, ?_⟩
          show (w.p.take n ++ [a])[n]? = some a
          have hlen : i < w.p.length := (List.getElem?_eq_some_iff.mp hi).1
          have hl : (w.p.take n).length = n := by
            rw [List.length_take]
            omega
          rw [List.getElem?_append_right (by omega), hl, Nat.sub_self]
          rfl
        · exact h.elim
    · rename_i x i _
      split at h
      · rename_i hnx
        split at h
        · rename_i c hc
          split at h
          · rename_i hin
            obtain ⟨p, xs, rfl, f, g, rs⟩ := rv
            obtain ⟨v1, vs1, rfl, r1, v2, vs2, e2, r2, r3⟩ := rs
            obtain ⟨a, rfl, hi⟩ := r2
            cases (show vs2 = [] from r3)
            subst e2
            refine h (w.keep1 n a) (l.keep1 h0) (s.keep1 hin hi hc) (.ref p) ⟨p, _, rfl, f, g, v1, _, rfl, Rep.nr K (w := w) (w' := w.keep1 n a) (fun _ h => h) (fun _ _ => rfl) x v1 hnx r1, .ref a, [], rfl, ⟨a, rfl, ?_⟩, rfl⟩
            show (w.p.take n ++ [a])[n]? = some a
            have hlen : i < w.p.length := (List.getElem?_eq_some_iff.mp hi).1
            have hl : (w.p.take n).length = n := by
              rw [List.length_take]
              omega
            rw [List.getElem?_append_right (by omega), hl, Nat.sub_self]
            rfl
          · exact h.elim
        · exact h.elim
      · exact h.elim
    · exact h.elim
theorem Reps.env {w : Wd} {n : Nat} {ds : List D} {vs : List V} {N : List Str} (h : Reps K w ds vs) (hn : N.length = n) : EnvR K w (env0 n ds) (L2.start N vs) := by
  have hl := Reps.length K h
  refine ⟨?_, fun i d e => ?_⟩
  · unfold env0 L2.start
    rw [List.length_append, List.length_append, List.length_map, List.length_map, List.length_replicate, List.length_replicate]
    omega
  · unfold env0 at e
    by_cases hi : i < ds.length
    · rw [List.getElem?_append_left (by rw [List.length_map]; exact hi), List.getElem?_map] at e
      cases hd : ds[i]? with
      | none =>
        rw [hd] at e
        cases e
      | some d' =>
        rw [hd] at e
        have e2 : d' = d := Option.some.inj (Option.some.inj e)
        subst e2
        obtain ⟨v, hv, rv⟩ := Reps.get K h hd
        refine ⟨v, ?_, rv⟩
        unfold L2.start
        rw [List.getElem?_append_left (by rw [List.length_map]; omega), List.getElem?_map, hv]
        rfl
    · rw [List.getElem?_append_right (by rw [List.length_map]; omega), List.getElem?_replicate] at e
      split at e <;> cases e
variable {P : Program} {w : World} {mg : Str → Option Value} {base : Heap} {x qual : Str} {st : Stmt} {f : Addr} {fd : FuncData} {N ps : List Str} {k : Nat}
/-- the wish of a def's own frame -/
abbrev WD (E : XK) : WX := fun c d _ H => E c d H
theorem fn_ok {m : MS} (F : Fun K x qual st f fd) (S : FnScope N ps (defScope st))
    (hb : ∀ (cdv : Value) (A : Around) (outer : List PySem.Env) (s : Shared) (H : Hp) (E : XK), Room k (A.deeper (envOfC qual (defScope st) s.heap.objs.size f cdv)) →
      JB (cxOf (L2.CX P w) P w K mg base N qual (defScope st) f cdv A outer s H E) (WD E) (defBody st) m) :
    FnOk P w K mg base (L2.CX P w) (k + 1) f fd ps (spF K (mDef ps.length N.length m)) := by
  refine F.okX S (fun vs H Q E h => ?_) (fun cdv A outer s H vs Q E hr h => ?_)
  · obtain ⟨w, ds, cs, e, sm, rs, a⟩ := h
    unfold mDef at a
    obtain ⟨hl, a⟩ := if_bad a
    rw [← Reps.length K rs]
    exact hl
  · obtain ⟨w0, ds, cs, e, sm, rs, a⟩ := h
    unfold mDef at a
    obtain ⟨hl, a⟩ := if_bad a
    refine ⟨_, hb cdv A outer s H E hr, w0, _, cs, e, sm, Reps.env rs rfl, ?_⟩
    have h0 : w0.p.length = cs.length := sm.len
    cases hm : m (env0 N.length ds) cs with
    | bad =>
      rw [hm] at a
      exact a
    | err x r cs' =>
      rw [hm] at a
      unfold finR at a
      obtain ⟨hn, a⟩ := if_bad a
      intro w1 c od l1 s1 xr σ' ev'
      refine a (w1.cut cs.length) c od (l1.cut (by omega)) (s1.cut _) ?_
      cases x with
      | ins C ns l =>
        obtain ⟨e1, h1⟩ := xr
        refine ⟨e1, ?_⟩
        rcases h1 with h1 | ⟨d, xs, h1, h2, h3, h4, h5⟩
        · exact .inl h1
        · exact .inr ⟨d, xs, h1, h2, h3, h4, Reps.nr K (w := w1) (w' := w1.cut cs.length) (fun _ h => h) (fun _ _ => rfl) l xs hn h5⟩
      | ty n => exact xr
      | _ => exact xr.elim
    | ok fl cs' =>
      rw [hm] at a
      intro w1 l1 s1
      cases fl with
      | nx r =>
        intro σ' ev'
        exact a (w1.cut cs.length) (l1.cut (by omega)) (s1.cut _) .non rfl
      | ret d =>
        intro v rv
        exact out_ok h0 l1 s1 rv a
      | brk r => exact a.elim
      | ct r => exact a.elim
end
end Wf
set_option Elab.async false
set_option linter.all false
set_option maxRecDepth 100000
/-! What the operations do on data. -/
namespace Wf
open PySem PySem.Spec PyProof.Rows L2
section
variable {K : PySem.W.Frag} {E : EE} {w : Wd} {cs : List D} {Q : VK}
theorem aft {d : D} {v : V} (s : Sim K w cs) (h : After K E w (.ok d cs) (fun d _ w' => ∀ v, Rep K w' d v → Q v w'.H)) (r : Rep K w d v) : Q v w.H := h w (Le.refl w) s v r
theorem aftL {l : List D} {xs : List V} {p : Addr} (s : Sim K w cs) (h : After K E w (.ok (.lst l) cs) (fun d _ w' => ∀ v, Rep K w' d v → Q v w'.H)) (np : w.H p = none) (r : Reps K w l xs) : Q (.ref p) (upd w.H p (.lst xs)) :=
  h (w.new p (.lst xs)) (s.le_new np) (s.new np) (.ref p) (Rep.newL s np r)
theorem aftT {l : List D} {xs : List V} {p : Addr} (s : Sim K w cs) (h : After K E w (.ok (.tup l) cs) (fun d _ w' => ∀ v, Rep K w' d v → Q v w'.H)) (np : w.H p = none) (r : Reps K w l xs) : Q (.ref p) (upd w.H p (.tup xs)) :=
  h (w.new p (.tup xs)) (s.le_new np) (s.new np) (.ref p) (Rep.newT s np r)
theorem aftC {l : List D} {xs : List V} {p : Addr} (s : Sim K w cs) (h : After K E w (.ok (.ref cs.length) (cs ++ [.lst l])) (fun d _ w' => ∀ v, Rep K w' d v → Q v w'.H)) (np : w.H p = none) (hn : nrs l = true) (r : Reps K w l xs) : Q (.ref p) (upd w.H p (.lst xs)) :=
  h (w.live p (.lst xs)) (s.le_live np) (s.liveL np hn r) (.ref p) (Rep.newC s)
/-- a list, whichever -/
def lstOf (cs : List D) (d : D) : Option (List D) := match d with
  | .lst l => some l
  | .wl l => some (l.map .int)
  | .ref i => match cs[i]? with
    | some (.lst l) => some l
    | _ => none
  | _ => none
/-- a list of the call's own -/
def lstOwn (cs : List D) (d : D) : Option (List D) := match d with
  | .lst l => some l
  | .ref i => match cs[i]? with
    | some (.lst l) => some l
    | _ => none
  | _ => none
theorem lstOwn_ok {d : D} {v : V} {l : List D} (s : Sim K w cs) (r : Rep K w d v) (h : lstOwn cs d = some l) : ∃ a xs, v = .ref a ∧ w.H a = some (.lst xs) ∧ Reps K w l xs := by
  cases d with
  | lst m =>
    obtain ⟨a, xs, rfl, f, g, q⟩ := r
    cases h
    exact ⟨a, xs, rfl, g, q⟩
  | ref i =>
    obtain ⟨a, rfl, hi⟩ := r
    unfold lstOwn at h
    cases hc : cs[i]? with
    | none =>
      simp only [hc] at h
      cases h
    | some c =>
      obtain ⟨_, _, o, _⟩ := s.cell i a c hi hc
      cases c with
      | lst m =>
        simp only [hc] at h
        cases h
        obtain ⟨xs, g, q⟩ := o
        exact ⟨a, xs, rfl, g, q⟩
      | _ =>
        simp only [hc] at h
        cases h
  | _ => cases h
theorem lstOf_ok {d : D} {v : V} {l : List D} (s : Sim K w cs) (r : Rep K w d v) (h : lstOf cs d = some l) : ∃ a xs, v = .ref a ∧ SqL K w.H a xs ∧ Reps K w l xs := by
  cases d with
  | wl m =>
    obtain ⟨a, rfl, q⟩ := r
    cases h
    refine ⟨a, m.map V.int, rfl, ?_, Reps.ints K m⟩
    rcases q with ⟨_, q⟩ | q
    · exact q
    · exact q w.H
  | lst m =>
    obtain ⟨a, xs, e, g, q⟩ := lstOwn_ok s r (show lstOwn cs (.lst m) = some l from h)
    exact ⟨a, xs, e, .inl (.inl g), q⟩
  | ref i =>
    obtain ⟨a, xs, e, g, q⟩ := lstOwn_ok s r (show lstOwn cs (.ref i) = some l from h)
    exact ⟨a, xs, e, .inl (.inl g), q⟩
  | _ => cases h
/-! ### ints -/
def liftI (f : Int → Int → D) : Op2 := fun x y cs => match x, y with
  | .int i, .int j => .ok (f i j) cs
  | _, _ => .bad
/-! ### + -/
def addD : Op2 := fun x y cs => match x, y with
  | .int i, .int j => .ok (.int (i + j)) cs
  | .str i, .str j => if i.length + j.length ≤ sizeLine then .ok (.str (i ++ j)) cs else .bad
  | .tup l, .tup m => if l ≠ [] ∧ m ≠ [] ∧ l.length + m.length ≤ sizeLine then .ok (.tup (l ++ m)) cs else .bad
  | _, _ => match lstOwn cs x, lstOwn cs y with
    | some l, some m => if l.length + m.length ≤ sizeLine then .ok (.lst (l ++ m)) cs else .bad
    | _, _ => .bad
def rAddAny (K : PySem.W.Frag) : R2 := fun x y H Q => (rI0 fun i j => .int (i + j)) x y H Q ∨ (∃ i j, x = .str i ∧ y = .str j ∧ i.length + j.length ≤ sizeLine ∧ Q (.str (i ++ j)) H) ∨ rCatT K x y H Q ∨ rCat x y H Q
theorem op_addD {X : Cx} : OpR X (binaryOp .Add) (rAddAny X.K) := op_add.or (op_add_str.or (op_catT.or op_cat))
theorem add_lst {x y : D} {vx vy : V} (s : Sim K w cs) (rx : Rep K w x vx) (ry : Rep K w y vy) (h : After K E w (match lstOwn cs x, lstOwn cs y with
    | some l, some m => if l.length + m.length ≤ sizeLine then .ok (.lst (l ++ m)) cs else .bad
    | _, _ => .bad) (fun d _ w' => ∀ v, Rep K w' d v → Q v w'.H)) : rCat vx vy w.H Q := by
  cases h1 : lstOwn cs x with
  | none =>
    simp only [h1] at h
    exact h.elim
  | some l =>
    cases h2 : lstOwn cs y with
    | none =>
      simp only [h1, h2] at h
      exact h.elim
    | some m =>
      simp only [h1, h2] at h
      obtain ⟨hz, h⟩ := if_bad h
      obtain ⟨a, xs, rfl, ga, qa⟩ := lstOwn_ok s rx h1
      obtain ⟨b, ys, rfl, gb, qb⟩ := lstOwn_ok s ry h2
      exact ⟨a, b, xs, ys, rfl, rfl, ga, gb, by rw [← Reps.length K qa, ← Reps.length K qb]; exact hz, fun p np => aftL s h np (Reps.app K qa qb)⟩
theorem sp_add : OpS K (rAddAny K) addD := fun E w cs x y vx vy Q s rx ry h => by
  unfold addD at h
  split at h
  · cases (show vx = .int _ from rx)
    cases (show vy = .int _ from ry)
    exact .inl ⟨_, _, rfl, rfl, aft s h rfl⟩
  · cases (show vx = .str _ from rx)
    cases (show vy = .str _ from ry)
    obtain ⟨hz, h⟩ := if_bad h
    exact .inr (.inl ⟨_, _, rfl, rfl, hz, aft s h rfl⟩)
  · obtain ⟨⟨hl, hm, hz⟩, h⟩ := if_bad h
    obtain ⟨a, xs, rfl, fa, ga, qa⟩ := rx
    obtain ⟨b, ys, rfl, fb, gb, qb⟩ := ry
    have ex := Reps.length K qa
    have ey := Reps.length K qb
    refine .inr (.inr (.inl ⟨a, b, xs, ys, rfl, rfl, .inl (.inl ga), .inl (.inl gb), fun e => ?_, by omega, fun e => ?_, fun _ p np => aftT s h np (Reps.app K qa qb)⟩))
    · subst e
      exact hl (List.eq_nil_of_length_eq_zero ex)
    · subst e
      exact absurd (List.eq_nil_of_length_eq_zero ey) hm
  · exact .inr (.inr (.inr (add_lst s rx ry h)))
/-! ### -, *, //, %, ** -/
def subD : Op2 := liftI fun i j => .int (i - j)
theorem sp_I0 {f : Int → Int → V} {g : Int → Int → D} (hr : ∀ w i j, Rep K w (g i j) (f i j)) : OpS K (rI0 f) (liftI g) := fun E w cs x y vx vy Q s rx ry h => by
  unfold liftI at h
  split at h
  · cases (show vx = .int _ from rx)
    cases (show vy = .int _ from ry)
    exact ⟨_, _, rfl, rfl, aft s h (hr _ _ _)⟩
  · exact h.elim
theorem sp_sub : OpS K (rI0 fun i j => .int (i - j)) subD := sp_I0 fun _ _ _ => rfl
def mulI (i j : Int) : Prop := (-(2 ^ 64) < i ∧ i < 2 ^ 64) ∨ (-(2 ^ 64) < j ∧ j < 2 ^ 64)
instance (i j : Int) : Decidable (mulI i j) := by unfold mulI; exact inferInstance
/-- a text n times: what the model makes of it -/
def strMul (x : Str) (n : Int) : Str := Txt.mul x n
def mulD : Op2 := fun x y cs => match x, y with
  | .int i, .int j => if mulI i j then .ok (.int (i * j)) cs else .bad
  | .str z, .int n => if 0 ≤ n ∧ n < 2 ^ 24 ∧ z.length * n.toNat ≤ sizeLine then .ok (.str (strMul z n)) cs else .bad
  | _, .int n => match lstOwn cs x with
    | some l => if -(2 ^ 63) ≤ n ∧ n < 2 ^ 63 ∧ l.length * n.toNat ≤ sizeLine then .ok (.lst (List.replicate n.toNat l).flatten) cs else .bad
    | none => .bad
  | _, _ => .bad
def rMulS : R2 := fun x y H Q => ∃ z n, x = .str z ∧ y = .int n ∧ MulOk z n ∧ Q (.str (Txt.mul z n)) H
theorem op_mulS {X : Cx} : OpR X (binaryOp .Mult) rMulS := by
  intro pins s σ H x y v u Q I rx ry h
  obtain ⟨z, n, rfl, rfl, ok, q⟩ := h
  obtain ⟨t, rfl⟩ := rx
  obtain ⟨t2, rfl⟩ := ry
  refine SB.mul ok fun t' k => ?_
  exact ⟨.str (Txt.mul z n), H, I.tok k, ⟨_, rfl⟩, q⟩
theorem mulOk_of {z : Str} {n : Int} (h0 : 0 ≤ n) (h1 : n < 2 ^ 24) (h2 : z.length * n.toNat ≤ sizeLine) : MulOk z n := by
  refine ⟨?_, fun h3 _ h4 => ?_, fun _ _ => ?_⟩
  · rw [decide_eq_false (by omega), decide_eq_false (by omega)]
    rfl
  · have h5 : (z.length : Int) * n ≤ 2 ^ 24 := by
      have : (z.length * n.toNat : Nat) ≤ 2 ^ 24 := h2
      have e : ((z.length * n.toNat : Nat) : Int) = (z.length : Int) * n := by
        rw [Int.natCast_mul, Int.toNat_of_nonneg h0]
      omega
    have h6 : (z.length : Int) ≤ (2 ^ 63 - 1) / n := (Int.le_ediv_iff_mul_le (by omega)).mpr (by omega)
    omega
  · unfold PySem.Builtin.Str.tooLong
    rw [decide_eq_false (by omega)]
def rMulAny : R2 := fun x y H Q => rI CMul (fun i j => .int (i * j)) x y H Q ∨ rMulS x y H Q ∨ rRep x y H Q
theorem op_mulD {X : Cx} : OpR X (binaryOp .Mult) rMulAny := op_mul.or (op_mulS.or op_rep)
theorem Reps.rep {l : List D} {xs : List V} (h : Reps K w l xs) : ∀ n : Nat, Reps K w (List.replicate n l).flatten (List.replicate n xs).flatten
  | 0 => rfl
  | n + 1 => by
    rw [List.replicate_succ, List.replicate_succ, List.flatten_cons, List.flatten_cons]
    exact Reps.app K h (Reps.rep h n)
theorem sp_mul : OpS K rMulAny mulD := fun E w cs x y vx vy Q s rx ry h => by
  unfold mulD at h
  split at h
  · cases (show vx = .int _ from rx)
    cases (show vy = .int _ from ry)
    obtain ⟨hc, h⟩ := if_bad h
    exact .inl ⟨_, _, rfl, rfl, hc, aft s h rfl⟩
  · cases (show vx = .str _ from rx)
    cases (show vy = .int _ from ry)
    obtain ⟨⟨h0, h1, h2⟩, h⟩ := if_bad h
    exact .inr (.inl ⟨_, _, rfl, rfl, mulOk_of h0 h1 h2, aft s h rfl⟩)
  · cases (show vy = .int _ from ry)
    rename_i n _ _
    cases h1 : lstOwn cs x with
    | none =>
      simp only [h1] at h
      exact h.elim
    | some l =>
      simp only [h1] at h
      obtain ⟨⟨h2, h3, h4⟩, h⟩ := if_bad h
      obtain ⟨a, xs, rfl, ga, qa⟩ := lstOwn_ok s rx h1
      exact .inr (.inr ⟨a, n, xs, rfl, rfl, ga, h2, h3, by rw [← Reps.length K qa]; exact h4, fun p np => aftL s h np (Reps.rep qa _)⟩)
  · exact h.elim
def modD : Op2 := fun x y cs => match x, y with
  | .int i, .int j => if j ≠ 0 then .ok (.int (i.fmod j)) cs else .bad
  | _, _ => .bad
theorem sp_mod : OpS K (rI (fun _ j => j ≠ 0) fun i j => .int (i.fmod j)) modD := fun E w cs x y vx vy Q s rx ry h => by
  unfold modD at h
  split at h
  · cases (show vx = .int _ from rx)
    cases (show vy = .int _ from ry)
    obtain ⟨hc, h⟩ := if_bad h
    exact ⟨_, _, rfl, rfl, hc, aft s h rfl⟩
  · exact h.elim
def fdivD : Op2 := fun x y cs => match x, y with
  | .int i, .int j => if j ≠ 0 ∧ j.natAbs < 1073741824 then .ok (.int (i.fdiv j)) cs else .bad
  | _, _ => .bad
theorem sp_fdiv : OpS K (rI CDivN fun i j => .int (i.fdiv j)) fdivD := fun E w cs x y vx vy Q s rx ry h => by
  unfold fdivD at h
  split at h
  · cases (show vx = .int _ from rx)
    cases (show vy = .int _ from ry)
    obtain ⟨hc, h⟩ := if_bad h
    exact ⟨_, _, rfl, rfl, hc, aft s h rfl⟩
  · exact h.elim
def powD : Op2 := fun x y cs => match x, y with
  | .int i, .int j => if 0 ≤ j ∧ j ≤ 1000000 ∧ i.natAbs < 2 ^ 64 then .ok (.int (i ^ j.toNat)) cs else .bad
  | _, _ => .bad
theorem sp_pow : OpS K (rI CPow fun i j => .int (i ^ j.toNat)) powD := fun E w cs x y vx vy Q s rx ry h => by
  unfold powD at h
  split at h
  · cases (show vx = .int _ from rx)
    cases (show vy = .int _ from ry)
    obtain ⟨hc, h⟩ := if_bad h
    exact ⟨_, _, rfl, rfl, hc, aft s h rfl⟩
  · exact h.elim
def negD : Op1 := fun x cs => match x with
  | .int i => .ok (.int (-i)) cs
  | _ => .bad
theorem sp_neg : UnS K (rU fun i => .int (-i)) negD := fun E w cs x vx Q s rx h => by
  unfold negD at h
  split at h
  · cases (show vx = .int _ from rx)
    exact ⟨_, rfl, aft s h rfl⟩
  · exact h.elim
/-! ### comparisons -/
def ltD : Op2 := fun x y cs => match x, y with
  | .int i, .int j => .ok (.bl (decide (i < j))) cs
  | .str i, .str j => .ok (.bl (decide (i.cps.toList < j.cps.toList))) cs
  | _, _ => .bad
def rLtAny : R2 := fun x y H Q => (rI0 fun i j => .bl (decide (i < j))) x y H Q ∨ ∃ i j, x = .str i ∧ y = .str j ∧ Q (.bl (decide (i.cps.toList < j.cps.toList))) H
theorem op_ltD {X : Cx} : OpR X (compareOp .Lt) rLtAny := op_lt.or op_lt_str
theorem sp_lt : OpS K rLtAny ltD := fun E w cs x y vx vy Q s rx ry h => by
  unfold ltD at h
  split at h
  · cases (show vx = .int _ from rx)
    cases (show vy = .int _ from ry)
    exact .inl ⟨_, _, rfl, rfl, aft s h rfl⟩
  · cases (show vx = .str _ from rx)
    cases (show vy = .str _ from ry)
    exact .inr ⟨_, _, rfl, rfl, aft s h rfl⟩
  · exact h.elim
def leD : Op2 := fun x y cs => match x, y with
  | .int i, .int j => .ok (.bl (decide (i ≤ j))) cs
  | .str i, .str j => .ok (.bl (!decide (j.cps.toList < i.cps.toList))) cs
  | _, _ => .bad
def rLeAny : R2 := fun x y H Q => (rI0 fun i j => .bl (decide (i ≤ j))) x y H Q ∨ ∃ i j, x = .str i ∧ y = .str j ∧ Q (.bl (!decide (j.cps.toList < i.cps.toList))) H
theorem op_leD {X : Cx} : OpR X (compareOp .LtE) rLeAny := op_le.or op_le_str
theorem sp_le : OpS K rLeAny leD := fun E w cs x y vx vy Q s rx ry h => by
  unfold leD at h
  split at h
  · cases (show vx = .int _ from rx)
    cases (show vy = .int _ from ry)
    exact .inl ⟨_, _, rfl, rfl, aft s h rfl⟩
  · cases (show vx = .str _ from rx)
    cases (show vy = .str _ from ry)
    exact .inr ⟨_, _, rfl, rfl, aft s h rfl⟩
  · exact h.elim
def gtD : Op2 := liftI fun i j => .bl (decide (j < i))
theorem sp_gt : OpS K (rI0 fun i j => .bl (decide (j < i))) gtD := sp_I0 fun _ _ _ => rfl
def geD : Op2 := liftI fun i j => .bl (decide (j ≤ i))
theorem sp_ge : OpS K (rI0 fun i j => .bl (decide (j ≤ i))) geD := sp_I0 fun _ _ _ => rfl
-- == of scalars; of nested data by the library's own
mutual
def pyOf : D → Option PyData
  | .non => some .none
  | .bl b => some (.bool b)
  | .int i => some (.int i)
  | .str s => some (.str s)
  | .lst l => (pysOf l).map .list
  | .tup l => (pysOf l).map .tuple
  | _ => none
def pysOf : List D → Option (List PyData)
  | [] => some []
  | d :: ds => match pyOf d, pysOf ds with
    | some a, some as => some (a :: as)
    | _, _ => none
end
def pyTop (cs : List D) (d : D) : Option PyData := match d with
  | .ref i => match cs[i]? with
    | some (.lst l) => (pysOf l).map .list
    | _ => none
  | d => pyOf d
mutual
theorem pyOf_ok {w : Wd} : ∀ (d : D) (v : V) (p : PyData), Rep K w d v → pyOf d = some p → Dp K w.H v p
  | .non, v, p, r, h => by
    cases (show v = .non from r)
    cases h
    exact .non
  | .bl b, v, p, r, h => by
    cases (show v = .bl b from r)
    cases h
    exact .bl b
  | .int i, v, p, r, h => by
    cases (show v = .int i from r)
    cases h
    exact .int i
  | .str z, v, p, r, h => by
    cases (show v = .str z from r)
    cases h
    exact .str z
  | .lst l, v, p, r, h => by
    obtain ⟨a, xs, rfl, f, g, q⟩ := r
    have h' : (pysOf l).map PyData.list = some p := h
    cases h1 : pysOf l with
    | none =>
      rw [h1] at h'
      cases h'
    | some ps =>
      rw [h1] at h'
      cases h'
      exact .lst (.inl (.inl g)) (pysOf_ok l xs ps q h1)
  | .tup l, v, p, r, h => by
    obtain ⟨a, xs, rfl, f, g, q⟩ := r
    have h' : (pysOf l).map PyData.tuple = some p := h
    cases h1 : pysOf l with
    | none =>
      rw [h1] at h'
      cases h'
    | some ps =>
      rw [h1] at h'
      cases h'
      exact .tup (.inl (.inl g)) (pysOf_ok l xs ps q h1)
  | .ty _, v, p, r, h => by cases h
  | .rf _, v, p, r, h => by cases h
  | .wl _, v, p, r, h => by cases h
  | .dct _ _, v, p, r, h => by cases h
  | .ins _ _ _, v, p, r, h => by cases h
  | .exn _ _ _ _, v, p, r, h => by cases h
  | .ref _, v, p, r, h => by cases h
theorem pysOf_ok {w : Wd} : ∀ (l : List D) (xs : List V) (ps : List PyData), Reps K w l xs → pysOf l = some ps → DpAll K w.H xs ps
  | [], xs, ps, r, h => by
    cases (show xs = [] from r)
    cases h
    exact .nil
  | d :: ds, xs, ps, r, h => by
    obtain ⟨v, vs, rfl, rv, rs⟩ := r
    have h' : (match pyOf d, pysOf ds with
      | some a, some as => some (a :: as)
      | _, _ => none) = some ps := h
    cases h1 : pyOf d with
    | none =>
      simp only [h1] at h'
      cases h'
    | some a =>
      cases h2 : pysOf ds with
      | none =>
        simp only [h1, h2] at h'
        cases h'
      | some as =>
        simp only [h1, h2] at h'
        cases h'
        exact .cons (pyOf_ok d v a rv h1) (pysOf_ok ds vs as rs h2)
end
theorem pyTop_ok {d : D} {v : V} {p : PyData} (s : Sim K w cs) (r : Rep K w d v) (h : pyTop cs d = some p) : Dp K w.H v p := by
  cases d with
  | ref i =>
    obtain ⟨a, rfl, hi⟩ := r
    unfold pyTop at h
    cases hc : cs[i]? with
    | none =>
      simp only [hc] at h
      cases h
    | some c =>
      obtain ⟨_, _, o, _⟩ := s.cell i a c hi hc
      cases c with
      | lst l =>
        simp only [hc] at h
        obtain ⟨xs, g, q⟩ := o
        cases h1 : pysOf l with
        | none =>
          rw [h1] at h
          cases h
        | some ps =>
          rw [h1] at h
          cases h
          exact .lst (.inl (.inl g)) (pysOf_ok l xs ps q h1)
      | _ =>
        simp only [hc] at h
        cases h
  | _ => exact pyOf_ok _ v p r h
def eqS (x y : D) : Option Bool := match x, y with
  | .int i, .int j => some (decide (i = j))
  | .str i, .str j => some (decide (i = j))
  | .bl i, .bl j => some (decide (i = j))
  | _, _ => none
def eqB (cs : List D) (x y : D) : Option Bool := match eqS x y with
  | some b => some b
  | none => match pyTop cs x, pyTop cs y with
    | some a, some b => if SeqAt.shaped a = true ∧ SeqAt.shaped b = true then some (PyData.eqv a b) else none
    | _, _ => none
def eqD : Op2 := fun x y cs => match eqB cs x y with
  | some b => .ok (.bl b) cs
  | none => .bad
def neD : Op2 := fun x y cs => match eqB cs x y with
  | some b => .ok (.bl (!b)) cs
  | none => .bad
def rEqAny (K : PySem.W.Frag) : R2 := fun x y H Q => rEq x y H Q ∨ rEqD K x y H Q
def rNeAny (K : PySem.W.Frag) : R2 := fun x y H Q => rNe x y H Q ∨ rNeD K x y H Q
theorem op_eqA {X : Cx} (hu : X.A.units + 64 < cLine) : OpR X (compareOp .Eq) (rEqAny X.K) := op_eq.or (op_eqD hu)
theorem op_neA {X : Cx} (hu : X.A.units + 64 < cLine) : OpR X (compareOp .NotEq) (rNeAny X.K) := op_ne.or (op_neD hu)
theorem eqS_ok {x y : D} {vx vy : V} {b : Bool} (rx : Rep K w x vx) (ry : Rep K w y vy) (h : eqS x y = some b) : scal vx vy = true ∧ decide (vx = vy) = b := by
  unfold eqS at h
  split at h
  · cases (show vx = .int _ from rx)
    cases (show vy = .int _ from ry)
    cases h
    refine ⟨rfl, ?_⟩
    rw [Bool.eq_iff_iff]
    simp
  · cases (show vx = .str _ from rx)
    cases (show vy = .str _ from ry)
    cases h
    refine ⟨rfl, ?_⟩
    rw [Bool.eq_iff_iff]
    simp
  · cases (show vx = .bl _ from rx)
    cases (show vy = .bl _ from ry)
    cases h
    refine ⟨rfl, ?_⟩
    rw [Bool.eq_iff_iff]
    simp
  · cases h
theorem eqB_ok {x y : D} {vx vy : V} {b : Bool} (s : Sim K w cs) (rx : Rep K w x vx) (ry : Rep K w y vy) (h : eqB cs x y = some b) :
    (scal vx vy = true ∧ decide (vx = vy) = b) ∨ ∃ d e, Dp K w.H vx d ∧ Dp K w.H vy e ∧ SeqAt.shaped d = true ∧ SeqAt.shaped e = true ∧ PyData.eqv d e = b := by
  unfold eqB at h
  cases h1 : eqS x y with
  | some b' =>
    simp only [h1] at h
    cases h
    exact .inl (eqS_ok rx ry h1)
  | none =>
    simp only [h1] at h
    cases h2 : pyTop cs x with
    | none =>
      simp only [h2] at h
      cases h
    | some d =>
      cases h3 : pyTop cs y with
      | none =>
        simp only [h2, h3] at h
        cases h
      | some e =>
        simp only [h2, h3] at h
        split at h
        · rename_i hs
          cases h
          exact .inr ⟨d, e, pyTop_ok s rx h2, pyTop_ok s ry h3, hs.1, hs.2, rfl⟩
        · cases h
theorem sp_eq : OpS K (rEqAny K) eqD := fun E w cs x y vx vy Q s rx ry h => by
  unfold eqD at h
  cases h1 : eqB cs x y with
  | none =>
    simp only [h1] at h
    exact h.elim
  | some b =>
    simp only [h1] at h
    have q := aft s h (v := .bl b) rfl
    rcases eqB_ok s rx ry h1 with ⟨e1, e2⟩ | ⟨d, e, e1, e2, e3, e4, e5⟩
    · exact .inl ⟨e1, by rw [e2]; exact q⟩
    · exact .inr ⟨d, e, e1, e2, e3, e4, by rw [e5]; exact q⟩
theorem sp_ne : OpS K (rNeAny K) neD := fun E w cs x y vx vy Q s rx ry h => by
  unfold neD at h
  cases h1 : eqB cs x y with
  | none =>
    simp only [h1] at h
    exact h.elim
  | some b =>
    simp only [h1] at h
    have q := aft s h (v := .bl (!b)) rfl
    rcases eqB_ok s rx ry h1 with ⟨e1, e2⟩ | ⟨d, e, e1, e2, e3, e4, e5⟩
    · exact .inl ⟨e1, by rw [e2]; exact q⟩
    · exact .inr ⟨d, e, e1, e2, e3, e4, by rw [e5]; exact q⟩
/-- x is None -/
def isNon : D → Bool
  | .non => true
  | _ => false
def isND : Op2 := fun x y cs => match y with
  | .non => .ok (.bl (isNon x)) cs
  | _ => .bad
def notND : Op2 := fun x y cs => match y with
  | .non => .ok (.bl (!isNon x)) cs
  | _ => .bad
theorem rep_non {x : D} {vx : V} (r : Rep K w x vx) : decide (vx = .non) = isNon x := by
  cases x with
  | non =>
    cases (show vx = .non from r)
    rfl
  | bl b => cases (show vx = .bl b from r); rfl
  | int b => cases (show vx = .int b from r); rfl
  | str b => cases (show vx = .str b from r); rfl
  | ty b => cases (show vx = .ty b from r); rfl
  | rf b => cases (show vx = .ref b from r); rfl
  | wl l => obtain ⟨a, rfl, _⟩ := r; rfl
  | lst l => obtain ⟨a, xs, rfl, _⟩ := r; rfl
  | tup l => obtain ⟨a, xs, rfl, _⟩ := r; rfl
  | dct k l => obtain ⟨a, xs, rfl, _⟩ := r; rfl
  | ins c k l => obtain ⟨a, dx, xs, rfl, _⟩ := r; rfl
  | exn a od ns l => obtain ⟨rfl, _⟩ := r; rfl
  | ref i => obtain ⟨a, rfl, _⟩ := r; rfl
theorem sp_isN : OpS K (fun x y H Q => y = .non ∧ Q (.bl (decide (x = .non))) H) isND := fun E w cs x y vx vy Q s rx ry h => by
  unfold isND at h
  split at h
  · refine ⟨ry, ?_⟩
    rw [rep_non rx]
    exact aft s h rfl
  · exact h.elim
theorem sp_notN : OpS K (fun x y H Q => y = .non ∧ Q (.bl (!decide (x = .non))) H) notND := fun E w cs x y vx vy Q s rx ry h => by
  unfold notND at h
  split at h
  · refine ⟨ry, ?_⟩
    rw [rep_non rx]
    exact aft s h rfl
  · exact h.elim
/-! ### in -/
def inS (i j : Str) : Bool := !(Builtin.Str.occurrences j i 0 j.length 1).isEmpty
def flatD : D → Bool
  | .non => true
  | .bl _ => true
  | .int _ => true
  | .str _ => true
  | _ => false
def eqF : D → D → Bool
  | .non, .non => true
  | .bl a, .bl b => a == b
  | .bl a, .int b => (if a then 1 else 0) == b
  | .int a, .bl b => a == (if b then 1 else 0)
  | .int a, .int b => a == b
  | .str a, .str b => a == b
  | _, _ => false
def inF (x : D) (l : List D) : Bool := l.any fun y => eqF y x
def seqOf (cs : List D) (d : D) : Option (List D) := match d with
  | .tup l => some l
  | d => lstOf cs d
def inB (cs : List D) (x y : D) : Option Bool := match x, y with
  | .str i, .str j => some (inS i j)
  | _, _ => match seqOf cs y with
    | some l => if flatD x = true ∧ l.all flatD = true then some (inF x l) else none
    | none => none
def inD : Op2 := fun x y cs => match inB cs x y with
  | some b => .ok (.bl b) cs
  | none => .bad
def notInD : Op2 := fun x y cs => match inB cs x y with
  | some b => .ok (.bl (!b)) cs
  | none => .bad
theorem flatD_ok {x : D} {v : V} (r : Rep K w x v) (h : flatD x = true) : flatV v = true := by
  cases x with
  | non => cases (show v = .non from r); rfl
  | bl b => cases (show v = .bl b from r); rfl
  | int b => cases (show v = .int b from r); rfl
  | str b => cases (show v = .str b from r); rfl
  | _ => cases h
theorem eqF_ok {x y : D} {v u : V} (rx : Rep K w x v) (ry : Rep K w y u) (hx : flatD x = true) (hy : flatD y = true) : eqV v u = eqF x y := by
  cases x <;> cases hx <;> cases y <;> cases hy <;> (cases rx; cases ry; rfl)
theorem flatDs_ok : ∀ {l : List D} {xs : List V}, Reps K w l xs → l.all flatD = true → xs.all flatV = true
  | [], xs, r, _ => by
    cases (show xs = [] from r)
    rfl
  | d :: ds, xs, r, h => by
    obtain ⟨v, vs, rfl, rv, rs⟩ := r
    rw [List.all_cons, Bool.and_eq_true] at h
    rw [List.all_cons, flatD_ok rv h.1, flatDs_ok rs h.2]
    rfl
theorem inF_ok {x : D} {v : V} (rx : Rep K w x v) (hx : flatD x = true) : ∀ {l : List D} {xs : List V}, Reps K w l xs → l.all flatD = true → inV v xs = inF x l
  | [], xs, r, _ => by
    cases (show xs = [] from r)
    rfl
  | d :: ds, xs, r, h => by
    obtain ⟨u, vs, rfl, rv, rs⟩ := r
    rw [List.all_cons, Bool.and_eq_true] at h
    have ih := inF_ok rx hx rs h.2
    unfold inV inF at ih ⊢
    rw [List.any_cons, List.any_cons, eqF_ok rv rx h.1 hx, ih]
theorem seqOf_ok {d : D} {v : V} {l : List D} (s : Sim K w cs) (r : Rep K w d v) (h : seqOf cs d = some l) : ∃ a xs, v = .ref a ∧ (SqL K w.H a xs ∨ SqT K w.H a xs) ∧ Reps K w l xs := by
  by_cases ht : ∃ m, d = .tup m
  · obtain ⟨m, rfl⟩ := ht
    obtain ⟨a, xs, rfl, f, g, q⟩ := r
    cases h
    exact ⟨a, xs, rfl, .inr (.inl (.inl g)), q⟩
  · have h' : lstOf cs d = some l := by
      cases d with
      | tup m => exact absurd ⟨m, rfl⟩ ht
      | _ => exact h
    obtain ⟨a, xs, e, g, q⟩ := lstOf_ok s r h'
    exact ⟨a, xs, e, .inl g, q⟩
def rInAny (K : PySem.W.Frag) (neg : Bool) : R2 := fun x y H Q => (∃ i j, x = .str i ∧ y = .str j ∧ Q (.bl (if neg then !inS i j else inS i j)) H) ∨ rIn K neg x y H Q
theorem op_inA {X : Cx} : OpR X (compareOp .In) (rInAny X.K false) := op_in_str.or op_in_seq
theorem op_notInA {X : Cx} : OpR X (compareOp .NotIn) (rInAny X.K true) := op_notIn_str.or op_notIn_seq
theorem in_ok {neg : Bool} {x y : D} {vx vy : V} {b : Bool} (s : Sim K w cs) (rx : Rep K w x vx) (ry : Rep K w y vy) (h : inB cs x y = some b) (q : Q (.bl (if neg then !b else b)) w.H) : rInAny K neg vx vy w.H Q := by
  unfold inB at h
  split at h
  · cases (show vx = .str _ from rx)
    cases (show vy = .str _ from ry)
    cases h
    exact .inl ⟨_, _, rfl, rfl, q⟩
  · cases h1 : seqOf cs y with
    | none =>
      simp only [h1] at h
      cases h
    | some l =>
      simp only [h1] at h
      split at h
      · rename_i hf
        cases h
        obtain ⟨a, xs, rfl, g, qs⟩ := seqOf_ok s ry h1
        exact .inr ⟨a, xs, rfl, g, flatD_ok rx hf.1, flatDs_ok qs hf.2, by rw [inF_ok rx hf.1 qs hf.2]; exact q⟩
      · cases h
theorem sp_in : OpS K (rInAny K false) inD := fun E w cs x y vx vy Q s rx ry h => by
  unfold inD at h
  cases h1 : inB cs x y with
  | none =>
    simp only [h1] at h
    exact h.elim
  | some b =>
    simp only [h1] at h
    exact in_ok s rx ry h1 (aft s h rfl)
theorem sp_notIn : OpS K (rInAny K true) notInD := fun E w cs x y vx vy Q s rx ry h => by
  unfold notInD at h
  cases h1 : inB cs x y with
  | none =>
    simp only [h1] at h
    exact h.elim
  | some b =>
    simp only [h1] at h
    exact in_ok s rx ry h1 (aft s h rfl)
/-! ### items, slices -/
def ixD : Op2 := fun x y cs => match y with
  | .int i => match x with
    | .str z => if z.length ≤ sizeLine then match atI z.cps.toList i with
        | some c => .ok (.str ⟨#[c]⟩) cs
        | none => .bad
      else .bad
    | x => match seqOf cs x with
      | some l => match atI l i with
        | some d => .ok d cs
        | none => .bad
      | none => .bad
  | _ => .bad
theorem atI_rep {l : List D} {xs : List V} {i : Int} {d : D} (r : Reps K w l xs) (h : atI l i = some d) : ∃ v, atI xs i = some v ∧ Rep K w d v := by
  unfold atI at h ⊢
  rw [← Reps.length K r]
  cases h1 : ixN l.length i with
  | none =>
    rw [h1] at h
    cases h
  | some j =>
    rw [h1] at h
    exact Reps.get K r h
theorem sp_ix : OpS K (rIx K) ixD := fun E w cs x y vx vy Q s rx ry h => by
  unfold ixD at h
  split at h
  · cases (show vy = .int _ from ry)
    rename_i i
    split at h
    · cases (show vx = .str _ from rx)
      rename_i z
      obtain ⟨hz, h⟩ := if_bad h
      cases h1 : atI z.cps.toList i with
      | none =>
        simp only [h1] at h
        exact h.elim
      | some c =>
        simp only [h1] at h
        exact .inr (.inr ⟨z, i, c, rfl, rfl, hz, h1, aft s h rfl⟩)
    · cases h1 : seqOf cs x with
      | none =>
        simp only [h1] at h
        exact h.elim
      | some l =>
        simp only [h1] at h
        cases h2 : atI l i with
        | none =>
          simp only [h2] at h
          exact h.elim
        | some d =>
          simp only [h2] at h
          obtain ⟨a, xs, rfl, g, q⟩ := seqOf_ok s rx h1
          obtain ⟨v, hv, rv⟩ := atI_rep q h2
          rcases g with g | g
          · exact .inl ⟨a, xs, i, v, rfl, rfl, g, hv, aft s h rv⟩
          · exact .inr (.inl ⟨a, xs, i, v, rfl, rfl, g, hv, aft s h rv⟩)
  · exact h.elim
def cutD (l : List D) (lo hi : Option Int) : List D := (l.drop (HT.sIx l.length 0 lo)).take (HT.sIx l.length l.length hi - HT.sIx l.length 0 lo)
theorem cut_rep {l : List D} {xs : List V} (r : Reps K w l xs) (lo hi : Option Int) : Reps K w (cutD l lo hi) (cutV xs lo hi) := by
  unfold cutD cutV
  rw [← Reps.length K r]
  exact Reps.take K _ (Reps.drop K _ r)
def slD : OpSl := fun x lo hi cs => match x with
  | .str z => if z.length ≤ sizeLine then .ok (.str (cutS z lo hi)) cs else .bad
  | .tup l => if ¬ (HT.sIx l.length 0 lo = 0 ∧ HT.sIx l.length l.length hi = l.length) then .ok (.tup (cutD l lo hi)) cs else .bad
  | x => match lstOf cs x with
    | some l => .ok (.lst (cutD l lo hi)) cs
    | none => .bad
/-- the same, a list of one's own -/
def slDL : OpSl := fun x lo hi cs => match lstOf cs x with
    | some l => if nrs l = true then .ok (.ref cs.length) (cs ++ [.lst (cutD l lo hi)]) else .bad
    | none => .bad
def rSlAny (K : PySem.W.Frag) : V → Option Int → Option Int → Hp → VK → Prop := fun x lo hi H Q => rSlS x lo hi H Q ∨ rSlT K x lo hi H Q ∨ rSlL K x lo hi H Q
theorem sl_any {X : Cx} : SlR X (rSlAny X.K) := sl_str.or (sl_tup.or sl_list)
theorem sp_sl : SlS K (rSlAny K) slD := fun E w cs x vx lo hi Q s rx h => by
  unfold slD at h
  split at h
  · cases (show vx = .str _ from rx)
    obtain ⟨hz, h⟩ := if_bad h
    exact .inl ⟨_, rfl, hz, aft s h rfl⟩
  · obtain ⟨hz, h⟩ := if_bad h
    obtain ⟨a, xs, rfl, f, g, q⟩ := rx
    exact .inr (.inl ⟨a, xs, rfl, .inl (.inl g), by rw [← Reps.length K q]; exact hz, fun p np => aftT s h np (cut_rep q lo hi)⟩)
  · cases h1 : lstOf cs x with
    | none =>
      simp only [h1] at h
      exact h.elim
    | some l =>
      simp only [h1] at h
      obtain ⟨a, xs, rfl, g, q⟩ := lstOf_ok s rx h1
      exact .inr (.inr ⟨a, xs, rfl, g, fun p np => aftL s h np (cut_rep q lo hi)⟩)
/-! ### o[i] = v over lists -/
def setD : Op3 := fun o i d cs => match o, i with
  | .ref k, .int i => match cs[k]? with
    | some (.lst l) => match ixN l.length i with
      | some j => if nr d = true then some (cs.set k (.lst (l.set j d))) else none
      | none => none
    | _ => none
  | _, _ => none
theorem nrs_set {l : List D} {d : D} : ∀ {j : Nat}, nrs l = true → nr d = true → nrs (l.set j d) = true := by
  induction l with
  | nil => exact fun _ _ => rfl
  | cons a l ih =>
    intro j hl hd
    have hl' : (nr a && nrs l) = true := hl
    rw [Bool.and_eq_true] at hl'
    cases j with
    | zero =>
      show (nr d && nrs l) = true
      rw [hd, hl'.2]
      rfl
    | succ j =>
      show (nr a && nrs (l.set j d)) = true
      rw [hl'.1, ih hl'.2 hd]
      rfl
theorem sp_set : SetS K rSetL setD := fun w cs cs' o i d vo vi v Q s ro ri rd h q => by
  unfold setD at h
  split at h
  · rename_i k i
    cases (show vi = .int _ from ri)
    obtain ⟨a, rfl, hk⟩ := ro
    split at h
    · rename_i l hc
      split at h
      · rename_i j hj
        split at h
        · rename_i hn
          cases h
          obtain ⟨_, _, ⟨xs, g, qs⟩, hl⟩ := s.cell k a _ hk hc
          refine ⟨a, xs, i, j, rfl, rfl, g, by rw [← Reps.length K qs]; exact hj, ?_⟩
          have le := s.le_put (o := .lst (xs.set j v)) hk hc
          exact q (w.put a (.lst (xs.set j v))) le (s.put hk hc (nrs_set hl hn) ⟨_, upd_same, Reps.set K (Rep.mono K le d v rd) j (Reps.mono K le _ _ qs)⟩)
        · cases h
      · cases h
    · cases h
  · cases h
end
end Wf
set_option Elab.async false
set_option linter.all false
set_option maxRecDepth 100000
/-! What built-ins and methods do on data. -/
namespace Wf
open PySem PySem.Spec PyProof.Rows L2
section
variable {K : PySem.W.Frag} {E : EE} {w : Wd} {cs : List D} {Q : VK}
theorem r1 {d : D} {vs : List V} (r : Reps K w [d] vs) : ∃ v, vs = [v] ∧ Rep K w d v := by
  obtain ⟨v, vs', e, rv, q⟩ := r
  cases (show vs' = [] from q)
  exact ⟨v, e, rv⟩
theorem r2 {d e : D} {vs : List V} (r : Reps K w [d, e] vs) : ∃ v u, vs = [v, u] ∧ Rep K w d v ∧ Rep K w e u := by
  obtain ⟨v, vs', e1, rv, q⟩ := r
  obtain ⟨u, rfl, ru⟩ := r1 q
  exact ⟨v, u, e1, rv, ru⟩
def lenD : OpC := fun ds cs => match ds with
  | [.str z] => if z.length ≤ sizeLine then .ok (.int z.length) cs else .bad
  | [.dct ks l] => .bad
  | [d] => match seqOf cs d with
    | some l => .ok (.int l.length) cs
    | none => .bad
  | _ => .bad
theorem cs_len : CallS K (fun xs H Q => ∃ x n, xs = [x] ∧ LenV K x H n ∧ Q (.int n) H) lenD := fun E w cs ds vs Q s rs h => by
  unfold lenD at h
  split at h
  · obtain ⟨v, rfl, rv⟩ := r1 rs
    cases (show v = .str _ from rv)
    obtain ⟨hz, h⟩ := if_bad h
    exact ⟨_, _, rfl, ⟨hz, rfl⟩, aft s h rfl⟩
  · exact h.elim
  · rename_i d _ _
    obtain ⟨v, rfl, rv⟩ := r1 rs
    cases h1 : seqOf cs d with
    | none =>
      simp only [h1] at h
      exact h.elim
    | some l =>
      simp only [h1] at h
      obtain ⟨a, xs, rfl, g, q⟩ := seqOf_ok s rv h1
      refine ⟨_, l.length, rfl, ?_, aft s h rfl⟩
      rcases g with g | g
      · exact .inl ⟨xs, g, Reps.length K q⟩
      · exact .inr ⟨xs, g, Reps.length K q⟩
  · exact h.elim
def intD : OpC := fun ds cs => match ds with
  | [.int i] => .ok (.int i) cs
  | [.bl b] => .ok (.int (if b then 1 else 0)) cs
  | _ => .bad
theorem cs_int : CallS K (fun xs H Q => (∃ i, xs = [.int i] ∧ Q (.int i) H) ∨ ∃ k, xs = [.bl k] ∧ Q (.int (if k then 1 else 0)) H) intD := fun E w cs ds vs Q s rs h => by
  unfold intD at h
  split at h
  · obtain ⟨v, rfl, rv⟩ := r1 rs
    cases (show v = .int _ from rv)
    exact .inl ⟨_, rfl, aft s h rfl⟩
  · obtain ⟨v, rfl, rv⟩ := r1 rs
    cases (show v = .bl _ from rv)
    exact .inr ⟨_, rfl, aft s h rfl⟩
  · exact h.elim
def absD : OpC := fun ds cs => match ds with
  | [.int i] => .ok (.int (if i < 0 then -i else i)) cs
  | _ => .bad
theorem cs_abs : CallS K (fun xs H Q => ∃ i, xs = [.int i] ∧ Q (.int (if i < 0 then -i else i)) H) absD := fun E w cs ds vs Q s rs h => by
  unfold absD at h
  split at h
  · obtain ⟨v, rfl, rv⟩ := r1 rs
    cases (show v = .int _ from rv)
    exact ⟨_, rfl, aft s h rfl⟩
  · exact h.elim
def minD : OpC := fun ds cs => match ds with
  | [.int i, .int j] => .ok (.int (if j < i then j else i)) cs
  | _ => .bad
def maxD : OpC := fun ds cs => match ds with
  | [.int i, .int j] => .ok (.int (if j > i then j else i)) cs
  | _ => .bad
theorem cs_min : CallS K (fun xs H Q => ∃ i j, xs = [.int i, .int j] ∧ Q (.int (if j < i then j else i)) H) minD := fun E w cs ds vs Q s rs h => by
  unfold minD at h
  split at h
  · obtain ⟨v, u, rfl, rv, ru⟩ := r2 rs
    cases (show v = .int _ from rv)
    cases (show u = .int _ from ru)
    exact ⟨_, _, rfl, aft s h rfl⟩
  · exact h.elim
theorem cs_max : CallS K (fun xs H Q => ∃ i j, xs = [.int i, .int j] ∧ Q (.int (if j > i then j else i)) H) maxD := fun E w cs ds vs Q s rs h => by
  unfold maxD at h
  split at h
  · obtain ⟨v, u, rfl, rv, ru⟩ := r2 rs
    cases (show v = .int _ from rv)
    cases (show u = .int _ from ru)
    exact ⟨_, _, rfl, aft s h rfl⟩
  · exact h.elim
/-- list(x), a list of one's own, or one that stays -/
def listD : OpC := fun ds cs => match ds with
  | [d] => match seqOf cs d with
    | some l => .ok (.lst l) cs
    | none => .bad
  | _ => .bad
def listDL : OpC := fun ds cs => match ds with
  | [d] => match seqOf cs d with
    | some l => if nrs l = true then .ok (.ref cs.length) (cs ++ [.lst l]) else .bad
    | none => .bad
  | _ => .bad
def rListAny (K : PySem.W.Frag) : List V → Hp → VK → Prop := fun xs H Q => ∃ p ys, xs = [.ref p] ∧ (SqL K H p ys ∨ SqT K H p ys) ∧ ∀ l, H l = none → Q (.ref l) (upd H l (.lst ys))
theorem call_listA {X : Cx} : CallR X (.type "list") (rListAny X.K) := call_list_of
theorem cs_list : CallS K (rListAny K) listD := fun E w cs ds vs Q s rs h => by
  unfold listD at h
  split at h
  · rename_i d
    obtain ⟨v, rfl, rv⟩ := r1 rs
    cases h1 : seqOf cs d with
    | none =>
      simp only [h1] at h
      exact h.elim
    | some l =>
      simp only [h1] at h
      obtain ⟨a, xs, rfl, g, q⟩ := seqOf_ok s rv h1
      exact ⟨a, xs, rfl, g, fun p np => aftL s h np q⟩
  · exact h.elim
theorem cs_listL : CallS K (rListAny K) listDL := fun E w cs ds vs Q s rs h => by
  unfold listDL at h
  split at h
  · rename_i d
    obtain ⟨v, rfl, rv⟩ := r1 rs
    cases h1 : seqOf cs d with
    | none =>
      simp only [h1] at h
      exact h.elim
    | some l =>
      simp only [h1] at h
      obtain ⟨hn, h⟩ := if_bad h
      obtain ⟨a, xs, rfl, g, q⟩ := seqOf_ok s rv h1
      exact ⟨a, xs, rfl, g, fun p np => aftC s h np hn q⟩
  · exact h.elim
/-! ### isinstance with built-in classes -/
def tyN (cs : List D) (d : D) : Option String := match d with
  | .non => some "NoneType"
  | .bl _ => some "bool"
  | .int _ => some "int"
  | .str _ => some "str"
  | .lst _ => some "list"
  | .tup _ => some "tuple"
  | .dct _ _ => some "dict"
  | .ref i => match cs[i]? with
    | some (.lst _) => some "list"
    | some (.dct _ _) => some "dict"
    | _ => none
  | _ => none
def tyNames : List String := ["NoneType", "bool", "int", "str", "list", "tuple", "dict"]
def isT (a T : String) : Option Bool := if a ∈ tyNames ∧ T ∈ ["bool", "int", "str", "list", "tuple", "dict"] then some (a == T || (a == "bool" && T == "int")) else none
theorem isT_ok {a T : String} {b : Bool} (h : isT a T = some b) : PySem.W.kitOne K (.type a) (.type T) = some b := by
  unfold isT at h
  split at h
  · rename_i hm
    cases h
    have all : ∀ a ∈ tyNames, ∀ T ∈ ["bool", "int", "str", "list", "tuple", "dict"], kitB a T = some (a == T || (a == "bool" && T == "int")) := by decide +kernel
    exact kit_ty (all a hm.1 T hm.2)
  · cases h
theorem tyN_ok {d : D} {v : V} {t : String} (s : Sim K w cs) (r : Rep K w d v) (h : tyN cs d = some t) : TyX K w.H v (.type t) := by
  cases d with
  | non => cases (show v = .non from r); cases h; exact .base .non
  | bl b => cases (show v = .bl b from r); cases h; exact .base (.bl b)
  | int b => cases (show v = .int b from r); cases h; exact .base (.int b)
  | str b => cases (show v = .str b from r); cases h; exact .base (.str b)
  | lst l =>
    obtain ⟨a, xs, rfl, f, g, q⟩ := r
    cases h
    exact .base (.lst g)
  | tup l =>
    obtain ⟨a, xs, rfl, f, g, q⟩ := r
    cases h
    exact .base (.tup g)
  | dct k l =>
    obtain ⟨a, xs, rfl, f, g, q⟩ := r
    cases h
    exact .base (.dK g)
  | ref i =>
    obtain ⟨a, rfl, hi⟩ := r
    unfold tyN at h
    cases hc : cs[i]? with
    | none =>
      simp only [hc] at h
      cases h
    | some c =>
      obtain ⟨_, _, o, _⟩ := s.cell i a c hi hc
      cases c with
      | lst l =>
        simp only [hc] at h
        cases h
        obtain ⟨xs, g, q⟩ := o
        exact .base (.lst g)
      | dct k l =>
        simp only [hc] at h
        cases h
        obtain ⟨xs, g, _⟩ := o
        exact .base (.dK g)
      | _ =>
        simp only [hc] at h
        cases h
  | _ => cases h
def isiD : OpC := fun ds cs => match ds with
  | [d, .ty T] => match tyN cs d with
    | some t => match isT t T with
      | some b => .ok (.bl b) cs
      | none => .bad
    | none => .bad
  | _ => .bad
theorem cs_isi : CallS K (rIsi K) isiD := fun E w cs ds vs Q s rs h => by
  unfold isiD at h
  split at h
  · rename_i d T
    obtain ⟨v, u, rfl, rv, ru⟩ := r2 rs
    cases (show u = .ty T from ru)
    cases h1 : tyN cs d with
    | none =>
      simp only [h1] at h
      exact h.elim
    | some t =>
      simp only [h1] at h
      cases h2 : isT t T with
      | none =>
        simp only [h2] at h
        exact h.elim
      | some b =>
        simp only [h2] at h
        exact ⟨v, .ty T, .type t, .type T, b, rfl, .ty T, tyN_ok s rv h1, isT_ok h2, aft s h rfl⟩
  · exact h.elim
/-! ### methods -/
def find3D : OpM := fun x ds cs => match x, ds with
  | .str a, [.str b, .int i] => .ok (.int (Txt.find3 a b i)) cs
  | _, _ => .bad
theorem ms_find3 : MtS K (fun x xs H Q => ∃ (a b : Str) (i : Int), x = .str a ∧ xs = [.str b, .int i] ∧ Q (.int (Txt.find3 a b i)) H) find3D := fun E w cs x vx ds vs Q s rx rs h => by
  unfold find3D at h
  split at h
  · cases (show vx = .str _ from rx)
    obtain ⟨v, u, rfl, rv, ru⟩ := r2 rs
    cases (show v = .str _ from rv)
    cases (show u = .int _ from ru)
    exact ⟨_, _, _, rfl, rfl, aft s h rfl⟩
  · exact h.elim
def findD : OpM := fun x ds cs => match x, ds with
  | .str a, [.str b] => .ok (.int (Txt.find a b)) cs
  | _, _ => .bad
theorem ms_find : MtS K (fun x xs H Q => ∃ a b, x = .str a ∧ xs = [.str b] ∧ Q (.int (Txt.find a b)) H) findD := fun E w cs x vx ds vs Q s rx rs h => by
  unfold findD at h
  split at h
  · cases (show vx = .str _ from rx)
    obtain ⟨v, rfl, rv⟩ := r1 rs
    cases (show v = .str _ from rv)
    exact ⟨_, _, rfl, rfl, aft s h rfl⟩
  · exact h.elim
def strsOf : List D → Option (List Str)
  | [] => some []
  | .str s :: ds => (strsOf ds).map (s :: ·)
  | _ => none
theorem strsOf_ok : ∀ {l : List D} {ss : List Str}, strsOf l = some ss → l = ss.map D.str
  | [], ss, h => by
    cases h
    rfl
  | d :: ds, ss, h => by
    cases d with
    | str s =>
      have h' : (strsOf ds).map (s :: ·) = some ss := h
      cases h1 : strsOf ds with
      | none =>
        rw [h1] at h'
        cases h'
      | some ys =>
        rw [h1] at h'
        cases h'
        rw [strsOf_ok h1]
        rfl
    | _ => cases h
@[simp] theorem strsOf_map (ss : List Str) : strsOf (ss.map D.str) = some ss := by
  induction ss with
  | nil => rfl
  | cons s ss ih =>
    show (strsOf (ss.map D.str)).map (s :: ·) = some (s :: ss)
    rw [ih]
    rfl
def joinD : OpM := fun x ds cs => match x, ds with
  | .str a, [d] => match seqOf cs d with
    | some l => match strsOf l with
      | some ys => if (ys.map (·.length)).sum + ys.length * a.length ≤ 16777216 then .ok (.str (Txt.join a ys)) cs else .bad
      | none => .bad
    | none => .bad
  | _, _ => .bad
theorem ms_join : MtS K (fun x xs H Q => ∃ a p, ∃ ys : List Str, x = .str a ∧ xs = [.ref p] ∧ (SqL K H p (ys.map V.str) ∨ SqT K H p (ys.map V.str)) ∧
    (ys.map (·.length)).sum + ys.length * a.length ≤ 16777216 ∧ Q (.str (Txt.join a ys)) H) joinD := fun E w cs x vx ds vs Q s rx rs h => by
  unfold joinD at h
  split at h
  · rename_i a d
    cases (show vx = .str _ from rx)
    obtain ⟨v, rfl, rv⟩ := r1 rs
    cases h1 : seqOf cs d with
    | none =>
      simp only [h1] at h
      exact h.elim
    | some l =>
      cases h2 : strsOf l with
      | none =>
        simp only [h1, h2] at h
        exact h.elim
      | some ys =>
        simp only [h1, h2] at h
        obtain ⟨hz, h⟩ := if_bad h
        obtain ⟨p, xs, rfl, g, q⟩ := seqOf_ok s rv h1
        rw [strsOf_ok h2] at q
        have e := Reps.strs_eq K q
        rw [e] at g
        exact ⟨a, p, ys, rfl, rfl, g, hz, aft s h rfl⟩
  · exact h.elim
theorem aftP {l l0 : List D} {xs : List V} {a : Addr} {i : Nat} (s : Sim K w cs) (h : After K E w (.ok .non (cs.set i (.lst l))) (fun d _ w' => ∀ v, Rep K w' d v → Q v w'.H)) (hi : w.p[i]? = some a) (hc : cs[i]? = some (.lst l0)) (hn : nrs l = true) (r : ∀ w', Le w w' → Reps K w' l xs) : Q .non (upd w.H a (.lst xs)) := by
  have le := s.le_put (o := .lst xs) hi hc
  exact h (w.put a (.lst xs)) le (s.put hi hc hn ⟨xs, upd_same, r _ le⟩) .non rfl
def appendD : OpM := fun x ds cs => match x, ds with
  | .ref i, [d] => match cs[i]? with
    | some (.lst l) => if l.length < sizeLine ∧ nr d = true ∧ nrs l = true then .ok .non (cs.set i (.lst (l ++ [d]))) else .bad
    | _ => .bad
  | _, _ => .bad
theorem ms_append : MtS K rAppend appendD := fun E w cs x vx ds vs Q s rx rs h => by
  unfold appendD at h
  split at h
  · rename_i i d
    obtain ⟨a, rfl, hi⟩ := rx
    obtain ⟨v, rfl, rv⟩ := r1 rs
    split at h
    · rename_i l hc
      obtain ⟨⟨hz, hn, hl⟩, h⟩ := if_bad h
      obtain ⟨_, _, ⟨xs, g, q⟩, _⟩ := s.cell i a _ hi hc
      refine ⟨a, xs, v, rfl, rfl, g, by rw [← Reps.length K q]; exact hz, ?_⟩
      refine aftP s h hi hc ?_ fun w' le => Reps.app K (Reps.mono K le _ _ q) ⟨v, [], rfl, Rep.mono K le d v rv, rfl⟩
      rw [nrs_app, hl]
      show (true && (nr d && true)) = true
      rw [hn]
      rfl
    · exact h.elim
  · exact h.elim
/-- a list that nobody else holds any more settles into data -/
def mFrz (m : M) : M := fun r cs => (m r cs).bind fun d cs' => match d with
  | .ref i => if cs.length ≤ i ∧ i + 1 = cs'.length then match cs'[i]? with
      | some (.lst l) => .ok (.lst l) (cs'.take i)
      | _ => .bad
    else .bad
  | d => .ok d cs'
def Wd.frz (w : Wd) (i : Nat) (a : Addr) : Wd := ⟨w.p.take i, fun b => w.F b ∨ b = a, w.G, w.H⟩
theorem Sim.frz {w : Wd} {cs : List D} {i : Nat} {a : Addr} {c : D} (s : Sim K w cs) (hi : w.p[i]? = some a) (hc : cs[i]? = some c) : Sim K (w.frz i a) (cs.take i) := by
  obtain ⟨f1, f2, f3, f4⟩ := s.cell i a c hi hc
  refine ⟨?_, fun j k b hj hk => s.nd j k b (take_get hj).2 (take_get hk).2, fun b f => ?_, fun b g => ?_, fun j b d hj hd => ?_⟩
  · show (w.p.take i).length = _
    rw [List.length_take, List.length_take, s.len]
  · rcases f with f | f
    · exact s.trk b f
    · rw [f]
      exact f2
  · obtain ⟨g1, g2, g3⟩ := s.gtr b g
    refine ⟨fun f => f.elim g1 fun e => ?_, g2, fun j hj => g3 j (take_get hj).2⟩
    subst e
    exact g3 i hi
  · obtain ⟨c1, c2, c3, c4⟩ := s.cell j b d (take_get hj).2 (take_get hd).2
    refine ⟨fun t f => f.elim (c1 t) fun e => ?_, c2, ORep.cell (w := w) (w' := w.frz i a) (fun _ h => .inl h) (fun _ _ => rfl) rfl d c4 c3, c4⟩
    subst e
    have := s.nd j i b (take_get hj).2 hi
    have := (take_get hj).1
    omega
theorem je_frz {X : Cx} {W : WX} {e : Expr} {m : M} (h : JE X W e m) : JE X W e (mFrz m) := peI h fun σ H Q ⟨w, rr, cs, e, s, ev, a⟩ => by
  refine ⟨w, rr, cs, e, s, ev, ?_⟩
  unfold mFrz at a
  cases hm : m rr cs with
  | bad =>
    rw [hm] at a
    exact a
  | err x r cs' =>
    rw [hm] at a
    exact a
  | ok d cs' =>
    rw [hm] at a
    simp only [R.bind_ok] at a
    split at a
    · rename_i i
      obtain ⟨⟨h1, h2⟩, a⟩ := if_bad a
      split at a
      · rename_i l hc
        intro w1 l1 s1 v ⟨p, e2, hp⟩
        subst e2
        obtain ⟨f1, f2, ⟨xs, g, q⟩, f4⟩ := s1.cell i p _ hp hc
        have hlen : w.p.length = cs.length := s.len
        have le : Le w (w1.frz i p) := by
          refine ⟨fun j b hj => ?_, fun b f => .inl (l1.fr b f), l1.keep, l1.gd⟩
          have hl : j < w.p.length := (List.getElem?_eq_some_iff.mp hj).1
          show (w1.p.take i)[j]? = some b
          rw [List.getElem?_take, if_pos (by omega)]
          exact l1.pre j b hj
        exact a (w1.frz i p) le (s1.frz hp hc) (.ref p) ⟨p, xs, rfl, .inr rfl, g, Reps.nr _ (w := w1) (w' := w1.frz i p) (fun _ h => .inl h) (fun _ _ => rfl) l xs f4 q⟩
      · exact a.elim
    · exact a
/-- a walk over a list, a tuple, a text -/
def itA (d : D) : Option (List D) := match d with
  | .lst l => some l
  | .wl l => some (l.map .int)
  | .tup l => some l
  | .str s => some (chrs s)
  | _ => none
theorem PI.or {X : Cx} {tg e : Expr} {t u : TI} (h : PI X tg e t) (k : PI X tg e u) : PI X tg e (fun σ H R => t σ H R ∨ u σ H R) := ⟨fun pins s σ H R I q => q.elim (h.run pins s σ H R I) (k.run pins s σ H R I)⟩
theorem ji_any {X : Cx} {W : WX} {tg e : Expr} {m : M} (h : JE X W e m) : JI X W tg e (mIt itA m) := piI (PI.or (ji_list h) (PI.or (ji_tup h) (ji_str h))) fun σ H Q ⟨w, rr, cs, e, s, ev, a⟩ => by
  unfold mIt at a
  cases hm : m rr cs with
  | bad =>
    rw [hm] at a
    exact a.elim
  | err x r cs' =>
    refine .inl ⟨w, rr, cs, e, s, ev, ?_⟩
    unfold mIt
    rw [hm] at a ⊢
    exact a
  | ok d cs' =>
    rw [hm] at a
    simp only [R.bind_ok] at a
    cases d with
    | lst l =>
      refine .inl ⟨w, rr, cs, e, s, ev, ?_⟩
      unfold mIt
      rw [hm]
      exact a
    | wl l =>
      refine .inl ⟨w, rr, cs, e, s, ev, ?_⟩
      unfold mIt
      rw [hm]
      exact a
    | tup l =>
      refine .inr (.inl ⟨w, rr, cs, e, s, ev, ?_⟩)
      unfold mIt
      rw [hm]
      exact a
    | str l =>
      refine .inr (.inr ⟨w, rr, cs, e, s, ev, ?_⟩)
      unfold mIt
      rw [hm]
      exact a
    | _ => exact a.elim
end
/-- turns enough for any while here -/
def whl : Nat := 1000000
theorem law_sp {f : Fn} {ns : List Int} (h : ∃ cs, f [.wl ns] [] = .ok (.bl true) cs) {K : PySem.W.Frag} {H : Hp} {a : Addr} (hS : SqL K H a (ns.map V.int)) : spF K f [.ref a] H (fun v _ => v = .bl true) (fun _ _ _ => False) := by
  obtain ⟨cs, h⟩ := h
  refine ⟨⟨[], fun b => ∃ o, H b = some o, fun _ => False, H⟩, [.wl ns], [], rfl, Sim.mk rfl (fun i j a h => by cases i <;> cases h) (fun _ h => h) (fun _ h => False.elim h) (fun i a d h => by cases i <;> cases h), ⟨.ref a, [], rfl, ⟨a, rfl, ?_⟩, rfl⟩, ?_⟩
  · rcases hS with z | z
    · refine .inl ⟨?_, .inl z⟩
      rcases z with z | ⟨o, z⟩
      · exact ⟨_, z⟩
      · exact ⟨_, z⟩
    · exact .inr fun H' => .inr z
  · rw [h]
    intro w' _ _ v rv
    exact rv
theorem cx_none {P : Program} {w : World} {H : Hp} {s : Shared} {e : Value} {s' : Shared} (h : L2.CX P w [] H s (fun _ _ _ => False) e s') : False := by
  obtain ⟨_, _, _, _, _, _, _, _, _, _, _, _, z⟩ := h
  exact z
end Wf
set_option Elab.async false
set_option linter.all false
set_option maxRecDepth 100000
/-! What a mirror hands back: Ok r P; and texts. -/
namespace Wf
open PySem PySem.Spec PyProof.Rows L2
def OkM {α : Type} (r : R α) (P : α → List D → Prop) : Prop := match r with
  | .ok a cs => P a cs
  | _ => False
structure Ok {α : Type} (r : R α) (P : α → List D → Prop) : Prop where
  h : OkM r P
theorem Ok_M {α : Type} {r : R α} {P : α → List D → Prop} : Ok r P = OkM r P := propext ⟨fun h => h.h, fun h => ⟨h⟩⟩
@[simp] theorem Ok_ok {α : Type} (a : α) (cs : List D) (P : α → List D → Prop) : Ok (.ok a cs) P = P a cs := Ok_M
@[simp] theorem Ok_bad {α : Type} (P : α → List D → Prop) : Ok (.bad : R α) P = False := Ok_M
theorem Ok_err {α : Type} (x : D) (e : Env) (cs : List D) (P : α → List D → Prop) : Ok (.err x e cs : R α) P = False := Ok_M
@[simp] theorem Ok_bind {α β : Type} (r : R α) (k : α → List D → R β) (P : β → List D → Prop) : Ok (r.bind k) P = Ok r (fun a cs => Ok (k a cs) P) := by
  cases r with
  | ok a cs => rw [R.bind_ok, Ok_ok]
  | err x e cs => rw [R.bind_err, Ok_err, Ok_err]
  | bad => rw [R.bind_bad, Ok_bad, Ok_bad]
@[simp] theorem Ok_note {α : Type} (e : Env) (r : R α) (P : α → List D → Prop) : Ok (noteE e r) P = Ok r P := by
  cases r with
  | ok a cs => exact (rfl)
  | err x e cs =>
    show Ok (.err x _ cs) P = _
    rw [Ok_err, Ok_err]
  | bad => exact (rfl)
@[simp] theorem Ok_calm {α : Type} (r : R α) (P : α → List D → Prop) : Ok (calmR r) P = Ok r P := by
  cases r with
  | ok a cs => exact (rfl)
  | err x e cs =>
    show Ok .bad P = _
    rw [Ok_err, Ok_bad]
  | bad => exact (rfl)
theorem Ok_mono {α : Type} {r : R α} {P Q : α → List D → Prop} (h : Ok r P) (k : ∀ a cs, P a cs → Q a cs) : Ok r Q := by
  cases r with
  | ok a cs => exact ⟨k a cs h.h⟩
  | err x e cs => exact h.h.elim
  | bad => exact h.h.elim
theorem Ok_iff {α : Type} {r : R α} {P : α → List D → Prop} : Ok r P ↔ ∃ a cs, r = .ok a cs ∧ P a cs := by
  cases r with
  | ok a cs =>
    refine ⟨fun h => ⟨a, cs, rfl, h.h⟩, fun ⟨a', cs', e, h⟩ => ?_⟩
    cases e
    exact ⟨h⟩
  | err x e cs => exact ⟨fun h => h.h.elim, fun ⟨_, _, e, _⟩ => by cases e⟩
  | bad => exact ⟨fun h => h.h.elim, fun ⟨_, _, e, _⟩ => by cases e⟩
theorem Ok_get {α : Type} {r : R α} {P : α → List D → Prop} (h : Ok r P) : ∃ a cs, r = .ok a cs ∧ P a cs := Ok_iff.mp h
theorem Ok_if {α : Type} {p : Prop} [Decidable p] {a b : R α} {P : α → List D → Prop} : Ok (if p then a else b) P = if p then Ok a P else Ok b P := by
  split <;> rfl
/-- a def's end -/
theorem Ok_fin {n : Nat} {r : R Fl} {P : D → List D → Prop} (h : Ok r (fun fl cs => match fl with
    | .nx _ => P .non (cs.take n)
    | .ret d => Ok (outR n d cs) P
    | _ => False)) : Ok (finR n r) P := by
  cases r with
  | ok fl cs =>
    rw [Ok_ok] at h
    cases fl with
    | nx e => exact ⟨h⟩
    | ret d => exact h
    | brk e => exact h.elim
    | ct e => exact h.elim
  | err x e cs => exact h.h.elim
  | bad => exact h.h.elim
theorem Ok_finB {α : Type} {n : Nat} {r : R α} {k : α → List D → R Fl} {P : D → List D → Prop} : Ok (finR n (r.bind k)) P = Ok r (fun a cs => Ok (finR n (k a cs)) P) := by
  cases r with
  | ok a cs => rw [R.bind_ok, Ok_ok]
  | err x e cs =>
    rw [R.bind_err, Ok_err]
    unfold finR
    simp only
    split
    · rw [Ok_err]
    · rw [Ok_bad]
  | bad =>
    rw [R.bind_bad, Ok_bad]
    show Ok .bad P = False
    rw [Ok_bad]
theorem Ok_finO {n : Nat} {r : R Fl} {P : D → List D → Prop} : Ok (finR n r) P = Ok r (fun a cs => Ok (finR n (.ok a cs)) P) := by
  cases r with
  | ok a cs => rw [Ok_ok]
  | err x e cs =>
    rw [Ok_err]
    unfold finR
    simp only
    split
    · rw [Ok_err]
    · rw [Ok_bad]
  | bad =>
    rw [Ok_bad]
    show Ok .bad P = False
    rw [Ok_bad]
theorem out_nr {n : Nat} {d : D} {cs : List D} (h : nr d = true) : outR n d cs = .ok d (cs.take n) := by
  unfold outR
  rw [if_pos h]
theorem out_ref {n : Nat} {cs : List D} {c : D} {i : Nat} (hi : n ≤ i) (h : cs[i]? = some c) : outR n (.ref i) cs = .ok (.ref n) (cs.take n ++ [c]) := by
  unfold outR
  rw [if_neg (by simp [nr])]
  simp only [if_neg (show ¬ i < n by omega), h]
theorem Ok_def {nps nn : Nat} {m : MS} {ds cs : List D} {P : D → List D → Prop} (hl : ds.length = nps) (h : Ok (m (env0 nn ds) cs) (fun fl cs' => match fl with
    | .nx _ => P .non (cs'.take cs.length)
    | .ret d => Ok (outR cs.length d cs') P
    | _ => False)) : Ok (mDef nps nn m ds cs) P := by
  unfold mDef
  rw [if_pos hl]
  exact Ok_fin h
/-- loops: an invariant over the items that are left -/
theorem Ok_for {f : Env → D → List D → R Fl} {P : Fl → List D → Prop} (I : List D → Env → List D → Prop) (h0 : ∀ r cs, I [] r cs → P (.nx r) cs)
    (hs : ∀ d ds r cs, I (d :: ds) r cs → Ok (f r d cs) (fun fl cs' => match fl with
      | .nx r' => I ds r' cs'
      | .ct r' => I ds r' cs'
      | .brk r' => P (.nx r') cs'
      | .ret v => P (.ret v) cs')) : ∀ ds r cs, I ds r cs → Ok (forR f ds r cs) P
  | [], r, cs, h => ⟨h0 r cs h⟩
  | d :: ds, r, cs, h => by
    unfold forR
    rw [Ok_bind]
    refine Ok_mono (hs d ds r cs h) fun fl cs' q => ?_
    cases fl with
    | nx r' => exact Ok_for I h0 hs ds r' cs' q
    | ct r' => exact Ok_for I h0 hs ds r' cs' q
    | brk r' => exact ⟨q⟩
    | ret v => exact ⟨q⟩
theorem Ok_while {c : MT} {b : MS} {P : Fl → List D → Prop} (I : Nat → Env → List D → Prop)
    (hs : ∀ n r cs, I n r cs → Ok (c r cs) (fun t cs' => if t = true then Ok (b r cs') (fun fl cs2 => match fl with
      | .nx r' => ∃ m, m < n ∧ I m r' cs2
      | .ct r' => ∃ m, m < n ∧ I m r' cs2
      | .brk r' => P (.nx r') cs2
      | .ret v => P (.ret v) cs2) else P (.nx r) cs')) : ∀ k n r cs, I n r cs → n < k → Ok (whileR c b k r cs) P
  | 0, n, r, cs, _, h => by omega
  | k + 1, n, r, cs, hI, h => by
    unfold whileR
    rw [Ok_bind]
    refine Ok_mono (hs n r cs hI) fun t cs' q => ?_
    cases t with
    | false => exact ⟨q⟩
    | true =>
      show Ok ((b r cs').bind _) P
      rw [Ok_bind]
      refine Ok_mono q fun fl cs2 q2 => ?_
      cases fl with
      | nx r' =>
        obtain ⟨m, hm, q3⟩ := q2
        exact Ok_while I hs k m r' cs2 q3 (by omega)
      | ct r' =>
        obtain ⟨m, hm, q3⟩ := q2
        exact Ok_while I hs k m r' cs2 q3 (by omega)
      | brk r' => exact ⟨q2⟩
      | ret v => exact ⟨q2⟩
theorem Ok_finF {n : Nat} {f : Env → D → List D → R Fl} {ds : List D} {e : Env} {cs : List D} {P : D → List D → Prop} : Ok (finR n (forR f ds e cs)) P = Ok (forR f ds e cs) (fun a cs => Ok (finR n (.ok a cs)) P) := Ok_finO
theorem Ok_finW {n k : Nat} {c : MT} {b : MS} {e : Env} {cs : List D} {P : D → List D → Prop} : Ok (finR n (whileR c b k e cs)) P = Ok (whileR c b k e cs) (fun a cs => Ok (finR n (.ok a cs)) P) := Ok_finO
/-- a comprehension: an invariant over the items that are left and the items made -/
theorem Ok_map {f : D → List D → R (Option D)} {P : List D → List D → Prop} (I : List D → List D → List D → Prop) (h0 : ∀ ys cs, I [] ys cs → P ys cs)
    (hs : ∀ d ds ys cs, I (d :: ds) ys cs → Ok (f d cs) (fun o cs' => I ds (ys ++ o.toList) cs')) : ∀ ds cs, I ds [] cs → Ok (mapR f ds cs) P := by
  have gen : ∀ ds ys cs, I ds ys cs → Ok (mapR f ds cs) (fun zs cs' => P (ys ++ zs) cs') := by
    intro ds
    induction ds with
    | nil =>
      intro ys cs h
      unfold mapR
      rw [Ok_ok, List.append_nil]
      exact h0 ys cs h
    | cons d ds ih =>
      intro ys cs h
      unfold mapR
      rw [Ok_bind]
      refine Ok_mono (hs d ds ys cs h) fun o cs' q => ?_
      rw [Ok_bind]
      refine Ok_mono (ih _ cs' q) fun zs cs2 q2 => ?_
      rw [Ok_ok]
      cases o with
      | none =>
        rw [Option.toList_none, List.append_nil] at q2
        exact q2
      | some y =>
        rw [Option.toList_some, List.append_assoc] at q2
        exact q2
  intro ds cs h
  exact Ok_mono (gen ds [] cs h) fun zs cs' q => by rw [List.nil_append] at q; exact q
/-- where every turn makes one item and leaves the cells alone -/
theorem map_pure {f : D → List D → R (Option D)} {cs : List D} {g : D → D} : ∀ {ds : List D}, (∀ d ∈ ds, f d cs = .ok (some (g d)) cs) → mapR f ds cs = .ok (ds.map g) cs
  | [], _ => rfl
  | d :: ds, h => by
    unfold mapR
    rw [h d (List.mem_cons_self ..), R.bind_ok, map_pure (ds := ds) fun e he => h e (List.mem_cons_of_mem _ he), R.bind_ok]
    rfl
theorem map_filter {f : D → List D → R (Option D)} {cs : List D} {p : D → Bool} : ∀ {ds : List D}, (∀ d ∈ ds, f d cs = .ok (if p d then some d else none) cs) → mapR f ds cs = .ok (ds.filter p) cs
  | [], _ => rfl
  | d :: ds, h => by
    unfold mapR
    rw [h d (List.mem_cons_self ..), R.bind_ok, map_filter (ds := ds) fun e he => h e (List.mem_cons_of_mem _ he), R.bind_ok]
    cases hp : p d with
    | true => rw [List.filter_cons_of_pos hp]; rfl
    | false => rw [List.filter_cons_of_neg (by rw [hp]; exact Bool.false_ne_true)]; rfl
/-! ### texts -/
def At (x y : Str) (i : Nat) : Bool := decide (i + y.length ≤ x.length) && Builtin.Str.subAt x y i
theorem occ_stay (s sub : Str) (hi : Nat) : ∀ (l : List Nat) (st : Array Nat × Nat), 1 ≤ st.fst.size → (forIn l st (StrLaws.occBody s sub hi 1)).run.fst = st.fst
  | [], st, h => rfl
  | a :: l, st, h => by
    rw [List.forIn_cons]
    unfold StrLaws.occBody
    rw [if_neg (fun z => by have := z.1.1.1; omega)]
    exact occ_stay s sub hi l (st.fst, st.snd) h
theorem occ_find (s sub : Str) : ∀ (l : List Nat) (free : Nat), (∀ i ∈ l, free ≤ i) →
    (forIn l ((#[] : Array Nat), free) (StrLaws.occBody s sub s.length 1)).run.fst.toList = (l.find? (At s sub)).toList
  | [], free, _ => rfl
  | a :: l, free, hf => by
    rw [List.forIn_cons]
    unfold StrLaws.occBody
    have ha : free ≤ a := hf a (List.mem_cons_self ..)
    by_cases hc : a + sub.length ≤ s.length ∧ Builtin.Str.subAt s sub a = true
    · rw [if_pos ⟨⟨⟨by simp, ha⟩, hc.1⟩, hc.2⟩]
      have hA : At s sub a = true := by
        unfold At
        rw [decide_eq_true hc.1, hc.2]
        rfl
      rw [List.find?_cons_of_pos hA]
      have := occ_stay s sub s.length l ((#[] : Array Nat).push a, a + sub.length) (by simp)
      show (forIn l ((#[] : Array Nat).push a, a + sub.length) (StrLaws.occBody s sub s.length 1)).run.fst.toList = _
      rw [this]
      rfl
    · rw [if_neg fun h => hc ⟨h.1.2, h.2⟩]
      have hA : ¬ At s sub a = true := by
        unfold At
        rw [Bool.and_eq_true, decide_eq_true_eq]
        exact hc
      rw [List.find?_cons_of_neg hA]
      exact occ_find s sub l free fun i hi => hf i (List.mem_cons_of_mem _ hi)
theorem occ1 (x y : Str) (lo : Nat) : Builtin.Str.occurrences x y lo x.length 1 = ((List.range' lo (x.length + 1 - lo)).find? (At x y)).toList := by
  rw [StrLaws.occ_eq]
  exact occ_find x y _ lo fun i hi => (List.mem_range'_1.mp hi).1
theorem find3_eq (x y : Str) (lo : Nat) : Txt.find3 x y (lo : Int) = match (List.range' lo (x.length + 1 - lo)).find? (At x y) with
    | some k => (k : Int)
    | none => -1 := by
  unfold Txt.find3
  have e : PySem.fromIndex x.length (lo : Int) = lo := by
    unfold PySem.fromIndex
    rw [if_neg (by omega)]
    omega
  rw [e, occ1]
  cases (List.range' lo (x.length + 1 - lo)).find? (At x y) <;> rfl
end Wf
set_option Elab.async false
set_option linter.all false
set_option maxRecDepth 100000
/-! Mirrors step by step: what comes next stands under a name, and is looked at when its value is there. -/
namespace Wf
open PySem PySem.Spec PyProof.Rows L2
variable {m n ma mb mc me mo mi : M} {ml mk : ML} {mt nt : MT} {ms ns b : MS} {r : Env} {cs : List D} {f g : Op2} {d x y : D} {ds es : List D}
theorem sz : sizeLine = 16777216 := (rfl)
def kSeq (n : MS) : Fl → List D → R Fl := fun fl cs => match fl with
  | .nx r' => n r' cs
  | o => .ok o cs
theorem e_seq : mSeq ms ns r cs = (ms r cs).bind (kSeq ns) := (rfl)
theorem k_seqN {e : Env} : kSeq ns (.nx e) cs = ns e cs := (rfl)
theorem k_seqR : kSeq ns (.ret d) cs = .ok (.ret d) cs := (rfl)
theorem k_seqB {e : Env} : kSeq ns (.brk e) cs = .ok (.brk e) cs := (rfl)
theorem k_seqC {e : Env} : kSeq ns (.ct e) cs = .ok (.ct e) cs := (rfl)
theorem n_ok {α : Type} {e : Env} {a : α} : noteE e (.ok a cs) = .ok a cs := (rfl)
theorem c_ok {α : Type} {a : α} : calmR (.ok a cs) = .ok a cs := (rfl)
theorem e_skip : mSkip r cs = .ok (.nx r) cs := (rfl)
theorem e_brk : mBrk r cs = .ok (.brk r) cs := (rfl)
theorem e_ct : mCt r cs = .ok (.ct r) cs := (rfl)
def kIf (m n : MS) (r : Env) : Bool → List D → R Fl := fun b cs => if b then m r cs else n r cs
theorem e_if : mIf mt ms ns r cs = (mt r cs).bind (kIf ms ns r) := (rfl)
theorem k_ifT : kIf ms ns r true cs = ms r cs := (rfl)
theorem k_ifF : kIf ms ns r false cs = ns r cs := (rfl)
def kIfE (m n : M) (r : Env) : Bool → List D → R D := fun b cs => if b then m r cs else n r cs
theorem e_ifE : mIfE mt m n r cs = (mt r cs).bind (kIfE m n r) := (rfl)
theorem k_ifET : kIfE m n r true cs = m r cs := (rfl)
theorem k_ifEF : kIfE m n r false cs = n r cs := (rfl)
def kOp (f : Op2) (mb : M) (r : Env) : D → List D → R D := fun x cs => (mb r cs).bind fun y cs => f x y cs
theorem e_op : mOp f ma mb r cs = (ma r cs).bind (kOp f mb r) := (rfl)
theorem k_op : kOp f mb r x cs = (mb r cs).bind (f x) := (rfl)
theorem e_un {f : Op1} : mUn f ma r cs = (ma r cs).bind f := (rfl)
def kB : D → List D → R Bool := fun d cs => match d with
  | .bl b => .ok b cs
  | _ => .bad
theorem e_B : mB m r cs = (m r cs).bind kB := (rfl)
theorem k_B {b : Bool} : kB (.bl b) cs = .ok b cs := (rfl)
def kCh3 (g : Op2) (mc : M) (r : Env) (y : D) : D → List D → R D := fun z cs => match z with
  | .bl true => (mc r cs).bind fun u cs => g y u cs
  | .bl false => .ok (.bl false) cs
  | _ => .bad
def kCh2 (f g : Op2) (mc : M) (r : Env) (x : D) : D → List D → R D := fun y cs => (f x y cs).bind (kCh3 g mc r y)
def kCh1 (f g : Op2) (mb mc : M) (r : Env) : D → List D → R D := fun x cs => (mb r cs).bind (kCh2 f g mc r x)
theorem e_chain : mChain f g ma mb mc r cs = (ma r cs).bind (kCh1 f g mb mc r) := (rfl)
theorem k_ch1 : kCh1 f g mb mc r x cs = (mb r cs).bind (kCh2 f g mc r x) := (rfl)
theorem k_ch2 : kCh2 f g mc r x y cs = (f x y cs).bind (kCh3 g mc r y) := (rfl)
theorem k_ch3T : kCh3 g mc r y (.bl true) cs = (mc r cs).bind (g y) := (rfl)
theorem k_ch3F : kCh3 g mc r y (.bl false) cs = .ok (.bl false) cs := (rfl)
def kNot : Bool → List D → R Bool := fun b cs => .ok (!b) cs
theorem e_not : mNot mt r cs = (mt r cs).bind kNot := (rfl)
theorem k_not {b : Bool} : kNot b cs = .ok (!b) cs := (rfl)
def kAnd (n : MT) (r : Env) : Bool → List D → R Bool := fun b cs => if b then n r cs else .ok false cs
theorem e_and : mAnd mt nt r cs = (mt r cs).bind (kAnd nt r) := (rfl)
theorem k_andT : kAnd nt r true cs = nt r cs := (rfl)
theorem k_andF : kAnd nt r false cs = .ok false cs := (rfl)
def kOr (n : MT) (r : Env) : Bool → List D → R Bool := fun b cs => if b then .ok true cs else n r cs
theorem e_or : mOr mt nt r cs = (mt r cs).bind (kOr nt r) := (rfl)
theorem k_orT : kOr nt r true cs = .ok true cs := (rfl)
theorem k_orF : kOr nt r false cs = nt r cs := (rfl)
def kAndV (n : M) (r : Env) : D → List D → R D := fun d cs => match d with
  | .bl true => n r cs
  | .bl false => .ok (.bl false) cs
  | _ => .bad
theorem e_andV : mAndV m n r cs = (m r cs).bind (kAndV n r) := (rfl)
theorem k_andVT : kAndV n r (.bl true) cs = n r cs := (rfl)
theorem k_andVF : kAndV n r (.bl false) cs = .ok (.bl false) cs := (rfl)
def kOrV (n : M) (r : Env) : D → List D → R D := fun d cs => match d with
  | .bl true => .ok (.bl true) cs
  | .bl false => n r cs
  | _ => .bad
theorem e_orV : mOrV m n r cs = (m r cs).bind (kOrV n r) := (rfl)
theorem k_orVT : kOrV n r (.bl true) cs = .ok (.bl true) cs := (rfl)
theorem k_orVF : kOrV n r (.bl false) cs = n r cs := (rfl)
def kNotV : D → List D → R D := fun d cs => match d with
  | .bl b => .ok (.bl (!b)) cs
  | _ => .bad
theorem e_notV : mNotV m r cs = (m r cs).bind kNotV := (rfl)
theorem k_notV {b : Bool} : kNotV (.bl b) cs = .ok (.bl (!b)) cs := (rfl)
theorem e_nil : mNil r cs = .ok [] cs := (rfl)
def kCons2 (d : D) : List D → List D → R (List D) := fun ds cs => .ok (d :: ds) cs
def kCons (ml : ML) (r : Env) : D → List D → R (List D) := fun d cs => (ml r cs).bind (kCons2 d)
theorem e_cons : mCons m ml r cs = (m r cs).bind (kCons ml r) := (rfl)
theorem k_cons : kCons ml r d cs = (ml r cs).bind (kCons2 d) := (rfl)
theorem k_cons2 : kCons2 d ds cs = .ok (d :: ds) cs := (rfl)
def kTup : List D → List D → R D := fun ds cs => if ds.length ≤ sizeLine then .ok (.tup ds) cs else .bad
def kLst : List D → List D → R D := fun ds cs => if ds.length ≤ sizeLine then .ok (.lst ds) cs else .bad
def kLstL : List D → List D → R D := fun ds cs => if ds.length ≤ sizeLine ∧ nrs ds = true then .ok (.ref cs.length) (cs ++ [.lst ds]) else .bad
theorem e_tup : mTup ml r cs = (ml r cs).bind kTup := (rfl)
theorem e_lst : mLst ml r cs = (ml r cs).bind kLst := (rfl)
theorem e_lstL : mLstL ml r cs = (ml r cs).bind kLstL := (rfl)
theorem k_tup (h : ds.length ≤ 16777216) : kTup ds cs = .ok (.tup ds) cs := if_pos h
theorem k_lst (h : ds.length ≤ 16777216) : kLst ds cs = .ok (.lst ds) cs := if_pos h
theorem k_lstL (h : ds.length ≤ 16777216 ∧ nrs ds = true) : kLstL ds cs = .ok (.ref cs.length) (cs ++ [.lst ds]) := if_pos h
def kSl3 (f : OpSl) (x : D) (l : Option Int) : Option Int → List D → R D := fun u cs => f x l u cs
def kSl2 (f : OpSl) (hi : MO) (r : Env) (x : D) : Option Int → List D → R D := fun l cs => (hi r cs).bind (kSl3 f x l)
def kSl1 (f : OpSl) (lo hi : MO) (r : Env) : D → List D → R D := fun x cs => (lo r cs).bind (kSl2 f hi r x)
theorem e_sl {f : OpSl} {lo hi : MO} : mSl f m lo hi r cs = (m r cs).bind (kSl1 f lo hi r) := (rfl)
theorem k_sl1 {f : OpSl} {lo hi : MO} : kSl1 f lo hi r x cs = (lo r cs).bind (kSl2 f hi r x) := (rfl)
theorem k_sl2 {f : OpSl} {hi : MO} {l : Option Int} : kSl2 f hi r x l cs = (hi r cs).bind (kSl3 f x l) := (rfl)
theorem k_sl3 {f : OpSl} {l u : Option Int} : kSl3 f x l u cs = f x l u cs := (rfl)
theorem e_noP : mNoP r cs = .ok none cs := (rfl)
def kP : D → List D → R (Option Int) := fun d cs => match d with
  | .int i => .ok (some i) cs
  | _ => .bad
theorem e_P : mP m r cs = (m r cs).bind kP := (rfl)
theorem k_P {i : Int} : kP (.int i) cs = .ok (some i) cs := (rfl)
theorem e_CB {f : OpC} : mCB f ml r cs = (ml r cs).bind f := (rfl)
def kBM (T : String) (f : OpM) (ml : ML) (r : Env) : D → List D → R D := fun x cs => if tyD T x cs = true then (ml r cs).bind (f x) else .bad
theorem e_BM {T : String} {f : OpM} : mBM T f mo ml r cs = (mo r cs).bind (kBM T f ml r) := (rfl)
theorem k_BM {T : String} {f : OpM} (h : tyD T x cs = true) : kBM T f ml r x cs = (ml r cs).bind (f x) := if_pos h
def kCall (f : Fn) (r : Env) : List D → List D → R D := fun ds cs => noteE r (f ds cs)
theorem e_call {f : Fn} : mCall f ml r cs = (ml r cs).bind (kCall f r) := (rfl)
theorem k_call {f : Fn} : kCall f r ds cs = noteE r (f ds cs) := (rfl)
def kCallK (f : Fn) (k : Nat) (ix : List Nat) (r : Env) : List D → List D → R D := fun es cs => if es.length = k then noteE r (f (pick ix es) cs) else .bad
theorem e_callK {f : Fn} {k : Nat} {ix : List Nat} : mCallK0 f k ix mk r cs = (mk r cs).bind (kCallK f k ix r) := (rfl)
theorem k_callK {f : Fn} {k : Nat} {ix : List Nat} (h : es.length = k) : kCallK f k ix r es cs = noteE r (f (pick ix es) cs) := if_pos h
def kAsg (g : D → Env → Option Env) (r : Env) : D → List D → R Fl := fun d cs => match g d r with
  | some r' => .ok (.nx r') cs
  | none => .bad
theorem e_asg {g : D → Env → Option Env} : mAsg g m r cs = (m r cs).bind (kAsg g r) := (rfl)
theorem k_asgN {i : Nat} : kAsg (gtN i) r d cs = .ok (.nx (r.set i (some d))) cs := (rfl)
theorem k_asg {g : D → Env → Option Env} {r' : Env} (h : g d r = some r') : kAsg g r d cs = .ok (.nx r') cs := by
  unfold kAsg
  rw [h]
def kSub3 (f : Op3) (r : Env) (d o : D) : D → List D → R Fl := fun i cs => match f o i d cs with
  | some cs' => .ok (.nx r) cs'
  | none => .bad
def kSub2 (f : Op3) (mi : M) (r : Env) (d : D) : D → List D → R Fl := fun o cs => (mi r cs).bind (kSub3 f r d o)
def kSub1 (f : Op3) (mo mi : M) (r : Env) : D → List D → R Fl := fun d cs => (mo r cs).bind (kSub2 f mi r d)
theorem e_sub {f : Op3} : mSub f me mo mi r cs = (me r cs).bind (kSub1 f mo mi r) := (rfl)
theorem k_sub1 {f : Op3} : kSub1 f mo mi r d cs = (mo r cs).bind (kSub2 f mi r d) := (rfl)
theorem k_sub2 {f : Op3} : kSub2 f mi r d x cs = (mi r cs).bind (kSub3 f r d x) := (rfl)
theorem k_sub3 {f : Op3} {cs' : List D} (h : f x y d cs = some cs') : kSub3 f r d x y cs = .ok (.nx r) cs' := by
  unfold kSub3
  rw [h]
def kExpr (r : Env) : D → List D → R Fl := fun _ cs => .ok (.nx r) cs
theorem e_expr : mExpr m r cs = (m r cs).bind (kExpr r) := (rfl)
theorem k_expr : kExpr r d cs = .ok (.nx r) cs := (rfl)
def kRet : D → List D → R Fl := fun d cs => .ok (.ret d) cs
theorem e_ret : mRet m r cs = (m r cs).bind kRet := (rfl)
theorem k_ret : kRet d cs = .ok (.ret d) cs := (rfl)
def bFor (g : D → Env → Option Env) (b : MS) : Env → D → List D → R Fl := fun r d cs => match g d r with
  | some r' => b r' cs
  | none => .bad
theorem b_for {i : Nat} : bFor (gtN i) b r d cs = b (r.set i (some d)) cs := (rfl)
def kFor (g : D → Env → Option Env) (b : MS) (r : Env) : List D → List D → R Fl := fun ds cs => forR (bFor g b) ds r cs
theorem e_for {g : D → Env → Option Env} {mi : ML} : mFor mi g b r cs = (mi r cs).bind (kFor g b r) := (rfl)
theorem k_for {g : D → Env → Option Env} : kFor g b r ds cs = forR (bFor g b) ds r cs := (rfl)
theorem e_while {k : Nat} : mWhile k mt b r cs = whileR mt b k r cs := (rfl)
def kIt (f : D → Option (List D)) : D → List D → R (List D) := fun d cs => match f d with
  | some l => .ok l cs
  | none => .bad
theorem e_it {f : D → Option (List D)} : mIt f m r cs = (m r cs).bind (kIt f) := (rfl)
theorem k_itL : kIt itA (.lst ds) cs = .ok ds cs := (rfl)
theorem k_itT : kIt itA (.tup ds) cs = .ok ds cs := (rfl)
theorem k_itW {l : List Int} : kIt itA (.wl l) cs = .ok (l.map .int) cs := (rfl)
theorem k_itS {z : Str} : kIt itA (.str z) cs = .ok (chrs z) cs := (rfl)
def kRng1 : List D → List D → R (List D) := fun ds cs => match ds with
  | [.int j] => if -(2 ^ 62) ≤ j ∧ j < 2 ^ 62 then .ok (rng 0 j.toNat) cs else .bad
  | _ => .bad
def kRng2 : List D → List D → R (List D) := fun ds cs => match ds with
  | [.int i, .int j] => if -(2 ^ 62) ≤ i ∧ i < 2 ^ 62 ∧ -(2 ^ 62) ≤ j ∧ j < 2 ^ 62 then .ok (rng i (j - i).toNat) cs else .bad
  | _ => .bad
theorem e_rng1 : mRng1 ml r cs = (ml r cs).bind kRng1 := (rfl)
theorem e_rng2 : mRng2 ml r cs = (ml r cs).bind kRng2 := (rfl)
theorem p62 : (2 : Int) ^ 62 = 4611686018427387904 := by decide +kernel
theorem k_rng1 {j : Int} (h : -1000000000 ≤ j ∧ j < 1000000000) : kRng1 [.int j] cs = .ok (rng 0 j.toNat) cs := if_pos (by rw [p62]; omega)
theorem k_rng2 {i j : Int} (h : (-1000000000 ≤ i ∧ i < 1000000000) ∧ -1000000000 ≤ j ∧ j < 1000000000) : kRng2 [.int i, .int j] cs = .ok (rng i (j - i).toNat) cs := if_pos (by rw [p62]; omega)
/-! comprehensions -/
def kLcE : D → List D → R (Option D) := fun y cs => .ok (some y) cs
def kLcT (me : M) (r : Env) : Bool → List D → R (Option D) := fun b cs => if b then (me r cs).bind kLcE else .ok none cs
theorem k_lcTT : kLcT me r true cs = (me r cs).bind kLcE := (rfl)
theorem k_lcTF : kLcT me r false cs = .ok none cs := (rfl)
theorem k_lcE : kLcE d cs = .ok (some d) cs := (rfl)
theorem e_lcF {i : Nat} {r : Env} : lcF (gtN i) mt me r d cs = (mt (r.set i (some d)) cs).bind (kLcT me (r.set i (some d))) := (rfl)
theorem e_yes : mYes r cs = .ok true cs := (rfl)
def kLc2 (k : List D → List D → R D) : List D → List D → R D := fun ys cs => if ys.length < sizeLine then k ys cs else .bad
def kLc1 (vs : List Nat) (g : D → Env → Option Env) (mt : MT) (me : M) (r : Env) (k : List D → List D → R D) : List D → List D → R D := fun ds cs => (calmR (mapR (lcF g mt me (wipeD r vs)) ds cs)).bind (kLc2 k)
def kDone : List D → List D → R D := fun ys cs => .ok (.lst ys) cs
def kDoneL : List D → List D → R D := fun ys cs => if nrs ys = true then .ok (.ref cs.length) (cs ++ [.lst ys]) else .bad
theorem e_lc {vs : List Nat} {mi : ML} {g : D → Env → Option Env} : mLc vs mi g mt me r cs = (mi r cs).bind (kLc1 vs g mt me r kDone) := (rfl)
theorem e_lcL {vs : List Nat} {mi : ML} {g : D → Env → Option Env} : mLcL vs mi g mt me r cs = (mi r cs).bind (kLc1 vs g mt me r kDoneL) := (rfl)
theorem k_lc1 {vs : List Nat} {g : D → Env → Option Env} {k : List D → List D → R D} : kLc1 vs g mt me r k ds cs = (calmR (mapR (lcF g mt me (wipeD r vs)) ds cs)).bind (kLc2 k) := (rfl)
theorem k_lc2 {k : List D → List D → R D} (h : ds.length < 16777216) : kLc2 k ds cs = k ds cs := if_pos h
theorem k_done : kDone ds cs = .ok (.lst ds) cs := (rfl)
theorem k_doneL (h : nrs ds = true) : kDoneL ds cs = .ok (.ref cs.length) (cs ++ [.lst ds]) := if_pos h
def kFrz (n : Nat) : D → List D → R D := fun d cs' => match d with
  | .ref i => if n ≤ i ∧ i + 1 = cs'.length then match cs'[i]? with
      | some (.lst l) => .ok (.lst l) (cs'.take i)
      | _ => .bad
    else .bad
  | d => .ok d cs'
theorem e_frz : mFrz m r cs = (m r cs).bind (kFrz cs.length) := (rfl)
theorem k_frz {l : List D} : kFrz cs.length (.ref cs.length) (cs ++ [.lst l]) = .ok (.lst l) cs := by
  unfold kFrz
  simp
theorem k_frzL {k : Nat} {l : List D} : kFrz k (.lst l) cs = .ok (.lst l) cs := (rfl)
/-! values -/
theorem e_C : mC d r cs = .ok d cs := (rfl)
theorem e_V {i : Nat} (h : r[i]? = some (some d)) : mV i r cs = .ok d cs := by
  unfold mV
  rw [h]
theorem e_V0 {a : List (Option D)} : mV 0 (some d :: a) cs = .ok d cs := (rfl)
theorem e_V1 {o : Option D} {a : List (Option D)} : mV 1 (o :: some d :: a) cs = .ok d cs := (rfl)
theorem e_V2 {o p : Option D} {a : List (Option D)} : mV 2 (o :: p :: some d :: a) cs = .ok d cs := (rfl)
theorem e_V3 {o p q : Option D} {a : List (Option D)} : mV 3 (o :: p :: q :: some d :: a) cs = .ok d cs := (rfl)
theorem e_V4 {o p q s : Option D} {a : List (Option D)} : mV 4 (o :: p :: q :: s :: some d :: a) cs = .ok d cs := (rfl)
theorem e_V5 {o p q s t : Option D} {a : List (Option D)} : mV 5 (o :: p :: q :: s :: t :: some d :: a) cs = .ok d cs := (rfl)
theorem e_V6 {o p q s t u : Option D} {a : List (Option D)} : mV 6 (o :: p :: q :: s :: t :: u :: some d :: a) cs = .ok d cs := (rfl)
theorem e_V7 {o p q s t u v : Option D} {a : List (Option D)} : mV 7 (o :: p :: q :: s :: t :: u :: v :: some d :: a) cs = .ok d cs := (rfl)
theorem e_V8 {o p q s t u v w : Option D} {a : List (Option D)} : mV 8 (o :: p :: q :: s :: t :: u :: v :: w :: some d :: a) cs = .ok d cs := (rfl)
theorem e_V9 {o p q s t u v w x : Option D} {a : List (Option D)} : mV 9 (o :: p :: q :: s :: t :: u :: v :: w :: x :: some d :: a) cs = .ok d cs := (rfl)
/-! operations on known kinds -/
section
variable {i j : Int} {z y : Str} {l k : List D}
theorem o_addI : addD (.int i) (.int j) cs = .ok (.int (i + j)) cs := (rfl)
theorem o_addS (h : z.length + y.length ≤ 16777216) : addD (.str z) (.str y) cs = .ok (.str (z ++ y)) cs := if_pos h
theorem o_addL (h : l.length + k.length ≤ 16777216) : addD (.lst l) (.lst k) cs = .ok (.lst (l ++ k)) cs := if_pos h
theorem o_sub : subD (.int i) (.int j) cs = .ok (.int (i - j)) cs := (rfl)
theorem o_mulI (h : mulI i j) : mulD (.int i) (.int j) cs = .ok (.int (i * j)) cs := if_pos h
theorem o_mulS (h : 0 ≤ i ∧ i < 2 ^ 24 ∧ z.length * i.toNat ≤ 16777216) : mulD (.str z) (.int i) cs = .ok (.str (strMul z i)) cs := if_pos h
theorem o_mulL (h : -(2 ^ 63) ≤ i ∧ i < 2 ^ 63 ∧ l.length * i.toNat ≤ 16777216) : mulD (.lst l) (.int i) cs = .ok (.lst (List.replicate i.toNat l).flatten) cs := if_pos h
theorem o_mod (h : j ≠ 0) : modD (.int i) (.int j) cs = .ok (.int (i.fmod j)) cs := if_pos h
theorem o_fdiv (h : j ≠ 0 ∧ j.natAbs < 1073741824) : fdivD (.int i) (.int j) cs = .ok (.int (i.fdiv j)) cs := if_pos h
theorem o_pow (h : 0 ≤ j ∧ j ≤ 1000000 ∧ i.natAbs < 2 ^ 64) : powD (.int i) (.int j) cs = .ok (.int (i ^ j.toNat)) cs := if_pos h
theorem o_neg : negD (.int i) cs = .ok (.int (-i)) cs := (rfl)
theorem o_ltI : ltD (.int i) (.int j) cs = .ok (.bl (decide (i < j))) cs := (rfl)
theorem o_ltS : ltD (.str z) (.str y) cs = .ok (.bl (decide (z.cps.toList < y.cps.toList))) cs := (rfl)
theorem o_leI : leD (.int i) (.int j) cs = .ok (.bl (decide (i ≤ j))) cs := (rfl)
theorem o_leS : leD (.str z) (.str y) cs = .ok (.bl (!decide (y.cps.toList < z.cps.toList))) cs := (rfl)
theorem o_gt : gtD (.int i) (.int j) cs = .ok (.bl (decide (j < i))) cs := (rfl)
theorem o_ge : geD (.int i) (.int j) cs = .ok (.bl (decide (j ≤ i))) cs := (rfl)
theorem o_eqI : eqD (.int i) (.int j) cs = .ok (.bl (decide (i = j))) cs := (rfl)
theorem o_eqS : eqD (.str z) (.str y) cs = .ok (.bl (decide (z = y))) cs := (rfl)
theorem o_eqB {a b : Bool} : eqD (.bl a) (.bl b) cs = .ok (.bl (decide (a = b))) cs := (rfl)
theorem o_neI : neD (.int i) (.int j) cs = .ok (.bl (!decide (i = j))) cs := (rfl)
theorem o_neS : neD (.str z) (.str y) cs = .ok (.bl (!decide (z = y))) cs := (rfl)
theorem o_isN : isND x .non cs = .ok (.bl (isNon x)) cs := (rfl)
theorem o_notN : notND x .non cs = .ok (.bl (!isNon x)) cs := (rfl)
theorem o_ixS {c : Nat} (h : z.length ≤ 16777216) (e : atI z.cps.toList i = some c) : ixD (.str z) (.int i) cs = .ok (.str ⟨#[c]⟩) cs := by
  unfold ixD
  simp only [sz, if_pos h, e]
theorem o_ixL (e : atI l i = some d) : ixD (.lst l) (.int i) cs = .ok d cs := by
  unfold ixD
  simp only [seqOf, lstOf, e]
theorem o_ixT (e : atI l i = some d) : ixD (.tup l) (.int i) cs = .ok d cs := by
  unfold ixD
  simp only [seqOf, e]
theorem o_ixR {n : Nat} (h : cs[n]? = some (.lst l)) (e : atI l i = some d) : ixD (.ref n) (.int i) cs = .ok d cs := by
  unfold ixD
  simp only [seqOf, lstOf, h, e]
theorem o_slS {lo hi : Option Int} (h : z.length ≤ 16777216) : slD (.str z) lo hi cs = .ok (.str (cutS z lo hi)) cs := if_pos h
theorem o_slL {lo hi : Option Int} : slD (.lst l) lo hi cs = .ok (.lst (cutD l lo hi)) cs := (rfl)
theorem o_lenS (h : z.length ≤ 16777216) : lenD [.str z] cs = .ok (.int z.length) cs := if_pos h
theorem o_lenL : lenD [.lst l] cs = .ok (.int l.length) cs := (rfl)
theorem o_lenT : lenD [.tup l] cs = .ok (.int l.length) cs := (rfl)
theorem o_lenR {n : Nat} (h : cs[n]? = some (.lst l)) : lenD [.ref n] cs = .ok (.int l.length) cs := by
  unfold lenD
  simp only [seqOf, lstOf, h]
theorem o_int : intD [.int i] cs = .ok (.int i) cs := (rfl)
theorem o_abs : absD [.int i] cs = .ok (.int (if i < 0 then -i else i)) cs := (rfl)
theorem o_min : minD [.int i, .int j] cs = .ok (.int (if j < i then j else i)) cs := (rfl)
theorem o_max : maxD [.int i, .int j] cs = .ok (.int (if j > i then j else i)) cs := (rfl)
theorem o_list : listD [.lst l] cs = .ok (.lst l) cs := (rfl)
theorem o_find3 : find3D (.str z) [.str y, .int i] cs = .ok (.int (Txt.find3 z y i)) cs := (rfl)
theorem o_join {ss : List Str} (h : (ss.map (·.length)).sum + ss.length * z.length ≤ 16777216) : joinD (.str z) [.lst (ss.map D.str)] cs = .ok (.str (Txt.join z ss)) cs := by
  unfold joinD
  simp only [seqOf, lstOf, strsOf_map, if_pos h]
theorem o_append {n : Nat} (hc : cs[n]? = some (.lst l)) (h : l.length < 16777216 ∧ nr d = true ∧ nrs l = true) : appendD (.ref n) [d] cs = .ok .non (cs.set n (.lst (l ++ [d]))) := by
  unfold appendD
  simp only [hc]
  exact if_pos h
theorem o_set {n j' : Nat} (hc : cs[n]? = some (.lst l)) (hj : ixN l.length i = some j') (hd : nr d = true) : setD (.ref n) (.int i) d cs = some (cs.set n (.lst (l.set j' d))) := by
  unfold setD
  simp only [hc, hj, if_pos hd]
theorem t_str : tyD "str" (.str z) cs = true := (rfl)
theorem t_ref {n : Nat} (h : cs[n]? = some (.lst l)) : tyD "list" (.ref n) cs = true := by
  unfold tyD
  simp only [h]
  rfl
theorem atI_nat {α : Type} {l : List α} {n : Nat} {a : α} (h : l[n]? = some a) : atI l (n : Int) = some a := by
  unfold atI ixN
  have hl := (List.getElem?_eq_some_iff.mp h).1
  rw [if_pos (by omega), if_pos (by omega)]
  show l[(n : Int).toNat]? = some a
  rw [Int.toNat_natCast]
  exact h
theorem ixN_nat {m n : Nat} (h : n < m) : ixN m (n : Int) = some n := by
  unfold ixN
  rw [if_pos (by omega), if_pos (by omega), Int.toNat_natCast]
end
/-! a def's end, by kinds -/
section
variable {n : Nat} {i : Int} {b : Bool} {z : Str} {l : List D} {e : Env}
theorem f_int : finR n (.ok (.ret (.int i)) cs) = .ok (.int i) (cs.take n) := (rfl)
theorem f_bl : finR n (.ok (.ret (.bl b)) cs) = .ok (.bl b) (cs.take n) := (rfl)
theorem f_str : finR n (.ok (.ret (.str z)) cs) = .ok (.str z) (cs.take n) := (rfl)
theorem f_non : finR n (.ok (.ret .non) cs) = .ok .non (cs.take n) := (rfl)
theorem f_nx : finR n (.ok (.nx e) cs) = .ok .non (cs.take n) := (rfl)
theorem f_nr (h : nr d = true) : finR n (.ok (.ret d) cs) = .ok d (cs.take n) := out_nr h
theorem f_new {c : D} : finR cs.length (.ok (.ret (.ref cs.length)) (cs ++ [c])) = .ok (.ref cs.length) (cs ++ [c]) := by
  show outR cs.length (.ref cs.length) (cs ++ [c]) = _
  rw [out_ref (c := c) (Nat.le_refl _) (by simp)]
  simp
theorem take_self : cs.take cs.length = cs := List.take_length
theorem take_app {es : List D} : (cs ++ es).take cs.length = cs := by simp
end
/-! ### cuts of texts -/
theorem cutS_list (z : Str) (lo hi : Option Int) : (cutS z lo hi).cps.toList = (z.cps.toList.drop (HT.sIx z.length 0 lo)).take (HT.sIx z.length z.length hi - HT.sIx z.length 0 lo) := by
  unfold cutS
  rw [List.toList_toArray]
theorem str_ext {x y : Str} (h : x.cps.toList = y.cps.toList) : x = y := by
  cases x with
  | mk a =>
    cases y with
    | mk b =>
      have : a = b := Array.toList_inj.mp h
      rw [this]
theorem str_len (z : Str) : z.length = z.cps.toList.length := (rfl)
theorem cut_at {w p : Str} {i : Nat} (h : i + p.length ≤ w.length) : decide (cutS w (some (i : Int)) (some ((i : Int) + (p.length : Int))) = p) = At w p i := by
  have e : cutS w (some (i : Int)) (some ((i : Int) + (p.length : Int))) = p ↔ Builtin.Str.subAt w p i = true := by
    rw [StrLaws.subAt_eq, beq_iff_eq]
    have e2 : (i : Int) + (p.length : Int) = ((i + p.length : Nat) : Int) := by omega
    have e1 : (cutS w (some (i : Int)) (some ((i : Int) + (p.length : Int)))).cps.toList = (w.cps.toList.drop i).take p.length := by
      rw [cutS_list, e2, HT.sIx_nat, HT.sIx_nat, Nat.min_eq_left (by omega), Nat.min_eq_left (by omega)]
      congr 1
      omega
    constructor
    · intro z
      rw [← e1, z]
    · intro z
      exact str_ext (e1.trans z)
  unfold At
  rw [decide_eq_true h, Bool.true_and]
  by_cases z : Builtin.Str.subAt w p i = true
  · rw [z, decide_eq_true (e.mpr z)]
  · rw [decide_eq_false fun q => z (e.mp q)]
    exact (Bool.eq_false_iff.mpr z).symm
theorem At_le {w p : Str} {i : Nat} (h : At w p i = true) : i + p.length ≤ w.length := by
  unfold At at h
  rw [Bool.and_eq_true, decide_eq_true_eq] at h
  exact h.1
theorem At_no {w p : Str} {i : Nat} (h : ¬ i + p.length ≤ w.length) : At w p i = false := by
  unfold At
  rw [decide_eq_false h]
  rfl
theorem filter_step {p : Nat → Bool} {lo k : Nat} (hl : lo ≤ k) (hn : ∀ j, lo ≤ j → j < k → p j = false) (hk : p k = true) : (List.range (k + 1)).filter p = (List.range lo).filter p ++ [k] := by
  rw [List.range_succ, List.filter_append, List.filter_cons_of_pos hk, List.filter_nil]
  congr 1
  obtain ⟨d, rfl⟩ : ∃ d, k = lo + d := ⟨k - lo, by omega⟩
  clear hk hl
  induction d with
  | zero => rfl
  | succ d ih =>
    rw [← Nat.add_assoc, List.range_succ, List.filter_append, ih fun j h1 h2 => hn j h1 (by omega)]
    rw [List.filter_cons_of_neg (by rw [hn (lo + d) (by omega) (by omega)]; exact Bool.false_ne_true)]
    simp
theorem filter_rest {p : Nat → Bool} {lo n : Nat} (hl : lo ≤ n) (hn : ∀ j, lo ≤ j → j < n → p j = false) : (List.range n).filter p = (List.range lo).filter p := by
  obtain ⟨d, rfl⟩ : ∃ d, n = lo + d := ⟨n - lo, by omega⟩
  clear hl
  induction d with
  | zero => rfl
  | succ d ih =>
    rw [← Nat.add_assoc, List.range_succ, List.filter_append, ih fun j h1 h2 => hn j h1 (by omega)]
    rw [List.filter_cons_of_neg (by rw [hn (lo + d) (by omega) (by omega)]; exact Bool.false_ne_true)]
    simp
/-! the last cell -/
theorem t_last {l : List D} : tyD "list" (.ref cs.length) (cs ++ [.lst l]) = true := t_ref (l := l) (by simp)
theorem o_appendA {l : List D} (h : l.length < 16777216 ∧ nr d = true ∧ nrs l = true) : appendD (.ref cs.length) [d] (cs ++ [.lst l]) = .ok .non (cs ++ [.lst (l ++ [d])]) := by
  rw [o_append (l := l) (by simp) h]
  simp
theorem o_lenA {l : List D} : lenD [.ref cs.length] (cs ++ [.lst l]) = .ok (.int l.length) (cs ++ [.lst l]) := o_lenR (l := l) (by simp)
theorem nrs_map {α : Type} {l : List α} {f : α → D} (h : ∀ a, nr (f a) = true) : nrs (l.map f) = true := by
  rw [nrs_all, List.all_eq_true]
  intro d hd
  obtain ⟨a, _, rfl⟩ := List.mem_map.mp hd
  exact h a
/-! isinstance -/
section
variable {i : Int} {bb : Bool} {z : Str} {l : List D} {k : Nat}
theorem i_non_bool : isiD [D.non, .ty "bool"] cs = .ok (.bl false) cs := by
  have e : isT "NoneType" "bool" = some false := by decide +kernel
  unfold isiD
  simp only [tyN, e]
theorem i_non_int : isiD [D.non, .ty "int"] cs = .ok (.bl false) cs := by
  have e : isT "NoneType" "int" = some false := by decide +kernel
  unfold isiD
  simp only [tyN, e]
theorem i_non_str : isiD [D.non, .ty "str"] cs = .ok (.bl false) cs := by
  have e : isT "NoneType" "str" = some false := by decide +kernel
  unfold isiD
  simp only [tyN, e]
theorem i_non_tuple : isiD [D.non, .ty "tuple"] cs = .ok (.bl false) cs := by
  have e : isT "NoneType" "tuple" = some false := by decide +kernel
  unfold isiD
  simp only [tyN, e]
theorem i_non_list : isiD [D.non, .ty "list"] cs = .ok (.bl false) cs := by
  have e : isT "NoneType" "list" = some false := by decide +kernel
  unfold isiD
  simp only [tyN, e]
theorem i_bl_bool : isiD [(.bl bb), .ty "bool"] cs = .ok (.bl true) cs := by
  have e : isT "bool" "bool" = some true := by decide +kernel
  unfold isiD
  simp only [tyN, e]
theorem i_bl_int : isiD [(.bl bb), .ty "int"] cs = .ok (.bl true) cs := by
  have e : isT "bool" "int" = some true := by decide +kernel
  unfold isiD
  simp only [tyN, e]
theorem i_bl_str : isiD [(.bl bb), .ty "str"] cs = .ok (.bl false) cs := by
  have e : isT "bool" "str" = some false := by decide +kernel
  unfold isiD
  simp only [tyN, e]
theorem i_bl_tuple : isiD [(.bl bb), .ty "tuple"] cs = .ok (.bl false) cs := by
  have e : isT "bool" "tuple" = some false := by decide +kernel
  unfold isiD
  simp only [tyN, e]
theorem i_bl_list : isiD [(.bl bb), .ty "list"] cs = .ok (.bl false) cs := by
  have e : isT "bool" "list" = some false := by decide +kernel
  unfold isiD
  simp only [tyN, e]
theorem i_int_bool : isiD [(.int i), .ty "bool"] cs = .ok (.bl false) cs := by
  have e : isT "int" "bool" = some false := by decide +kernel
  unfold isiD
  simp only [tyN, e]
theorem i_int_int : isiD [(.int i), .ty "int"] cs = .ok (.bl true) cs := by
  have e : isT "int" "int" = some true := by decide +kernel
  unfold isiD
  simp only [tyN, e]
theorem i_int_str : isiD [(.int i), .ty "str"] cs = .ok (.bl false) cs := by
  have e : isT "int" "str" = some false := by decide +kernel
  unfold isiD
  simp only [tyN, e]
theorem i_int_tuple : isiD [(.int i), .ty "tuple"] cs = .ok (.bl false) cs := by
  have e : isT "int" "tuple" = some false := by decide +kernel
  unfold isiD
  simp only [tyN, e]
theorem i_int_list : isiD [(.int i), .ty "list"] cs = .ok (.bl false) cs := by
  have e : isT "int" "list" = some false := by decide +kernel
  unfold isiD
  simp only [tyN, e]
theorem i_str_bool : isiD [(.str z), .ty "bool"] cs = .ok (.bl false) cs := by
  have e : isT "str" "bool" = some false := by decide +kernel
  unfold isiD
  simp only [tyN, e]
theorem i_str_int : isiD [(.str z), .ty "int"] cs = .ok (.bl false) cs := by
  have e : isT "str" "int" = some false := by decide +kernel
  unfold isiD
  simp only [tyN, e]
theorem i_str_str : isiD [(.str z), .ty "str"] cs = .ok (.bl true) cs := by
  have e : isT "str" "str" = some true := by decide +kernel
  unfold isiD
  simp only [tyN, e]
theorem i_str_tuple : isiD [(.str z), .ty "tuple"] cs = .ok (.bl false) cs := by
  have e : isT "str" "tuple" = some false := by decide +kernel
  unfold isiD
  simp only [tyN, e]
theorem i_str_list : isiD [(.str z), .ty "list"] cs = .ok (.bl false) cs := by
  have e : isT "str" "list" = some false := by decide +kernel
  unfold isiD
  simp only [tyN, e]
theorem i_lst_bool : isiD [(.lst l), .ty "bool"] cs = .ok (.bl false) cs := by
  have e : isT "list" "bool" = some false := by decide +kernel
  unfold isiD
  simp only [tyN, e]
theorem i_lst_int : isiD [(.lst l), .ty "int"] cs = .ok (.bl false) cs := by
  have e : isT "list" "int" = some false := by decide +kernel
  unfold isiD
  simp only [tyN, e]
theorem i_lst_str : isiD [(.lst l), .ty "str"] cs = .ok (.bl false) cs := by
  have e : isT "list" "str" = some false := by decide +kernel
  unfold isiD
  simp only [tyN, e]
theorem i_lst_tuple : isiD [(.lst l), .ty "tuple"] cs = .ok (.bl false) cs := by
  have e : isT "list" "tuple" = some false := by decide +kernel
  unfold isiD
  simp only [tyN, e]
theorem i_lst_list : isiD [(.lst l), .ty "list"] cs = .ok (.bl true) cs := by
  have e : isT "list" "list" = some true := by decide +kernel
  unfold isiD
  simp only [tyN, e]
theorem i_tup_bool : isiD [(.tup l), .ty "bool"] cs = .ok (.bl false) cs := by
  have e : isT "tuple" "bool" = some false := by decide +kernel
  unfold isiD
  simp only [tyN, e]
theorem i_tup_int : isiD [(.tup l), .ty "int"] cs = .ok (.bl false) cs := by
  have e : isT "tuple" "int" = some false := by decide +kernel
  unfold isiD
  simp only [tyN, e]
theorem i_tup_str : isiD [(.tup l), .ty "str"] cs = .ok (.bl false) cs := by
  have e : isT "tuple" "str" = some false := by decide +kernel
  unfold isiD
  simp only [tyN, e]
theorem i_tup_tuple : isiD [(.tup l), .ty "tuple"] cs = .ok (.bl true) cs := by
  have e : isT "tuple" "tuple" = some true := by decide +kernel
  unfold isiD
  simp only [tyN, e]
theorem i_tup_list : isiD [(.tup l), .ty "list"] cs = .ok (.bl false) cs := by
  have e : isT "tuple" "list" = some false := by decide +kernel
  unfold isiD
  simp only [tyN, e]
theorem i_ref_bool (h : cs[k]? = some (.lst l)) : isiD [.ref k, .ty "bool"] cs = .ok (.bl false) cs := by
  have e : isT "list" "bool" = some false := by decide +kernel
  unfold isiD
  simp only [tyN, h, e]
theorem i_ref_int (h : cs[k]? = some (.lst l)) : isiD [.ref k, .ty "int"] cs = .ok (.bl false) cs := by
  have e : isT "list" "int" = some false := by decide +kernel
  unfold isiD
  simp only [tyN, h, e]
theorem i_ref_str (h : cs[k]? = some (.lst l)) : isiD [.ref k, .ty "str"] cs = .ok (.bl false) cs := by
  have e : isT "list" "str" = some false := by decide +kernel
  unfold isiD
  simp only [tyN, h, e]
theorem i_ref_tuple (h : cs[k]? = some (.lst l)) : isiD [.ref k, .ty "tuple"] cs = .ok (.bl false) cs := by
  have e : isT "list" "tuple" = some false := by decide +kernel
  unfold isiD
  simp only [tyN, h, e]
theorem i_ref_list (h : cs[k]? = some (.lst l)) : isiD [.ref k, .ty "list"] cs = .ok (.bl true) cs := by
  have e : isT "list" "list" = some true := by decide +kernel
  unfold isiD
  simp only [tyN, h, e]
end
/-- plain data, at most n deep -/
def deep : Nat → D → Prop
  | 0, _ => False
  | n + 1, d => match d with
    | .non => True
    | .bl _ => True
    | .int _ => True
    | .str _ => True
    | .lst l => l.length < 16777216 ∧ ∀ x ∈ l, deep n x
    | .tup l => l.length < 16777216 ∧ ∀ x ∈ l, deep n x
    | _ => False
/-! the store of draws: the first cell, six items -/
section
variable {a0 a1 a2 a3 a4 a5 : D} {rest : List D} {v : Int}
theorem st_get0 : ixD (.ref 0) (.int 0) (.lst [a0, a1, a2, a3, a4, a5] :: rest) = .ok a0 (.lst [a0, a1, a2, a3, a4, a5] :: rest) := (rfl)
theorem st_get1 : ixD (.ref 0) (.int 1) (.lst [a0, a1, a2, a3, a4, a5] :: rest) = .ok a1 (.lst [a0, a1, a2, a3, a4, a5] :: rest) := (rfl)
theorem st_set1 : setD (.ref 0) (.int 1) (.int v) (.lst [a0, a1, a2, a3, a4, a5] :: rest) = some (.lst [a0, .int v, a2, a3, a4, a5] :: rest) := (rfl)
theorem st_sub1 {r : Env} : kSub3 setD r (.int v) (.ref 0) (.int 1) (.lst [a0, a1, a2, a3, a4, a5] :: rest) = .ok (.nx r) (.lst [a0, .int v, a2, a3, a4, a5] :: rest) := (rfl)
theorem st_get2 : ixD (.ref 0) (.int 2) (.lst [a0, a1, a2, a3, a4, a5] :: rest) = .ok a2 (.lst [a0, a1, a2, a3, a4, a5] :: rest) := (rfl)
theorem st_set2 : setD (.ref 0) (.int 2) (.int v) (.lst [a0, a1, a2, a3, a4, a5] :: rest) = some (.lst [a0, a1, .int v, a3, a4, a5] :: rest) := (rfl)
theorem st_sub2 {r : Env} : kSub3 setD r (.int v) (.ref 0) (.int 2) (.lst [a0, a1, a2, a3, a4, a5] :: rest) = .ok (.nx r) (.lst [a0, a1, .int v, a3, a4, a5] :: rest) := (rfl)
theorem st_get3 : ixD (.ref 0) (.int 3) (.lst [a0, a1, a2, a3, a4, a5] :: rest) = .ok a3 (.lst [a0, a1, a2, a3, a4, a5] :: rest) := (rfl)
theorem st_set3 : setD (.ref 0) (.int 3) (.int v) (.lst [a0, a1, a2, a3, a4, a5] :: rest) = some (.lst [a0, a1, a2, .int v, a4, a5] :: rest) := (rfl)
theorem st_sub3 {r : Env} : kSub3 setD r (.int v) (.ref 0) (.int 3) (.lst [a0, a1, a2, a3, a4, a5] :: rest) = .ok (.nx r) (.lst [a0, a1, a2, .int v, a4, a5] :: rest) := (rfl)
theorem st_get4 : ixD (.ref 0) (.int 4) (.lst [a0, a1, a2, a3, a4, a5] :: rest) = .ok a4 (.lst [a0, a1, a2, a3, a4, a5] :: rest) := (rfl)
theorem st_set4 : setD (.ref 0) (.int 4) (.int v) (.lst [a0, a1, a2, a3, a4, a5] :: rest) = some (.lst [a0, a1, a2, a3, .int v, a5] :: rest) := (rfl)
theorem st_sub4 {r : Env} : kSub3 setD r (.int v) (.ref 0) (.int 4) (.lst [a0, a1, a2, a3, a4, a5] :: rest) = .ok (.nx r) (.lst [a0, a1, a2, a3, .int v, a5] :: rest) := (rfl)
theorem st_get5 : ixD (.ref 0) (.int 5) (.lst [a0, a1, a2, a3, a4, a5] :: rest) = .ok a5 (.lst [a0, a1, a2, a3, a4, a5] :: rest) := (rfl)
theorem st_set5 : setD (.ref 0) (.int 5) (.int v) (.lst [a0, a1, a2, a3, a4, a5] :: rest) = some (.lst [a0, a1, a2, a3, a4, .int v] :: rest) := (rfl)
theorem st_sub5 {r : Env} : kSub3 setD r (.int v) (.ref 0) (.int 5) (.lst [a0, a1, a2, a3, a4, a5] :: rest) = .ok (.nx r) (.lst [a0, a1, a2, a3, a4, .int v] :: rest) := (rfl)
end
/-- the store is in order -/
def StOk (c : D) : Prop := ∃ (ns : List Int) (p : Nat) (a b sd t : Int), c = .lst [.lst (ns.map .int), .int p, .int a, .int b, .int sd, .int t] ∧ p ≤ ns.length ∧ ns.length ≤ 1000 ∧ 0 ≤ a
theorem mulI_r {i j : Int} (h : -(18446744073709551616) < j ∧ j < 18446744073709551616) : mulI i j := .inr (by
  have e : (2 : Int) ^ 64 = 18446744073709551616 := by decide +kernel
  rw [e]
  exact h)
theorem fmod_in {i j : Int} (h : 0 < j) : 0 ≤ i.fmod j ∧ i.fmod j < j := ⟨Int.fmod_nonneg_of_pos i h, Int.fmod_lt_of_pos i h⟩
theorem fdiv_nn {i j : Int} (h : 0 ≤ i) (hj : 0 ≤ j) : 0 ≤ i.fdiv j := Int.fdiv_nonneg h hj
/-! the last cell behind the store -/
section
variable {c0 : D} {rest l : List D}
theorem t_last1 : tyD "list" (.ref (rest.length + 1)) (c0 :: (rest ++ [.lst l])) = true := t_ref (l := l) (by simp)
theorem o_appendA1 (h : l.length < 16777216 ∧ nr d = true ∧ nrs l = true) : appendD (.ref (rest.length + 1)) [d] (c0 :: (rest ++ [.lst l])) = .ok .non (c0 :: (rest ++ [.lst (l ++ [d])])) := by
  rw [o_append (l := l) (by simp) h]
  simp
theorem o_lenA1 : lenD [.ref (rest.length + 1)] (c0 :: (rest ++ [.lst l])) = .ok (.int l.length) (c0 :: (rest ++ [.lst l])) := o_lenR (l := l) (by simp)
theorem f_new1 : finR (rest.length + 1) (.ok (.ret (.ref (rest.length + 1))) (c0 :: (rest ++ [.lst l]))) = .ok (.ref (rest.length + 1)) (c0 :: (rest ++ [.lst l])) := by
  show outR (rest.length + 1) (.ref (rest.length + 1)) (c0 :: (rest ++ [.lst l])) = _
  rw [out_ref (c := .lst l) (Nat.le_refl _) (by simp)]
  simp
theorem k_frz1 : kFrz (rest.length + 1) (.ref (rest.length + 1)) (c0 :: (rest ++ [.lst l])) = .ok (.lst l) (c0 :: rest) := by
  unfold kFrz
  simp
theorem t_last2 : tyD "list" (.ref 1) [c0, .lst l] = true := t_ref (l := l) (by simp)
theorem o_appendA2 (h : l.length < 16777216 ∧ nr d = true ∧ nrs l = true) : appendD (.ref 1) [d] [c0, .lst l] = .ok .non [c0, .lst (l ++ [d])] := by
  rw [o_append (l := l) (by simp) h]
  simp
theorem o_lenA2 : lenD [.ref 1] [c0, .lst l] = .ok (.int l.length) [c0, .lst l] := o_lenR (l := l) (by simp)
theorem f_new2 : finR 1 (.ok (.ret (.ref 1)) [c0, .lst l]) = .ok (.ref 1) [c0, .lst l] := by
  show outR 1 (.ref 1) [c0, .lst l] = _
  rw [out_ref (c := .lst l) (Nat.le_refl _) (by simp)]
  simp
theorem k_frz2 : kFrz 1 (.ref 1) [c0, .lst l] = .ok (.lst l) [c0] := by
  unfold kFrz
  simp
theorem k_frzS {k : Nat} {z : Str} : kFrz k (.str z) cs = .ok (.str z) cs := (rfl)
theorem k_frzI {k : Nat} {z : Int} : kFrz k (.int z) cs = .ok (.int z) cs := (rfl)
theorem k_frzT {k : Nat} : kFrz k (.tup l) cs = .ok (.tup l) cs := (rfl)
end
/-! lengths of texts, cuts of lists -/
theorem len_app (x y : Str) : (x ++ y).length = x.length + y.length := by
  show (x.cps ++ y.cps).size = _
  rw [Array.size_append]
  rfl
theorem cutS_le (z : Str) (lo hi : Option Int) : (cutS z lo hi).length ≤ z.length := by
  rw [str_len, cutS_list, List.length_take, List.length_drop]
  have := str_len z
  omega
theorem cutS_to (z : Str) (n : Nat) : (cutS z none (some (n : Int))).length ≤ n := by
  rw [str_len, cutS_list, List.length_take, HT.sIx_nat, HT.sIx_none]
  omega
theorem cutS_from (z : Str) (n : Nat) : (cutS z (some (n : Int)) none).length ≤ z.length - n := by
  rw [str_len, cutS_list, List.length_take, HT.sIx_nat, HT.sIx_none, List.length_drop]
  have := str_len z
  omega
theorem cutD_to (l : List D) (n : Nat) : cutD l none (some (n : Int)) = l.take n := by
  unfold cutD
  rw [HT.sIx_nat, HT.sIx_none, List.drop_zero, Nat.sub_zero]
  by_cases h : n ≤ l.length
  · rw [Nat.min_eq_left h]
  · rw [Nat.min_eq_right (by omega), List.take_of_length_le (Nat.le_refl _), List.take_of_length_le (by omega)]
theorem cutD_from (l : List D) (n : Nat) : cutD l (some (n : Int)) none = l.drop n := by
  unfold cutD
  rw [HT.sIx_nat, HT.sIx_none]
  by_cases h : n ≤ l.length
  · rw [Nat.min_eq_left h, List.take_of_length_le (by rw [List.length_drop]; exact Nat.le_refl _)]
  · rw [Nat.min_eq_right (by omega), List.drop_of_length_le (Nat.le_refl _), List.drop_of_length_le (by omega)]
    simp
theorem sjoin_len : ∀ ss : List Str, (Str.join Str.empty ss).length = (ss.map (·.length)).sum
  | [] => rfl
  | [x] => by
    show x.length = x.length + 0
    omega
  | x :: y :: ss => by
    have ih := sjoin_len (y :: ss)
    show (x ++ Str.empty ++ Str.join Str.empty (y :: ss)).length = _
    rw [len_app, len_app, ih]
    rfl
theorem join_len (ss : List Str) : (Txt.join Str.empty ss).length = (ss.map (·.length)).sum := by
  rw [TL.join_eq]
  exact sjoin_len ss
theorem mul_len (z : Str) (n : Nat) : (strMul z (n : Int)).length = z.length * n := by
  unfold strMul Txt.mul
  by_cases h : (n : Int) < 1
  · rw [if_pos h]
    have : n = 0 := by omega
    subst this
    rfl
  · rw [if_neg h]
    by_cases h2 : ((n : Int) == 1 || z.length == 0) = true
    · rw [if_pos h2]
      rw [Bool.or_eq_true, beq_iff_eq, beq_iff_eq] at h2
      rcases h2 with h2 | h2
      · have : n = 1 := by omega
        subst this
        omega
      · rw [h2, Nat.zero_mul]
    · rw [if_neg h2, Int.toNat_natCast]
      show ((List.replicate n z.cps).foldl (· ++ ·) #[]).size = z.cps.size * n
      have aux : ∀ (k : Nat) (a : Array Nat), ((List.replicate k z.cps).foldl (· ++ ·) a).size = a.size + z.cps.size * k := by
        intro k
        induction k with
        | zero => intro a; rfl
        | succ k ih =>
          intro a
          rw [List.replicate_succ, List.foldl_cons, ih, Array.size_append, Nat.mul_succ]
          omega
      rw [aux n #[]]
      simp
/-- turns that draw -/
theorem map_draws {f : D → List D → R (Option D)} {rest : List D} (G : D → Prop) {ds : List D} (h : ∀ d ∈ ds, ∀ c, StOk c → ∃ y c', f d (c :: rest) = .ok (some y) (c' :: rest) ∧ StOk c' ∧ G y) :
    ∀ c, StOk c → ∃ ys c', mapR f ds (c :: rest) = .ok ys (c' :: rest) ∧ StOk c' ∧ ys.length = ds.length ∧ ∀ y ∈ ys, G y := by
  induction ds with
  | nil => exact fun c hc => ⟨[], c, (rfl), hc, rfl, fun y hy => by cases hy⟩
  | cons d ds ih =>
    intro c hc
    obtain ⟨y, c1, e1, h1, g1⟩ := h d (List.mem_cons_self ..) c hc
    obtain ⟨ys, c2, e2, h2, l2, g2⟩ := ih (fun e he => h e (List.mem_cons_of_mem _ he)) c1 h1
    refine ⟨y :: ys, c2, ?_, h2, by rw [List.length_cons, List.length_cons, l2], fun z hz => ?_⟩
    · unfold mapR
      rw [e1, R.bind_ok, e2, R.bind_ok]
      rfl
    · rcases List.mem_cons.mp hz with hz | hz
      · rw [hz]
        exact g1
      · exact g2 z hz
theorem strs_of {l : List D} (P : Str → Prop) : (∀ d ∈ l, ∃ z, d = .str z ∧ P z) → ∃ ss : List Str, l = ss.map D.str ∧ ∀ z ∈ ss, P z := by
  induction l with
  | nil => exact fun _ => ⟨[], rfl, fun z hz => by cases hz⟩
  | cons d l ih =>
    intro h
    obtain ⟨z, rfl, hz⟩ := h d (List.mem_cons_self ..)
    obtain ⟨ss, rfl, hs⟩ := ih fun e he => h e (List.mem_cons_of_mem _ he)
    refine ⟨z :: ss, rfl, fun y hy => ?_⟩
    rcases List.mem_cons.mp hy with hy | hy
    · rw [hy]
      exact hz
    · exact hs y hy
theorem sum_ones : ∀ {ss : List Str}, (∀ z ∈ ss, z.length = 1) → (ss.map (·.length)).sum = ss.length
  | [], _ => rfl
  | z :: ss, h => by
    rw [List.map_cons, List.sum_cons, sum_ones fun y hy => h y (List.mem_cons_of_mem _ hy), h z (List.mem_cons_self ..), List.length_cons]
    omega
/-! small things -/
theorem n_cons : nrs (d :: ds) = (nr d && nrs ds) := (rfl)
theorem n_nil : nrs [] = true := (rfl)
theorem n_str {z : Str} : nr (.str z) = true := (rfl)
theorem n_int {i : Int} : nr (.int i) = true := (rfl)
theorem n_bl {b : Bool} : nr (.bl b) = true := (rfl)
theorem n_lst {l : List D} : nr (.lst l) = nrs l := (rfl)
theorem n_tup {l : List D} : nr (.tup l) = nrs l := (rfl)
theorem of_empty : Str.ofString "" = Str.empty := by decide +kernel
theorem pick01 {α : Type} {a b : α} : pick [0, 1] [a, b] = [a, b] := (rfl)
theorem pick10 {α : Type} {a b : α} : pick [1, 0] [a, b] = [b, a] := (rfl)
theorem len_empty : Str.length Str.empty = 0 := (rfl)
theorem s_setA1 {r : Env} {c0 : D} {rest l : List D} {v : Int} (h : 0 < l.length) : kSub3 setD r (.int v) (.ref (rest.length + 1)) (.int 0) (c0 :: (rest ++ [.lst l])) = .ok (.nx r) (c0 :: (rest ++ [.lst (l.set 0 (.int v))])) := by
  rw [k_sub3 (o_set (l := l) (j' := 0) (by simp) (show ixN l.length 0 = some 0 from ixN_nat (n := 0) h) (rfl))]
  simp
theorem len_one {c : Nat} : Str.length (Str.mk #[c]) = 1 := (rfl)
theorem o_listR {n : Nat} {l : List D} (h : cs[n]? = some (.lst l)) : listD [.ref n] cs = .ok (.lst l) cs := by
  unfold listD
  simp only [seqOf, lstOf, h]
theorem take_lft {l k : List D} : (l ++ k).take l.length = l := by simp
theorem get_lst1 {c0 : D} {rest l : List D} {d : D} : (c0 :: (rest ++ d :: l))[rest.length + 1]? = some d := by simp
theorem get_lst2 {c0 : D} {rest l : List D} {d : D} : (c0 :: (rest ++ [d] ++ l))[rest.length + 1]? = some d := by simp
theorem f_new0 {l : List D} : finR 0 (.ok (.ret (.ref 0)) [.lst l]) = .ok (.ref 0) [.lst l] := by
  show outR 0 (.ref 0) [.lst l] = _
  rw [out_ref (c := .lst l) (Nat.le_refl _) (by simp)]
  simp
end Wf
set_option Elab.async false
set_option linter.all false
set_option maxRecDepth 100000
set_option maxHeartbeats 1000000
/-! Readings by mirrors: exceptions. -/
namespace Wf
open PySem PySem.Spec PyProof.Rows L2
section
variable {X : Cx} {W : WX} {K : PySem.W.Frag} {e : Expr} {es : List Expr} {ml : ML} {pos : Pos} {ms : MS} {x : Str} {p : Pos}
/-! ### raise C(..) -/
def mRaise0 (C : Addr) : MS := fun r cs => .err (.ins C [] []) r cs
def mRaiseA (C : Addr) (ml : ML) : MS := fun r cs => (ml r cs).bind fun ds cs => if ds.length ≤ 1000 then .err (.ins C [] []) r cs else .bad
theorem pmk_own0 {C : Addr} {bmB : List Value} {B newId initId : String} (F : ExcBaseFacts B newId initId bmB) (q : PySem.W.excIn X.K C bmB newId = true) (gC : X.mg x = some (.ref C)) (kC : PySem.W.keepIn X.K (.ref C) = true) (r : Raises X (.ref C)) (hg : Gl X x)
    (hdb : (x == ("__debug__" : Str)) = false := by decide) : PMk X (.Call (.Name x p) [] [] pos) (fun _ H Q => Q (.ref C) none H) := by
  intro pins s σ H Q I h
  refine wpAny_Call_Name_kw (ld_glob I hg gC ?_ hdb)
  refine PySem.W.callWith_K0 I.kIn kC ?_
  obtain ⟨bm, N, nm, qn, bs, hdct, sn, sub, ab, col, dd, k0, k1, k2, k3, k5, mN, hC, hN, hni, T⟩ := exc_obj I.kIn q
  refine wpAny_call_exc_subT F T hC hN hni (fun h' e hm => ?_) (Nat.zero_le _)
  exact mk_of I hm r h (I.hok.gone hm.new)
/-- what the class C of an exception must say -/
structure Xc (K : PySem.W.Frag) (C : Addr) : Prop where
  ke : PySem.W.keepIn K (.ref C) = true
  sb : PySem.W.subIn K (.ref C) (.type "BaseException") = some true
  tp : PySem.W.typeIn K (.ref C) = some (.type "type")
theorem js_raise0 {C : Addr} {bmB : List Value} {B newId initId : String} (hc : X.calm = true) (tk : Takes X W) (F : ExcBaseFacts B newId initId bmB) (q : PySem.W.excIn X.K C bmB newId = true) (T : Xc X.K C) (gC : X.mg x = some (.ref C)) (hg : Gl X x)
    (hdb : (x == ("__debug__" : Str)) = false := by decide) {pos' : Pos} : JS X W (.Raise (some (.Call (.Name x p) [] [] pos)) none pos') (mRaise0 C) := by
  refine psI (ps_raise hc tk (pmk_own0 F q gC T.ke (raises_own T.sb T.tp) hg hdb)) fun D σ H ⟨w, rr, cs, e, s, ev, a⟩ => ?_
  subst e
  exact a w (.ref C) none (Le.refl w) s ⟨rfl, .inl ⟨rfl, rfl, rfl⟩⟩ σ ev
theorem js_raiseA {C : Addr} {bmB : List Value} {B newId initId : String} (hc : X.calm = true) (tk : Takes X W) (F : ExcBaseFacts B newId initId bmB) (q : PySem.W.excIn X.K C bmB newId = true) (T : Xc X.K C) (gC : X.mg x = some (.ref C)) (hg : Gl X x)
    (ha : JA X W (e :: es) ml)
    (hdb : (x == ("__debug__" : Str)) = false := by decide) (he : starEach (e :: es) X.env = (false, eval e X.env) :: starEach es X.env := by rfl) (hpl : (backTo pos (starEach es X.env)).any (·.1) = false := by rfl) {pos' : Pos} :
    JS X W (.Raise (some (.Call (.Name x p) (e :: es) [] pos)) none pos') (mRaiseA C ml) := by
  refine psI (ps_raise hc tk (pmk_ownA F q gC T.ke (raises_own T.sb T.tp) hg ha hdb he hpl)) fun D σ H ⟨w, rr, cs, e, s, ev, a⟩ => ?_
  refine ⟨w, rr, cs, e, s, ev, (After.bind a).imp fun ds cs1 w1 l1 s1 a1 vs r1 => ?_⟩
  obtain ⟨hl, a1⟩ := if_bad a1
  refine ⟨?_, ?_⟩
  · rw [← Reps.length _ r1, sizeLine_eq]
    omega
  · exact a1 w1 (.ref C) none (Le.refl w1) s1 ⟨rfl, .inl ⟨rfl, rfl, rfl⟩⟩ σ (ev.mono l1)

/-! ### own __init__: self.f = f, .. -/
inductive Ini (X : Cx) (C : Addr) : List Stmt → List (Str × Nat) → Prop where
  | nil : Ini X C [] []
  | cons {st : Stmt} {sts : List Stmt} {f : Str} {i : Nat} {L : List (Str × Nat)} : PS X st (tOst X.K f (tVar 0) (tVar i)) → PySem.W.findIn X.K (.ref C) f = some none → Ini X C sts L → Ini X C (st :: sts) ((f, i) :: L)
inductive Vls (σ : L2.St) : List (Str × Nat) → List (Str × V) → Prop where
  | nil : Vls σ [] []
  | cons {f : Str} {i : Nat} {v : V} {L : List (Str × Nat)} {l : List (Str × V)} : σ[i]? = some (some v) → Vls σ L l → Vls σ ((f, i) :: L) ((f, v) :: l)
def tIni (K : PySem.W.Frag) (C : Addr) (L : List (Str × Nat)) : TS := fun D σ H => ∃ (a dx : Addr) (fs l : List (Str × V)), σ[0]? = some (some (.ref a)) ∧ OexC K C ∧ Vls σ L l ∧ H a = some (exo a C (some dx)) ∧ H dx = some (exd dx fs) ∧ a ≠ dx ∧ fs.length + L.length ≤ 900 ∧
  ∀ H', H' a = some (exo a C (some dx)) → H' dx = some (exd dx (l.reverse ++ fs)) → (∀ b, b ≠ a → b ≠ dx → H' b = H b) → D.nx σ H'
theorem ini_rest {C : Addr} : ∀ {sts : List Stmt} {L : List (Str × Nat)}, Ini X C sts L → PSs X sts (tIni X.K C L)
  | _, _, .nil => pssI pss_nil fun D σ H ⟨a, dx, fs, l, h1, T, h2, h3, h4, h5, h6, h⟩ => by
    cases h2
    exact h H h3 h4 fun _ _ _ => rfl
  | _, _, .cons (f := f) (i := i) (L := L) hs hf hr => pssI (pss_cons hs (ini_rest hr)) fun D σ H ⟨a, dx, fs, l, h1, T, h2, h3, h4, h5, h6, h⟩ => by
    cases h2 with
    | @cons _ _ v _ l hv hl =>
      rw [List.length_cons] at h6
      refine ⟨v, hv, .ref a, h1, a, C, rfl, T, hf, .inr ⟨dx, fs, h3, h4, by omega, ?_⟩⟩
      refine ⟨a, dx, (f, v) :: fs, l, h1, T, hl, ?_, upd_same, h5, ?_, fun H' e1 e2 e3 => h H' e1 ?_ fun b b1 b2 => ?_⟩
      · exact (upd_ne h5).trans h3
      · rw [List.length_cons]
        omega
      · rw [e2, List.reverse_cons, List.append_assoc]
        rfl
      · exact (e3 b b1 b2).trans (upd_ne b2)
def tIni0 (K : PySem.W.Frag) (C : Addr) (L : List (Str × Nat)) : TS := fun D σ H => ∃ (a : Addr) (l : List (Str × V)), σ[0]? = some (some (.ref a)) ∧ OexC K C ∧ Vls σ L l ∧ H a = some (exo a C none) ∧ L.length ≤ 800 ∧
  ∀ dx H', H dx = none → dx ≠ a → H' a = some (exo a C (some dx)) → H' dx = some (exd dx l.reverse) → (∀ b, b ≠ a → b ≠ dx → H' b = H b) → D.nx σ H'
theorem ini_all {C : Addr} {st : Stmt} {sts : List Stmt} {L : List (Str × Nat)} (h : Ini X C (st :: sts) L) : PSs X (st :: sts) (tIni0 X.K C L) := by
  cases h with
  | @cons _ _ f i L hs hf hr =>
    refine pssI (pss_cons hs (ini_rest hr)) fun D σ H ⟨a, l, h1, T, h2, h3, h6, h⟩ => ?_
    cases h2 with
    | @cons _ _ v _ l hv hl =>
      rw [List.length_cons] at h6
      refine ⟨v, hv, .ref a, h1, a, C, rfl, T, hf, .inl ⟨h3, fun dx n ne => ?_⟩⟩
      refine ⟨a, dx, [(f, v)], l, h1, T, hl, upd_same, ?_, Ne.symm ne, ?_, fun H' e1 e2 e3 => h dx H' n ne e1 ?_ fun b b1 b2 => ?_⟩
      · exact (upd_ne ne).trans upd_same
      · simp
        omega
      · rw [e2, List.reverse_cons]
      · exact (e3 b b1 b2).trans ((upd_ne b1).trans (upd_ne b2))
/-- what such an __init__ does -/
def iniSp (K : PySem.W.Frag) (C : Addr) (ns : List Str) : Sp := fun vs H Q E => ∃ (a : Addr) (ws : List V), vs = .ref a :: ws ∧ ws.length = ns.length ∧ OexC K C ∧ H a = some (exo a C none) ∧
  ∀ dx H', H dx = none → dx ≠ a → H' a = some (exo a C (some dx)) → H' dx = some (exd dx (ns.zip ws).reverse) → (∀ b, b ≠ a → b ≠ dx → H' b = H b) → Q .non H'
def ixs : Nat → List Str → List (Str × Nat)
  | _, [] => []
  | i, f :: fs => (f, i) :: ixs (i + 1) fs
theorem ixs_len : ∀ (fs : List Str) (i : Nat), (ixs i fs).length = fs.length
  | [], i => rfl
  | f :: fs, i => by
    show (ixs (i + 1) fs).length + 1 = fs.length + 1
    rw [ixs_len fs]
theorem vls_of {σ : L2.St} : ∀ (fs : List Str) (ws : List V) (i : Nat), fs.length = ws.length → (∀ j v, ws[j]? = some v → σ[i + j]? = some (some v)) → Vls σ (ixs i fs) (fs.zip ws)
  | [], [], i, _, _ => .nil
  | f :: fs, w :: ws, i, h, k => .cons (k 0 w rfl) (vls_of fs ws (i + 1) (by simpa using h) fun j v e => by
      have := k (j + 1) v e
      rw [show i + 1 + j = i + (j + 1) by omega]
      exact this)
  | [], _ :: _, _, h, _ => by cases h
  | _ :: _, [], _, h, _ => by cases h
variable {P : Program} {w : World} {mg : Str → Option Value} {base : Heap} {qual : Str} {st : Stmt} {f : Addr} {fd : FuncData} {N ps : List Str} {k : Nat}
theorem ini_ok {C : Addr} {ns : List Str} (F : Fun K x qual st f fd) (S : FnScope N ps (defScope st)) (hl : ps.length = ns.length + 1) (hn : ns.length ≤ 800) (h0 : ns ≠ [])
    (hb : ∀ (cdv : Value) (A : Around) (outer : List PySem.Env) (s : Shared) (H : Hp) (E : XK), Room k (A.deeper (envOfC qual (defScope st) s.heap.objs.size f cdv)) →
      Ini (cxOf (L2.CX P w) P w K mg base N qual (defScope st) f cdv A outer s H E) C (defBody st) (ixs 1 ns)) :
    FnOk P w K mg base (L2.CX P w) (k + 1) f fd ps (iniSp K C ns) := by
  refine F.okX S (fun vs H Q E ⟨a, ws, e, l, _⟩ => ?_) (fun cdv A outer s H vs Q E hr ⟨a, ws, e, l, T, ha, h⟩ => ?_)
  · rw [e, hl, List.length_cons, l]
  · have hi := hb cdv A outer s H E hr
    generalize hbd : defBody st = bd at hi
    cases bd with
    | nil =>
      exfalso
      generalize hL : ixs 1 ns = L at hi
      cases hi
      cases ns with
      | nil => exact h0 rfl
      | cons _ _ => cases hL
    | cons s0 sts =>
      refine ⟨_, ini_all hi, a, ns.zip ws, ?_, T, vls_of ns ws 1 l.symm fun j v q => ?_, ha, by rw [ixs_len]; exact hn, h⟩
      · subst e
        rfl
      · subst e
        have hj : j < ws.length := (List.getElem?_eq_some_iff.mp q).1
        unfold L2.start
        rw [List.getElem?_append_left (by rw [List.length_map, List.length_cons]; omega), List.getElem?_map, show 1 + j = j + 1 by omega, List.getElem?_cons_succ, q]
        rfl

theorem Reps.rev {w : Wd} : ∀ {l : List D} {xs : List V}, Reps K w l xs → Reps K w l.reverse xs.reverse
  | [], xs, h => by cases (show xs = [] from h); rfl
  | d :: ds, xs, h => by
    obtain ⟨v, vs, e1, r, q⟩ := h
    subst e1
    rw [List.reverse_cons, List.reverse_cons]
    exact Reps.app K (Reps.rev q) ⟨v, [], rfl, r, rfl⟩
theorem zip_rev {α β : Type} : ∀ (l : List α) (m : List β), l.length = m.length → (l.zip m).reverse = l.reverse.zip m.reverse
  | [], [], _ => rfl
  | a :: l, b :: m, h => by
    have hl : l.length = m.length := by simpa using h
    rw [List.zip_cons_cons, List.reverse_cons, List.reverse_cons, List.reverse_cons, zip_rev l m hl, List.zip_append (by simp [hl])]
    rfl
def mRaiseO (C : Addr) (ns : List Str) (ml : ML) : MS := fun r cs => (ml r cs).bind fun ds cs => if ds.length = ns.length then .err (.ins C ns.reverse ds.reverse) r cs else .bad
theorem js_raiseO {C fI : Addr} {ns : List Str} (hc : X.calm = true) (tk : Takes X W) (T : OexC X.K C) (iC : PySem.W.findIn X.K (.ref C) "__init__" = some (some (.ref fI))) (tI : PySem.W.typeIn X.K (.ref fI) = some (.type "function"))
    (F1 : FnOk X.prog X.w X.K X.mg X.base (L2.CX X.prog X.w) k fI fd ps (iniSp X.K C ns)) (hr : Room (k + 1) X.A) (hb : Binds X.K fd ps []) (hg : Gl X x) (hm : X.mg x = some (.ref C)) (hn : ns.length ≤ 800) (ha : JA X W (e :: es) ml)
    (hdb : (x == ("__debug__" : Str)) = false := by decide) (he : starEach (e :: es) X.env = (false, eval e X.env) :: starEach es X.env := by rfl) (hpl : (backTo pos (starEach es X.env)).any (·.1) = false := by rfl) {pos' : Pos} :
    JS X W (.Raise (some (.Call (.Name x p) (e :: es) [] pos)) none pos') (mRaiseO C ns ml) := by
  refine psI (ps_raise hc tk (pmk_oex T iC tI F1 hr hb (ds := []) (dvs := []) .nil passL hg hm ha hdb he hpl)) fun D σ H ⟨w, rr, cs, e, s, ev, a⟩ => ?_
  refine ⟨w, rr, cs, e, s, ev, (After.bind a).imp fun ds cs1 w1 l1 s1 a1 vs r1 => ?_⟩
  obtain ⟨hl, a1⟩ := if_bad a1
  have hv := Reps.length _ r1
  refine ⟨by omega, fun a0 n0 => ⟨a0, vs, by rw [List.append_nil], by omega, T, upd_same, fun dx H' n ne e1 e2 e3 => ?_⟩⟩
  have n1 : w1.H dx = none := by
    rw [← n]
    exact (upd_ne ne).symm
  refine ⟨rfl, dx, (ns.zip vs).reverse, e1, e2, n1, ?_⟩
  have eH : upd (del H' a0) dx (.xd (ns.zip vs).reverse) = (w1.new dx (.xd (ns.zip vs).reverse)).H := by
    funext b
    show upd (del H' a0) dx (.xd (ns.zip vs).reverse) b = upd w1.H dx (.xd (ns.zip vs).reverse) b
    by_cases hb : b = dx
    · rw [hb, upd_same, upd_same]
    · rw [upd_ne hb, upd_ne hb]
      by_cases hb2 : b = a0
      · rw [hb2, del_same, n0]
      · rw [del_ne hb2, e3 b hb2 hb, upd_ne hb2]
  rw [eH]
  have le := s1.le_new (o := .xd (ns.zip vs).reverse) n1
  refine a1 _ (.ref C) (some dx) le (s1.new n1) ⟨rfl, .inr ⟨dx, vs.reverse, rfl, .inr rfl, ?_, ?_, ?_⟩⟩ σ ((ev.mono l1).mono le)
  · rw [← zip_rev ns vs (by omega)]
    exact upd_same
  · rw [List.length_reverse, List.length_reverse]
    omega
  · exact Reps.mono _ le _ _ (Reps.rev r1)

/-! ### try .. except C as e -/
open Classical in
noncomputable def pickAll (f : Addr → Option Addr → R Fl) : R Fl := if ∀ a d, f a d = f 0 none then f 0 none else .bad
theorem pickAll_eq {f : Addr → Option Addr → R Fl} {v : R Fl} (h : ∀ a d, f a d = v) : pickAll f = v := by
  unfold pickAll
  rw [if_pos fun a d => (h a d).trans (h 0 none).symm, h]
theorem pickAll_at {E : EE} {w : Wd} {f : Addr → Option Addr → R Fl} {Q : Fl → List D → Wd → Prop} (h : After K E w (pickAll f) Q) (a : Addr) (d : Option Addr) : After K E w (f a d) Q := by
  unfold pickAll at h
  split at h
  · rename_i hh
    rw [hh a d]
    exact h
  · exact h.elim
def wipeF (i : Nat) : Fl → Fl
  | .nx r => .nx (r.set i none)
  | .brk r => .brk (r.set i none)
  | .ct r => .ct (r.set i none)
  | .ret d => .ret d
def mSuite (i : Nat) (ms : Addr → Option Addr → D → MS) (x : D) (ns : List Str) (l : List D) (r : Env) (cs : List D) (a : Addr) (d : Option Addr) : R Fl :=
  (calmR (ms a d x (r.set i (some (.exn a d ns l))) cs)).bind fun fl cs => .ok (wipeF i fl) cs
def fldN : D → List Str
  | .ins _ ns _ => ns
  | _ => []
def fldV : D → List D
  | .ins _ _ l => l
  | _ => []
noncomputable def mTryAs (i : Nat) (tab : D → Option Bool) (mb : MS) (ms : Addr → Option Addr → D → MS) : MS := fun r cs => match mb r cs with
  | .err x r' cs' => match tab x with
    | some true => pickAll (mSuite i ms x (fldN x) (fldV x) r' cs')
    | some false => .err x r' cs'
    | none => .bad
  | o => o
def clsOf : D → Value → Prop
  | .ins C _ _, c => c = .ref C
  | .ty n, c => c = .type n
  | _, _ => False
def TabOk (K : PySem.W.Frag) (c : Value) (tab : D → Option Bool) : Prop := ∀ x b cls, tab x = some b → clsOf x cls → PySem.W.exmOne K cls c = some b
theorem XRep.cls {w : Wd} {x : D} {c : Value} {od : Option Addr} (h : XRep K w x c od) : clsOf x c := by
  cases x with
  | ins C ns l => exact h.1
  | ty n => exact h.1
  | _ => exact h.elim
theorem XRep.exn {w : Wd} {x : D} {c : Value} {od : Option Addr} (h : XRep K w x c od) (a : Addr) : Rep K w (.exn a od (fldN x) (fldV x)) (.ref a) := by
  cases x with
  | ins C ns l => exact ⟨rfl, h.2⟩
  | ty n => exact ⟨rfl, .inl ⟨rfl, rfl, h.2⟩⟩
  | _ => exact h.elim

theorem js_tryAs {n : Str} {c : Value} {i : Nat} {body suite : List Stmt} {b₀ : Stmt} {np pos pos' : Pos} {tab : D → Option Bool} {mb : MS} {mh : Addr → Option Addr → D → MS}
    (hs : X.stack = X.env :: X.outer) (hf : X.env.frame = some X.env.locals) (hN : X.N.Nodup) (hi : X.N[i]? = some n) (hln : X.env.kindOf n = some .local) (hc : Names X x c) (tk : Takes X W) (ht : TabOk X.K c tab)
    (hb : ∀ (W : WX) (pn : List (Addr × Obj)) (xe : Value → Shared → Prop), Takes (X.tr pn xe) W → PassesOwn (model X.prog X.w) X.A X.env xe → JB (X.tr pn xe) W body mb)
    (hsu : ∀ (a : Addr) (oe : Obj) (cls : Value) (d : Option Addr) (pn : List (Addr × Obj)) (y : D), Zc cls d oe → (∃ vs, oe.data = .fields vs) → tab y = some true → clsOf y cls → JB (X.suite a ((a, oe) :: pn)) W0 (b₀ :: suite) (mh a d y)) :
    JS X W (.Try body [.ExceptHandler (some (.Name x np)) (some n) (b₀ :: suite) pos'] [] [] pos) (mTryAs i tab mb mh) := by
  refine psI (ps_try_as (tb := fun W => tS X.K W mb) (ts := fun a cls d D σ H => ∃ y, tab y = some true ∧ clsOf y cls ∧ tS X.K W0 (mh a d y) D σ H) hs hf hN hi hln hc tk (fun W pn xe t p => hb W pn xe t p)
    (fun a oe cls d pn z f => ⟨fun pins s σ H D I ⟨y, h1, h2, h3⟩ => (hsu a oe cls d pn y z f h1 h2).run pins s σ H D I h3⟩)) fun D σ H ⟨w, r, cs, e, s, ev, a⟩ => ?_
  refine ⟨w, r, cs, e, s, ev, ?_⟩
  unfold mTryAs at a
  cases hm : mb r cs with
  | ok fl cs' =>
    rw [hm] at a
    exact a
  | bad =>
    rw [hm] at a
    exact a
  | err y r' cs' =>
    rw [hm] at a
    dsimp only at a
    intro w' c0 od l' s' xr σ' ev'
    cases hy : tab y with
    | none =>
      rw [hy] at a
      exact a.elim
    | some b =>
      rw [hy] at a
      cases b with
      | false => exact ⟨false, ht y false c0 hy xr.cls, fun z => Bool.noConfusion z, fun _ => a w' c0 od l' s' xr σ' ev'⟩
      | true =>
        refine ⟨true, ht y true c0 hy xr.cls, fun _ a0 n0 => ?_, fun z => Bool.noConfusion z⟩
        refine ⟨y, hy, xr.cls, w', r'.set i (some (.exn a0 od (fldN y) (fldV y))), cs', rfl, s', ev'.set i (xr.exn a0), ?_⟩
        obtain ⟨fl, cs5, e5, a5⟩ := calm_ok (After.mono l' (pickAll_at a a0 od))
        rw [e5]
        intro w5 l5 s5
        have q := a5 w5 l5 s5
        cases fl with
        | nx r5 => exact fun σ5 ev5 => q _ (ev5.unset i none)
        | brk r5 => exact fun σ5 ev5 => q _ (ev5.unset i none)
        | ct r5 => exact fun σ5 ev5 => q _ (ev5.unset i none)
        | ret d => exact q

/-! ### isinstance(e, C) and e.f in an except suite -/
def tyV : D → Option Value
  | .rf a => some (.ref a)
  | .ty n => some (.type n)
  | _ => none
theorem tyV_of {w : Wd} {t : D} {v : V} {cv : Value} (r : Rep K w t v) (h : tyV t = some cv) : ∀ u, RelV v u → u = cv := by
  cases t with
  | rf a =>
    cases (show v = .ref a from r)
    cases h
    exact fun u z => z
  | ty n =>
    cases (show v = .ty n from r)
    cases h
    exact fun u z => z
  | _ => cases h
def isxD (a : Addr) (d : Option Addr) (tab : D → Option Bool) : OpC := fun ds cs => match ds with
  | [.exn a' d' _ _, t] => if a' = a ∧ d' = d then (match tab t with
    | some b => .ok (.bl b) cs
    | none => .bad) else .bad
  | _ => .bad
def TabI (K : PySem.W.Frag) (cls : Value) (tab : D → Option Bool) : Prop := ∀ t b, tab t = some b → ∃ cv, tyV t = some cv ∧ PySem.W.kitOne K cls cv = some b
def rIsX (K : PySem.W.Frag) (C a : Addr) (d : Option Addr) : List V → Hp → VK → Prop := fun xs H Q => ∃ (c : V) (cv : Value) (b : Bool), xs = [.ref a, c] ∧ (∀ u, RelV c u → u = cv) ∧ PySem.W.kitOne K (.ref C) cv = some b ∧ (d = none ∨ ∃ dd fs, d = some dd ∧ H dd = some (.xd fs)) ∧ Q (.bl b) H
theorem cs_isx {C a : Addr} {d : Option Addr} {tab : D → Option Bool} (hT : TabI K (.ref C) tab) : CallS K (rIsX K C a d) (isxD a d tab) := fun E w cs ds vs Q s rs h => by
  unfold isxD at h
  split at h
  · rename_i a' d' ns l t
    obtain ⟨v1, vs1, rfl, r1, v2, vs2, e2, r2, r3⟩ := rs
    cases (show vs2 = [] from r3)
    subst e2
    split at h
    · rename_i hh
      obtain ⟨rfl, rfl⟩ := hh
      obtain ⟨rfl, hx⟩ := r1
      cases ht : tab t with
      | none =>
        rw [ht] at h
        exact h.elim
      | some b =>
        rw [ht] at h
        obtain ⟨cv, e1, e2⟩ := hT t b ht
        refine ⟨v2, cv, b, rfl, tyV_of r2 e1, e2, ?_, h w (Le.refl w) s _ rfl⟩
        rcases hx with ⟨_, _, z⟩ | ⟨dd, xs, z, _, z2, _⟩
        · exact .inl z
        · exact .inr ⟨dd, _, z, z2⟩
    · exact h.elim
  · exact h.elim
theorem call_isX {a C : Addr} {oe : Obj} {cls : Value} {d : Option Addr} {pn : List (Addr × Obj)} (T : ExcC X.K C) (hz : Zc (.ref C) d oe) (hf : ∃ vs, oe.data = .fields vs) : CallR (X.suite a ((a, oe) :: pn)) (.builtin "isinstance") (rIsX X.K C a d) := by
  intro pins s σ H xs us Q I r h
  obtain ⟨c, cv, b, rfl, hcv, e, hd, q⟩ := h
  cases r with
  | cons rx rr =>
    cases rr with
    | @cons _ u2 _ _ rt rr =>
      cases rr
      cases rx
      have ec := hcv _ rt
      subst ec
      obtain ⟨hget, _⟩ := I.pin (a, oe) (List.mem_append.mpr (.inl List.mem_cons_self))
      obtain ⟨vs, hv⟩ := hf
      have hcl : (PySem.W.clsIn X.K C).isSome = true := by
        obtain ⟨cd, hc, _⟩ := PySem.W.any_some T.hd
        rw [hc]
        rfl
      have fin : ∀ od, PySem.W.InstAt s.heap a oe C od → wpAny (model X.prog X.w) (X.suite a ((a, oe) :: pn)).A (call (.builtin "isinstance") [.ref a, u2]) (EP (X.suite a ((a, oe) :: pn)) pins σ Q) (X.suite a ((a, oe) :: pn)).xe s := fun od J =>
        PySem.W.kia_one (PySem.W.kitx_exc hcl T.hg T.hk T.hs T.ha T.hn T.ht T.hm) I.kIn J e (fun z => nomatch z) fun tk => ⟨.bl b, H, I.kept (t' := tk) fun _ _ z => z, rfl, q⟩
      rcases hd with hd | ⟨dd, fs, hd, hH⟩
      · refine fin none ⟨hget, hz.1, ?_, ?_⟩
        · unfold PySem.W.notCls
          rw [hv] <;> rfl
        · rw [hz.2, hd]
          trivial
      · obtain ⟨mA, hns, hr⟩ := (I.hok dd _ hH : ObjOk X.prog X.w H s.heap dd (.xd fs))
        obtain ⟨od, ho, hl⟩ := lookIn_ns hns
        refine fin (some od) ⟨hget, hz.1, ?_, ?_⟩
        · unfold PySem.W.notCls
          rw [hv] <;> rfl
        · rw [hz.2, hd]
          exact ho

def fldD (a : Addr) (d : Option Addr) (f : Str) (x : D) (cs : List D) : R D := match x with
  | .exn a' d' ns l => if a' = a ∧ d' = d then (match (ns.zip l).lookup f with
    | some y => .ok y cs
    | none => .bad) else .bad
  | _ => .bad
def mXf (a : Addr) (d : Option Addr) (f : Str) (m : M) : M := fun r cs => (m r cs).bind (fldD a d f)
theorem Reps.look {w : Wd} {f : Str} {y : D} : ∀ {ns : List Str} {l : List D} {xs : List V}, Reps K w l xs → (ns.zip l).lookup f = some y → ∃ v, (ns.zip xs).lookup f = some v ∧ Rep K w y v
  | [], l, xs, _, h => by cases h
  | n :: ns, [], xs, _, h => by cases h
  | n :: ns, d :: l, xs, r, h => by
    obtain ⟨v, vs, e, r1, r2⟩ := r
    subst e
    rw [List.zip_cons_cons, List.lookup_cons] at h ⊢
    cases hf : f == n with
    | true =>
      rw [hf] at h
      cases h
      exact ⟨v, rfl, r1⟩
    | false =>
      rw [hf] at h
      exact Reps.look r2 h
theorem je_xf {a C : Addr} {oe : Obj} {d : Option Addr} {pn : List (Addr × Obj)} {n : Str} {m : M} (T : XfC X.K C) (hno : PySem.W.findIn X.K (.ref C) n = some none) (hz : Zc (.ref C) d oe) (hf : ∃ vs, oe.data = .fields vs)
    (he : JE (X.suite a ((a, oe) :: pn)) W e m) (hb : attributeBase e n X.env (eval e X.env) = eval e X.env := by rfl) :
    JE (X.suite a ((a, oe) :: pn)) W (.Attribute e n pos) (mXf a d n m) := by
  refine peI (pe_xf T hno hz hf he hb) fun σ H Q ⟨w, rr, cs, e, s, ev, a1⟩ => ?_
  refine ⟨w, rr, cs, e, s, ev, (After.bind a1).imp fun x cs1 w1 l1 s1 a2 v rv => ?_⟩
  unfold fldD at a2
  split at a2
  · rename_i a' d' ns l
    split at a2
    · rename_i hh
      obtain ⟨rfl, rfl⟩ := hh
      obtain ⟨rfl, hx⟩ := rv
      split at a2
      · rename_i y hy
        rcases hx with ⟨_, z, _⟩ | ⟨dd, xs, z, z1, z2, z3, z4⟩
        · subst z
          rw [List.zip_nil_right] at hy
          cases hy
        · obtain ⟨v, hv, rv⟩ := Reps.look z4 hy
          exact ⟨rfl, rfl, dd, _, v, z, z2, hv, a2 w1 (Le.refl w1) s1 v rv⟩
      · exact a2.elim
    · exact a2.elim
  · exact a2.elim
/-! ### try .. except C: -/
def mTryOnly (tab : D → Option Bool) (mb ms : MS) : MS := fun r cs => match mb r cs with
  | .err x r' cs' => match tab x with
    | some true => calmR (ms r' cs')
    | some false => .err x r' cs'
    | none => .bad
  | o => o
theorem calm_ok1 {α : Type} {E : EE} {w : Wd} {r : R α} {Q : α → List D → Wd → Prop} (h : After K E w (calmR r) Q) : ∃ a cs, r = .ok a cs ∧ After K E w (.ok a cs) Q := by
  cases r with
  | ok a cs => exact ⟨a, cs, rfl, h⟩
  | err x r cs => exact h.elim
  | bad => exact h.elim
theorem js_tryOnly {c : Value} {body suite : List Stmt} {b₀ : Stmt} {np pos pos' : Pos} {tab : D → Option Bool} {mb mh : MS}
    (hs : X.stack = X.env :: X.outer) (hf : X.env.frame = some X.env.locals) (hc : Names X x c) (tk : Takes X W) (ht : TabOk X.K c tab)
    (hb : ∀ (W : WX) (pn : List (Addr × Obj)) (xe : Value → Shared → Prop), Takes (X.tr pn xe) W → PassesOwn (model X.prog X.w) X.A X.env xe → JB (X.tr pn xe) W body mb)
    (hsu : ∀ (a : Addr) (oe : Obj) (pn : List (Addr × Obj)), JB (X.suite a ((a, oe) :: pn)) W0 (b₀ :: suite) mh) :
    JS X W (.Try body [.ExceptHandler (some (.Name x np)) none (b₀ :: suite) pos'] [] [] pos) (mTryOnly tab mb mh) := by
  refine psI (ps_try_only (tb := fun W => tS X.K W mb) (ts := fun _ _ _ => tS X.K W0 mh) hs hf hc tk (fun W pn xe t p => hb W pn xe t p)
    (fun a oe cls d pn z f => hsu a oe pn)) fun D σ H ⟨w, r, cs, e, s, ev, a⟩ => ?_
  refine ⟨w, r, cs, e, s, ev, ?_⟩
  unfold mTryOnly at a
  cases hm : mb r cs with
  | ok fl cs' =>
    rw [hm] at a
    exact a
  | bad =>
    rw [hm] at a
    exact a
  | err y r' cs' =>
    rw [hm] at a
    dsimp only at a
    intro w' c0 od l' s' xr σ' ev'
    cases hy : tab y with
    | none =>
      rw [hy] at a
      exact a.elim
    | some b =>
      rw [hy] at a
      cases b with
      | false => exact ⟨false, ht y false c0 hy xr.cls, fun z => Bool.noConfusion z, fun _ => a w' c0 od l' s' xr σ' ev'⟩
      | true =>
        refine ⟨true, ht y true c0 hy xr.cls, fun _ a0 n0 => ?_, fun z => Bool.noConfusion z⟩
        obtain ⟨fl, cs5, e5, a5⟩ := calm_ok1 (After.mono l' a)
        refine ⟨w', r', cs', rfl, s', ev', ?_⟩
        rw [e5]
        exact a5
end
end Wf
set_option Elab.async false
set_option linter.all false
set_option maxRecDepth 100000
set_option maxHeartbeats 1000000
/-! Readings by mirrors: all, any, sum, index, order of data, sorted, turned slices. -/
namespace Wf
open PySem PySem.Spec PyProof.Rows L2
section
variable {K : PySem.W.Frag} {E : EE} {w : Wd} {cs : List D} {Q : VK}
/-! ### all, any, sum -/
def blsOf : List D → Option (List Bool)
  | [] => some []
  | .bl b :: l => (blsOf l).map (b :: ·)
  | _ => none
theorem blsOf_ok : ∀ {l : List D} {bs : List Bool}, blsOf l = some bs → l = bs.map D.bl
  | [], bs, h => by cases h; rfl
  | d :: l, bs, h => by
    cases d with
    | bl b =>
      unfold blsOf at h
      cases hl : blsOf l with
      | none =>
        rw [hl] at h
        cases h
      | some bs' =>
        rw [hl] at h
        cases h
        rw [blsOf_ok hl]
        rfl
    | _ => cases h
theorem Reps.bls_eq : ∀ {bs : List Bool} {xs : List V}, Reps K w (bs.map D.bl) xs → xs = bs.map V.bl
  | [], xs, h => h
  | b :: bs, xs, h => by
    obtain ⟨v, vs, e, r, q⟩ := h
    rw [e, show v = .bl b from r, Reps.bls_eq q]
    rfl
def intsOf : List D → Option (List Int)
  | [] => some []
  | .int b :: l => (intsOf l).map (b :: ·)
  | _ => none
theorem intsOf_ok : ∀ {l : List D} {bs : List Int}, intsOf l = some bs → l = bs.map D.int
  | [], bs, h => by cases h; rfl
  | d :: l, bs, h => by
    cases d with
    | int b =>
      unfold intsOf at h
      cases hl : intsOf l with
      | none =>
        rw [hl] at h
        cases h
      | some bs' =>
        rw [hl] at h
        cases h
        rw [intsOf_ok hl]
        rfl
    | _ => cases h
def foldB (f : List Bool → Bool) : OpC := fun ds cs => match ds with
  | [d] => match lstOf cs d with
    | some l => match blsOf l with
      | some bs => .ok (.bl (f bs)) cs
      | none => .bad
    | none => .bad
  | _ => .bad
def allD : OpC := foldB fun bs => bs.all id
def anyD : OpC := foldB fun bs => bs.any id
theorem cs_foldB {f : List Bool → Bool} : CallS K (fun vs H Q => ∃ (a : Addr) (bs : List Bool), vs = [V.ref a] ∧ SqL K H a (bs.map V.bl) ∧ Q (.bl (f bs)) H) (foldB f) := fun E w cs ds vs Q s rs h => by
  unfold foldB at h
  split at h
  · rename_i d
    obtain ⟨v, rfl, rv⟩ := r1 rs
    cases h1 : lstOf cs d with
    | none =>
      simp only [h1] at h
      exact h.elim
    | some l =>
      simp only [h1] at h
      cases h2 : blsOf l with
      | none =>
        simp only [h2] at h
        exact h.elim
      | some bs =>
        simp only [h2] at h
        obtain ⟨a, xs, rfl, g, q⟩ := lstOf_ok s rv h1
        rw [blsOf_ok h2] at q
        exact ⟨a, bs, rfl, by rw [← Reps.bls_eq q]; exact g, aft s h rfl⟩
  · exact h.elim
theorem cs_all : CallS K (rAll K) allD := cs_foldB
theorem cs_any : CallS K (rAny K) anyD := cs_foldB
def sumD : OpC := fun ds cs => match ds with
  | [d] => match lstOf cs d with
    | some l => match intsOf l with
      | some bs => .ok (.int bs.sum) cs
      | none => .bad
    | none => .bad
  | _ => .bad
theorem cs_sum : CallS K (rSum K) sumD := fun E w cs ds vs Q s rs h => by
  unfold sumD at h
  split at h
  · rename_i d
    obtain ⟨v, rfl, rv⟩ := r1 rs
    cases h1 : lstOf cs d with
    | none =>
      simp only [h1] at h
      exact h.elim
    | some l =>
      simp only [h1] at h
      cases h2 : intsOf l with
      | none =>
        simp only [h2] at h
        exact h.elim
      | some bs =>
        simp only [h2] at h
        obtain ⟨a, xs, rfl, g, q⟩ := lstOf_ok s rv h1
        rw [intsOf_ok h2] at q
        exact ⟨a, bs, rfl, by rw [← Reps.ints_eq K q]; exact g, aft s h rfl⟩
  · exact h.elim
/-! ### text.index(text) -/
def sindexD : OpM := fun x ds cs => match x, ds with
  | .str a, [.str b] => match Builtin.Str.occurrences a b 0 a.length 1 with
    | i :: _ => .ok (.int (i : Nat)) cs
    | [] => .bad
  | _, _ => .bad
theorem ms_sindex : MtS K (fun x xs H Q => ∃ a b i rest, x = .str a ∧ xs = [.str b] ∧ Builtin.Str.occurrences a b 0 a.length 1 = i :: rest ∧ Q (.int (i : Nat)) H) sindexD := fun E w cs x vx ds vs Q s rx rs h => by
  unfold sindexD at h
  split at h
  · rename_i a b
    obtain ⟨v, rfl, rv⟩ := r1 rs
    cases (show vx = .str a from rx)
    cases (show v = .str b from rv)
    split at h
    · rename_i i rest e
      exact ⟨a, b, i, rest, rfl, rfl, e, aft s h rfl⟩
    · exact h.elim
  · exact h.elim
/-! ### x < y of data -/
def rLtD (K : PySem.W.Frag) : R2 := fun x y H Q => ∃ d e, Dp K H x d ∧ Dp K H y e ∧ PySem.W.alike d e = true ∧ d ≠ .none ∧ d.depth ≤ 60 ∧ Q (.bl (PySem.W.dataLt d e)) H
theorem op_ltDt {X : Cx} (hu : X.A.units + 64 < cLine) : OpR X (compareOp .Lt) (rLtD X.K) := by
  intro pins s σ H x y v u Q I rx ry h
  obtain ⟨d, e, hd, he, ha, hn, hl, q⟩ := h
  obtain ⟨as, k1⟩ := Dp.reads I d x v hd rx
  obtain ⟨bs, k2⟩ := Dp.reads I e y u he ry
  exact PySem.W.lt_data k1 k2 ha hn (by have := Nat.min_le_left d.depth e.depth; omega) ⟨.bl _, H, I, rfl, q⟩
def isNo : PyData → Bool
  | .none => true
  | _ => false
def ltDD : Op2 := fun x y cs => match x, y with
  | .int i, .int j => .ok (.bl (decide (i < j))) cs
  | .str i, .str j => .ok (.bl (decide (i.cps.toList < j.cps.toList))) cs
  | x, y => match pyTop cs x, pyTop cs y with
    | some p, some q => if PySem.W.alike p q = true ∧ isNo p = false ∧ p.depth ≤ 60 then .ok (.bl (PySem.W.dataLt p q)) cs else .bad
    | _, _ => .bad
def rLtAll (K : PySem.W.Frag) : R2 := fun x y H Q => rLtAny x y H Q ∨ rLtD K x y H Q
theorem op_ltAll {X : Cx} (hu : X.A.units + 64 < cLine) : OpR X (compareOp .Lt) (rLtAll X.K) := op_ltD.or (op_ltDt hu)
theorem sp_ltAll : OpS K (rLtAll K) ltDD := fun E w cs x y vx vy Q s rx ry h => by
  unfold ltDD at h
  split at h
  · rename_i i j
    cases (show vx = .int i from rx)
    cases (show vy = .int j from ry)
    exact .inl (.inl ⟨i, j, rfl, rfl, aft s h rfl⟩)
  · rename_i i j
    cases (show vx = .str i from rx)
    cases (show vy = .str j from ry)
    exact .inl (.inr ⟨i, j, rfl, rfl, aft s h rfl⟩)
  · split at h
    · rename_i p q hp hq
      obtain ⟨⟨h1, h2, h3⟩, h⟩ := if_bad h
      refine .inr ⟨p, q, pyTop_ok s rx hp, pyTop_ok s ry hq, h1, fun e => ?_, h3, aft s h rfl⟩
      rw [e] at h2
      cases h2
    · exact h.elim
/-! ### sorted of data -/
def rSortedAll (K : PySem.W.Frag) : List V → Hp → VK → Prop := fun vs H Q => ∃ (a : Addr) (L : List (V × PyData)), vs = [V.ref a] ∧ SqL K H a (L.map (·.1)) ∧ (∀ p ∈ L, Dp K H p.1 p.2) ∧ PySem.W.AllAlike (L.map (·.2)) ∧ PySem.W.Sortable (L.map (·.2)) ∧
  (∀ p ∈ L, p.2.depth ≤ 60) ∧ ∀ p : Addr, H p = none → Q (.ref p) (upd H p (.lst ((L.mergeSort (PySem.W.dataLe false (·.2))).map (·.1))))
theorem each_of {α β : Type} {R : α → β → Prop} : ∀ {xs : List α} {ys : List β}, xs.length = ys.length → (∀ (i : Nat) (x : α) (y : β), xs[i]? = some x → ys[i]? = some y → R x y) → PySem.W.EachIs R xs ys
  | [], [], _, _ => .nil
  | x :: xs, y :: ys, h, k => .cons (k 0 x y rfl rfl) (each_of (by simpa using h) fun i a b h1 h2 => k (i + 1) a b h1 h2)
  | [], _ :: _, h, _ => by cases h
  | _ :: _, [], h, _ => by cases h
theorem vals_at {xs : List V} {us : List Value} (h : Vals xs us) : ∀ {i : Nat} {x : V} {u : Value}, xs[i]? = some x → us[i]? = some u → RelV x u := by
  induction h with
  | nil => intro i x u h1 _; cases h1
  | cons r t ih =>
    intro i x u h1 h2
    cases i with
    | zero =>
      cases h1
      cases h2
      exact r
    | succ i => exact ih h1 h2
theorem vals_each {L : List (V × PyData)} {us : List Value} (h : PySem.W.EachIs (fun u (p : V × PyData) => RelV p.1 u) us L) : Vals (L.map (·.1)) us := by
  induction h with
  | nil => exact .nil
  | cons r t ih => exact .cons r ih
theorem cr_sortedAll {X : Cx} (hu : X.A.units + 64 < cLine) : CallR X (.builtin "sorted") (rSortedAll X.K) := by
  intro pins s σ H vs us Q I r h
  obtain ⟨a, L, rfl, hs, hd, hal, hso, hdep, q⟩ := h
  obtain ⟨its, rv, hl, hz⟩ := I.list hs
  rw [Vals.ref1 r]
  have hlen : its.length = L.length := by rw [← rv.length, List.length_map]
  have hat : ∀ (i : Nat) (u : Value) (p : V × PyData), its[i]? = some u → L[i]? = some p → RelV p.1 u := fun i u p h1 h2 =>
    vals_at rv (by rw [List.getElem?_map, h2]; rfl) h1
  have eR : PySem.W.EachIs (fun u (p : V × PyData) => RelV p.1 u) its L := each_of hlen hat
  have eK : PySem.W.EachIs (fun u (p : V × PyData) => ∃ as, Reads s.heap u p.2 as) its L := each_of hlen fun i u p h1 h2 =>
    Dp.reads I p.2 p.1 u (hd p (List.mem_of_getElem? h2)) (hat i u p h1 h2)
  refine PySem.W.sorted_data (enc := fun p : V × PyData => p.2) (R := fun u (p : V × PyData) => RelV p.1 u) hl.isList eR eK hal hso (by rw [List.length_map] at hz; exact hz) (fun p hp => by
    have := hdep p hp
    show X.A.units + 2 + p.2.depth < cLine
    omega) fun out h1 h2 => ?_
  obtain ⟨ep, he'⟩ := PyProof.Rows.sortedAll_at s.heap its out.toArray
  have hlen2 : ((L.mergeSort (PySem.W.dataLe false (·.2))).map (·.1)).length ≤ sizeLine := by
    rw [List.length_map, List.length_mergeSort]
    rw [List.length_map] at hz
    exact hz
  exact ⟨.ref _, upd H (s.heap.objs.size + 1) (.lst _), I.laid (t' := s.toks) (fun _ _ => PyProof.Rows.sortedAll_old) (Nat.le_succ _) ⟨hlen2, out, ep, vals_each h2, he'⟩, rfl, q _ (I.hok.fresh (Nat.le_succ _))⟩
def encD (d : D) : PyData := (pyOf d).getD .none
def sortOk (l : List D) : Bool := l.all (fun d => (pyOf d).isSome && decide ((encD d).depth ≤ 60) && l.all fun e => PySem.W.alike (encD d) (encD e)) &&
  (l.all (fun d => match encD d with
    | .tuple (_ :: _) => true
    | _ => false) || l.all (fun d => match encD d with
    | .tuple _ => false
    | .none => false
    | _ => true))
def sortD (l : List D) : List D := l.mergeSort (PySem.W.dataLe false encD)
def sortedD : OpC := fun ds cs => match ds with
  | [d] => match lstOf cs d with
    | some l => if sortOk l = true then .ok (.lst (sortD l)) cs else .bad
    | none => .bad
  | _ => .bad
theorem Reps.of_all {l : List D} {xs : List V} (hl : l.length = xs.length) (h : ∀ (i : Nat) (d : D) (v : V), l[i]? = some d → xs[i]? = some v → Rep K w d v) : Reps K w l xs := by
  induction l generalizing xs with
  | nil =>
    cases xs with
    | nil => rfl
    | cons _ _ => cases hl
  | cons d l ih =>
    cases xs with
    | nil => cases hl
    | cons v xs => exact ⟨v, xs, rfl, h 0 d v rfl rfl, ih (by simpa using hl) fun i d v h1 h2 => h (i + 1) d v h1 h2⟩
theorem Reps.map {α : Type} {f : α → D} {g : α → V} : ∀ {l : List α}, (∀ a ∈ l, Rep K w (f a) (g a)) → Reps K w (l.map f) (l.map g)
  | [], _ => rfl
  | a :: l, h => ⟨_, _, rfl, h a List.mem_cons_self, Reps.map fun b hb => h b (List.mem_cons_of_mem _ hb)⟩
theorem map_mergeSort' {α β : Type} {f : α → β} {le : β → β → Bool} (l : List α) : (l.mergeSort fun a b => le (f a) (f b)).map f = (l.map f).mergeSort le :=
  List.map_mergeSort (r := fun a b => le (f a) (f b)) (s := le) fun _ _ _ _ => rfl
theorem cs_sortedAll : CallS K (rSortedAll K) sortedD := fun E w cs ds vs Q s rs h => by
  unfold sortedD at h
  split at h
  · rename_i d
    obtain ⟨v, rfl, rv⟩ := r1 rs
    cases h1 : lstOf cs d with
    | none =>
      simp only [h1] at h
      exact h.elim
    | some l =>
      simp only [h1] at h
      obtain ⟨ho, h⟩ := if_bad h
      obtain ⟨a, xs, rfl, g, q⟩ := lstOf_ok s rv h1
      have hln := Reps.length K q
      unfold sortOk at ho
      rw [Bool.and_eq_true] at ho
      obtain ⟨ho1, ho2⟩ := ho
      have ho1' : ∀ d ∈ l, ((pyOf d).isSome = true ∧ (encD d).depth ≤ 60) ∧ ∀ e ∈ l, PySem.W.alike (encD d) (encD e) = true := fun d hd => by
        have := List.all_eq_true.mp ho1 d hd
        rw [Bool.and_eq_true, Bool.and_eq_true, decide_eq_true_eq] at this
        exact ⟨this.1, fun e he => List.all_eq_true.mp this.2 e he⟩
      let T : List (D × V) := l.zip xs
      have e1 : T.map (·.1) = l := List.map_fst_zip (by omega)
      have e2 : T.map (·.2) = xs := List.map_snd_zip (by omega)
      let L : List (V × PyData) := T.map fun t => (t.2, encD t.1)
      have hmem : ∀ t ∈ T, t.1 ∈ l ∧ Rep K w t.1 t.2 := fun t ht => by
        obtain ⟨i, hi⟩ := List.mem_iff_getElem?.mp ht
        have f1 : l[i]? = some t.1 := by rw [← e1, List.getElem?_map, hi]; rfl
        have f2 : xs[i]? = some t.2 := by rw [← e2, List.getElem?_map, hi]; rfl
        obtain ⟨v', hv', rv'⟩ := Reps.get K q f1
        rw [f2] at hv'
        cases hv'
        exact ⟨List.mem_of_getElem? f1, rv'⟩
      have L1 : L.map (·.1) = xs := by
        show (T.map fun t => (t.2, encD t.1)).map (·.1) = xs
        rw [List.map_map]
        exact e2
      have L2 : L.map (·.2) = l.map encD := by
        show (T.map fun t => (t.2, encD t.1)).map (·.2) = l.map encD
        rw [List.map_map, ← e1, List.map_map]
        rfl
      refine ⟨a, L, rfl, by rw [L1]; exact g, fun p hp => ?_, ?_, ?_, fun p hp => ?_, fun p np => ?_⟩
      · obtain ⟨t, ht, rfl⟩ := List.mem_map.mp hp
        obtain ⟨m1, m2⟩ := hmem t ht
        obtain ⟨z, hz⟩ := Option.isSome_iff_exists.mp (ho1' t.1 m1).1.1
        have := pyOf_ok t.1 t.2 z m2 hz
        unfold encD
        rw [hz]
        exact this
      · rw [L2]
        intro d hd d' hd'
        obtain ⟨b, hb, rfl⟩ := List.mem_map.mp hd
        obtain ⟨b', hb', rfl⟩ := List.mem_map.mp hd'
        exact (ho1' b hb).2 b' hb'
      · rw [L2]
        rw [Bool.or_eq_true] at ho2
        rcases ho2 with ho2 | ho2
        · refine .inl fun d hd => ?_
          obtain ⟨b, hb, rfl⟩ := List.mem_map.mp hd
          have := List.all_eq_true.mp ho2 b hb
          split at this
          · rename_i x r e
            exact ⟨x, r, e⟩
          · cases this
        · refine .inr fun d hd => ?_
          obtain ⟨b, hb, rfl⟩ := List.mem_map.mp hd
          have := List.all_eq_true.mp ho2 b hb
          constructor
          · intro e
            rw [e] at this
            cases this
          · intro ys e
            rw [e] at this
            cases this
      · obtain ⟨t, ht, rfl⟩ := List.mem_map.mp hp
        exact (ho1' t.1 (hmem t ht).1).1.2
      · have e3 : L.mergeSort (PySem.W.dataLe false (·.2)) = (T.mergeSort fun t u => PySem.W.dataLe false encD t.1 u.1).map fun t => (t.2, encD t.1) := by
          exact (map_mergeSort' (f := fun t : D × V => (t.2, encD t.1)) (le := PySem.W.dataLe false fun p : V × PyData => p.2) T).symm
        have e4 : sortD l = (T.mergeSort fun t u => PySem.W.dataLe false encD t.1 u.1).map (·.1) := by
          refine Eq.symm ((map_mergeSort' (f := fun t : D × V => t.1) (le := PySem.W.dataLe false encD) T).trans ?_)
          rw [e1]
          rfl
        rw [e3, List.map_map]
        refine aftL s h np ?_
        rw [e4]
        refine Reps.map fun t ht => ?_
        have := (List.mergeSort_perm T _).mem_iff.mp ht
        exact (hmem t this).2
  · exact h.elim
end
end Wf
set_option Elab.async false
set_option linter.all false
set_option maxRecDepth 100000
set_option maxHeartbeats 1000000
/-! Readings by mirrors: turned slices, a pair that settles, how many signs a text has. -/
namespace Wf
open PySem PySem.Spec PyProof.Rows L2
/-! ### x[::-1] -/
def revS (z : Str) : Str := ⟨z.cps.toList.reverse.toArray⟩
theorem revS_eq (z : Str) (u : Tok) : Txt.sliceBy z none none (-1, u) = revS z := by
  have h : (Txt.sliceBy z none none (-1, u)).cps.toList = z.cps.toList.reverse := by
    rw [PyProof.Rows.step_rev_list]
    refine List.ext_getElem? fun i => ?_
    rw [List.getElem?_map]
    have hz : z.length = z.cps.size := rfl
    by_cases hi : i < z.length
    · rw [List.getElem?_range hi, List.getElem?_reverse (by rw [Array.length_toList]; omega)]
      rw [Array.length_toList, Option.map_some, Array.getElem?_toList, ← hz]
      have hj : z.length - 1 - i < z.cps.size := by omega
      rw [Array.getElem?_eq_getElem hj]
      simp [Array.getD, hj]
    · rw [List.getElem?_eq_none (by rw [List.length_range]; omega), List.getElem?_eq_none (by rw [List.length_reverse, Array.length_toList]; omega)]
      rfl
  cases hs : Txt.sliceBy z none none (-1, u) with
  | mk c =>
    rw [hs] at h
    unfold revS
    congr 1
    rw [← h]
def tRevA (K : PySem.W.Frag) (te : TE) : TE := fun σ H Q => te σ H fun x H1 =>
  (∃ a xs, x = .ref a ∧ SqL K H1 a xs ∧ ∀ p, H1 p = none → Q (.ref p) (upd H1 p (.lst xs.reverse))) ∨ (∃ z, x = .str z ∧ z.length ≤ sizeLine ∧ Q (.str (revS z)) H1)
section
variable {X : Cx} {W : WX}
theorem pe_revA {o : Expr} {te : TE} {n : Nat} {q1 q2 q3 ps : Pos} (ho : PE X o te) :
    PE X (.Subscript o (.Slice none none (some (.UnaryOp .USub (.Constant (.int 1) n q1) q2)) q3) ps) (tRevA X.K te) := by
  have mi : PO X (some (.UnaryOp .USub (.Constant (.int 1) n q1) q2))
      (tPart (tUn (rU fun i => .int (-i)) (tC (.int 1)))) := po_some (pe_un un_neg pe_int)
  refine ⟨fun pins s0 σ H0 Q I0 h0 => Subscript_
    (thn (ho.run pins s0 σ H0 _ I0 h0) fun v s1 ⟨x, H1, I1, rx, hx⟩ => ?_)⟩
  refine wpAny_Slice (thn
    (po_none.run pins s1 σ H1 (fun o H => o = none ∧ H = H1) I1 ⟨rfl, rfl⟩) fun va s2 ⟨l1, H2, I2, pa, ea, ga⟩ => ?_)
  subst ea ga
  refine thn
    (po_none.run pins s2 σ H2 (fun o H => o = none ∧ H = H2) I2 ⟨rfl, rfl⟩) fun vb s3 ⟨l2, H3, I3, pb, eb, gb⟩ => ?_
  subst eb gb
  refine thn
    (mi.run pins s3 σ H3 (fun o H => o = some (-1) ∧ H = H3) I3 ⟨1, rfl, -1, rfl, rfl, rfl⟩) fun vc s4 ⟨l3, H4, I4, pc, ec, gc⟩ => ?_
  subst ec gc
  have I5 : Inv X pins σ H4
      { s4 with heap := s4.heap.push { cls := .type "slice", data := .fields #[va, vb, vc] } } :=
    I4.kept (t' := s4.toks) fun _ _ z => Heap.get?_push_of_some _ z
  show wpAny (model X.prog X.w) X.A
    (subscriptTail o (.Slice none none (some (.UnaryOp .USub (.Constant (.int 1) n q1) q2)) q3) v (.ref s4.heap.objs.size))
    (EP X pins σ Q) X.xe { s4 with heap := s4.heap.push { cls := .type "slice", data := .fields #[va, vb, vc] } }
  rcases hx with ⟨a, xs, ex, hs, q⟩ | ⟨z, ex, hz, q⟩
  · subst ex
    cases rx
    obtain ⟨its, rv, ht, hl⟩ := I5.list hs
    have hlen := rv.length
    refine tail_any (ops := [.ref a, .ref s4.heap.objs.size]) ht.isList.typeIs
      (PySem.slot_list_getitem.lookup) ?_ (by with_unfolding_all rfl)
    refine wpAny_getItem_list_slice ht.isList
      (Heap.IsSliceOf.new _ va vb vc) pa pb pc (by decide) ?_ (by rw [List.size_toArray]; omega)
    rw [PySem.W.krv_pick]
    exact ⟨.ref _, _, I5.laid (t' := s4.toks) (o := .lst xs.reverse) (fun _ _ z => Heap.get?_push_of_some _ z) (Nat.le_refl _)
      ⟨by rw [List.length_reverse]; exact hl, _, 0, rv.reverse, Heap.get?_push_size _ rfl⟩, rfl,
      q _ (I5.hok.fresh (Nat.le_refl _))⟩
  · subst ex
    obtain ⟨t, rfl⟩ := rx
    obtain ⟨la, rfl, e1⟩ := IsPart.raw pa
    obtain ⟨lb, rfl, e2⟩ := IsPart.raw pb
    obtain ⟨lc, rfl, e3⟩ := IsPart.raw pc
    cases la with
    | some _ => cases e1
    | none =>
    cases lb with
    | some _ => cases e2
    | none =>
    cases lc with
    | none => cases e3
    | some cc =>
    obtain ⟨k, u⟩ := cc
    cases e3
    refine tail_any (ops := [.ref s4.heap.objs.size, .str z t]) (typeIs_str _ _ _) F.slot_str_getitem.lookup ?_ (by with_unfolding_all rfl)
    refine wpAny_getItem_str_slice (l := none) (u := none) (st := some (-1, u)) ⟨_, Heap.get?_push_size _ rfl, rfl, rfl⟩ rfl ?_
    refine post_val_or_str ⟨?_, fun t' c => ?_⟩
    · exact Nat.le_trans (Txt.sliceBy_le z none none (-1, u) (fun e => by cases e)) hz
    · have e : (if ((((some ((-1 : Int), u)).map (·.1)).getD 1 == 1 && (slicePicked z none none (some (-1, u))).length == z.length) = true) then z
          else ⟨((slicePicked z none none (some (-1, u))).filterMap (z.cps[·]?)).toArray⟩) = revS z := revS_eq z u
      rw [e]
      exact ⟨.str (revS z), H4, I5.tok _, ⟨_, rfl⟩, q⟩
def mRev (m : M) : M := fun r cs => (m r cs).bind fun d cs => match d with
  | .str z => if z.length ≤ sizeLine then .ok (.str (revS z)) cs else .bad
  | d => match lstOf cs d with
    | some l => .ok (.lst l.reverse) cs
    | none => .bad
theorem je_rev {e : Expr} {m : M} {n : Nat} {q1 q2 q3 ps : Pos} (h : JE X W e m) : JE X W (.Subscript e (.Slice none none (some (.UnaryOp .USub (.Constant (.int 1) n q1) q2)) q3) ps) (mRev m) := peI (pe_revA h) fun σ H Q ⟨w, rr, cs, e, s, ev, a⟩ => by
  refine ⟨w, rr, cs, e, s, ev, (After.bind a).imp fun d cs1 w1 l1 s1 a1 v rv => ?_⟩
  split at a1
  · rename_i z
    obtain ⟨hz, a1⟩ := if_bad a1
    exact .inr ⟨z, rv, hz, aft s1 a1 rfl⟩
  · split at a1
    · rename_i l hl
      obtain ⟨p, xs, rfl, g, q⟩ := lstOf_ok s1 rv hl
      exact .inl ⟨p, xs, rfl, g, fun p' np => aftL s1 a1 np (Reps.rev q)⟩
    · exact a1.elim
end
/-! ### a pair behind a word settles -/
def mFrzT (m : M) : M := fun r cs => (m r cs).bind fun d cs' => match d with
  | .tup [x, .ref i] => if cs.length ≤ i ∧ i + 1 = cs'.length ∧ nr x = true then match cs'[i]? with
      | some (.lst l) => .ok (.tup [x, .lst l]) (cs'.take i)
      | _ => .bad
    else .bad
  | d => .ok d cs'
theorem je_frzT {X : Cx} {W : WX} {e : Expr} {m : M} (h : JE X W e m) : JE X W e (mFrzT m) := peI h fun σ H Q ⟨w, rr, cs, e, s, ev, a⟩ => by
  refine ⟨w, rr, cs, e, s, ev, ?_⟩
  unfold mFrzT at a
  cases hm : m rr cs with
  | bad =>
    rw [hm] at a
    exact a
  | err x r cs' =>
    rw [hm] at a
    exact a
  | ok d cs' =>
    rw [hm] at a
    simp only [R.bind_ok] at a
    split at a
    · rename_i x i
      obtain ⟨⟨h1, h2, h3⟩, a⟩ := if_bad a
      split at a
      · rename_i l hc
        intro w1 l1 s1 v ⟨p, xs, e2, ff, hp, rs⟩
        subst e2
        obtain ⟨v1, vs1, rfl, k1, v2, vs2, rfl, k2, k3⟩ := rs
        cases (show vs2 = [] from k3)
        obtain ⟨p2, rfl, hp2⟩ := k2
        obtain ⟨f1, f2, ⟨ys, g, q⟩, f4⟩ := s1.cell i p2 _ hp2 hc
        have hlen : w.p.length = cs.length := s.len
        have le : Le w (w1.frz i p2) := by
          refine ⟨fun j b hj => ?_, fun b f => .inl (l1.fr b f), l1.keep, l1.gd⟩
          have hl : j < w.p.length := (List.getElem?_eq_some_iff.mp hj).1
          show (w1.p.take i)[j]? = some b
          rw [List.getElem?_take, if_pos (by omega)]
          exact l1.pre j b hj
        have up : ∀ (d : D) (v : V), nr d = true → Rep X.K w1 d v → Rep X.K (w1.frz i p2) d v := fun d v hd rv => Rep.nr _ (w := w1) (w' := w1.frz i p2) (fun _ h => .inl h) (fun _ _ => rfl) d v hd rv
        exact a (w1.frz i p2) le (s1.frz hp2 hc) (.ref p) ⟨p, _, rfl, .inl ff, hp, v1, _, rfl, up x v1 h3 k1, .ref p2, [], rfl, ⟨p2, ys, rfl, .inr rfl, g, Reps.nr _ (w := w1) (w' := w1.frz i p2) (fun _ h => .inl h) (fun _ _ => rfl) l ys f4 q⟩, rfl⟩
      · exact a.elim
    · exact a
end Wf
set_option Elab.async false
set_option linter.all false
set_option maxRecDepth 100000
set_option maxHeartbeats 3200000
/-! len(set(text)). -/
namespace Wf
open PySem PySem.Spec PyProof.Rows
def sgn (c : Nat) : Str := ⟨#[c]⟩
def addC (l : List Nat) (c : Nat) : List Nat := if c ∈ l then l else l ++ [c]
/-- the signs of a text, each once -/
def metC (l : List Nat) : List Nat := l.foldl addC []
def inC (l : List Nat) (k : Str) : Bool := l.any fun c => decide (k = sgn c)
theorem metC_snoc (l : List Nat) (c : Nat) : metC (l ++ [c]) = addC (metC l) c := by
  unfold metC
  rw [List.foldl_append]
  rfl
theorem sgn_inj {c d : Nat} (h : sgn c = sgn d) : c = d := by
  have h2 : [c] = [d] := congrArg (fun y : Str => y.cps.toList) h
  exact (List.cons.inj h2).1
theorem addC_len (l : List Nat) (c : Nat) : (addC l c).length ≤ l.length + 1 := by
  unfold addC
  split
  · omega
  · simp
theorem metC_len (l : List Nat) : (metC l).length ≤ l.length := by
  suffices h : ∀ (m a : List Nat), (m.foldl addC a).length ≤ a.length + m.length by
    have := h l []
    simpa [metC] using this
  intro m
  induction m with
  | nil => intro a; simp
  | cons c m ih =>
    intro a
    have h1 := ih (addC a c)
    have h2 := addC_len a c
    simp only [List.foldl_cons, List.length_cons]
    omega
theorem inC_sgn (l : List Nat) (c : Nat) : inC l (sgn c) = decide (c ∈ l) := by
  rw [Bool.eq_iff_iff, decide_eq_true_eq]
  unfold inC
  rw [List.any_eq_true]
  constructor
  · rintro ⟨d, hd, e⟩
    rw [sgn_inj (of_decide_eq_true e)]
    exact hd
  · intro h
    exact ⟨c, h, decide_eq_true rfl⟩
theorem inC_add (l : List Nat) (c : Nat) (k : Str) : (inC l k || decide (k = sgn c)) = inC (addC l c) k := by
  unfold addC
  split
  · rename_i h
    by_cases e : k = sgn c
    · rw [e, inC_sgn, decide_eq_true h]
      rfl
    · rw [decide_eq_false e, Bool.or_false]
  · unfold inC
    rw [List.any_append]
    simp
theorem len_add (l : List Nat) (c : Nat) : (if inC l (sgn c) = true then l.length else l.length + 1) = (addC l c).length := by
  rw [inC_sgn]
  unfold addC
  by_cases h : c ∈ l
  · rw [if_pos h, if_pos (decide_eq_true h)]
  · rw [if_neg h, if_neg (by simpa using h)]
    simp
section
variable {P : Program} {w : World} {A : Around} {R : Result → Shared → Prop} {I S : Addr} {fp wr : List Addr} {n : Nat} {x : Str} {St : Nat → Heap → Prop}
theorem set_loop (W : Walks P w A.in1 I fp wr n (SignAt x) St) (hn : n = x.cps.toList.length) (hS : S ∉ fp) (hb : n + 1 < scanBound) : ∀ (m i : Nat) (s : Shared), n - i = m → i ≤ n → St i s.heap →
    s.heap.SetOf (strKind P w) S (inC (metC (x.cps.toList.take i))) (metC (x.cps.toList.take i)).length →
    (∀ h' tk, (∀ b o, b ∉ S :: wr → s.heap.get? b = some o → h'.get? b = some o) →
      h'.SetOf (strKind P w) S (inC (metC x.cps.toList)) (metC x.cps.toList).length → R (.ok (.ret .none)) { s with heap := h', toks := tk }) →
    codeAny (model P w) A (.builtin "set.update.loop" ⟨[.ref S, .ref I], []⟩) R s
  | 0, i, s, hm, hi, hst, hs, hR => by
    have e : i = n := by omega
    subst e
    rw [List.take_of_length_le (by omega)] at hs
    refine codeAny_builtin
      F.entry_set_update_loop ?_
    rw [Around.under_plainId
      F.plain_set_update_loop _]
    show wpAny _ A.in1
      (pyNext (.ref I) >>= _) _ _ s
    refine wpAny_bind (W.done s _ _ hst fun h' tk k => ?_)
    show wpAny _ A.in1 (ret Value.none)
      _ _ _
    refine wpAny_pure (hR h' tk (fun b o hb' => k b o fun z => hb' (List.mem_cons_of_mem _ z)) ?_)
    obtain ⟨o, es, ep, t, ho, rest⟩ := hs
    exact ⟨o, es, ep, t, k S o (fun z => hS (W.sub S z)) ho, rest⟩
  | m + 1, i, s, hm, hi, hst, hs, hR => by
    have hlt : i < n := by omega
    refine codeAny_builtin
      F.entry_set_update_loop ?_
    rw [Around.under_plainId
      F.plain_set_update_loop _]
    show wpAny _ A.in1
      (pyNext (.ref I) >>= _) _ _ s
    refine wpAny_bind (W.item i s _ _ hlt hst fun v h' tk hP hst' k => ?_)
    obtain ⟨c, u, hc, rfl⟩ := hP
    have hc' : x.cps.toList[i]? = some c := by
      rw [Array.getElem?_toList]
      exact hc
    have hs' : h'.SetOf (strKind P w) S (inC (metC (x.cps.toList.take i))) (metC (x.cps.toList.take i)).length := by
      obtain ⟨o, es, ep, t, ho, rest⟩ := hs
      exact ⟨o, es, ep, t, k S o (fun z => hS (W.sub S z)) ho, rest⟩
    show wpAny _ A.in1 (holding [Value.str (sgn c) u]
      (setAdd S (.str (sgn c) u)) >>= _) _ _ _
    refine wpAny_bind (wpAny_holding ?_)
    unfold setAdd
    refine wpAny_holding ?_
    have hk : (strKind P w).is (sgn c) (.str (sgn c) u) = true := by
      show Value.isStrOf (sgn c) (.str (sgn c) u) = true
      simp [Value.isStrOf]
    refine wpAny_bind ((strKind P w).pyHash hk ?_)
    have hl := metC_len (x.cps.toList.take i)
    rw [List.length_take] at hl
    refine wpAny_setAddHashed_of (knd := strKind P w) (k := sgn c) (s := { s with heap := h', toks := tk + 1 }) hk rfl hs' (by omega) fun h2 sb hs2 => ?_
    have e1 : x.cps.toList.take (i + 1) = x.cps.toList.take i ++ [c] := by
      rw [List.take_add_one, hc']
      rfl
    have hs3 : h2.SetOf (strKind P w) S (inC (metC (x.cps.toList.take (i + 1)))) (metC (x.cps.toList.take (i + 1))).length := by
      rw [e1, metC_snoc]
      exact PyProof.Rows.SetOf_congr hs2 (fun k' => inC_add _ c k') (len_add _ c)
    refine wpAny_pure ⟨plainId_quiet
      F.plain_set_update_loop _, set_loop W hn hS hb m (i + 1) _ (by omega) hlt (W.frame _ _ _ hst' fun b hb' o e => ?_) hs3 fun h3 tk3 k3 hs4 => ?_⟩
    · rw [sb.2 b (fun z : b = S => hS (z ▸ hb'))]
      exact e
    · refine hR h3 tk3 (fun b o hb' e => k3 b o hb' ?_) hs4
      have hbS : b ≠ S := fun z => hb' (z ▸ List.mem_cons_self)
      show h2.get? b = some o
      rw [sb.2 b hbS]
      exact k b o (fun z => hb' (List.mem_cons_of_mem _ z)) e
end
section
variable {P : Program} {w : World} {A : Around} {E : Value → Shared → Prop} {s : Shared}
theorem call_set_text {x : Str} {t : Tok} {Q : Value → Shared → Prop} (hh : A.handled = none) (hb : x.cps.toList.length + 1 < scanBound)
    (h : ∀ (h' : Heap) (tk : Nat), h'.SetOf (strKind P w) s.heap.objs.size (inC (metC x.cps.toList)) (metC x.cps.toList).length →
      (∀ b o, b < s.heap.objs.size → s.heap.get? b = some o → h'.get? b = some o) → Q (.ref s.heap.objs.size) { s with heap := h', toks := tk }) :
    wpAny (model P w) A (call (.type "set") [.str x t]) Q E s := by
  have ⟨c0, tl0, hmro⟩ := F.called_set.mro
  have hmade := F.called_set.made
  have hsub := F.called_set.sub
  refine wpAny_call (codeAny_of_tree ?_)
  show wpAny _ _ (callAny (.type "set") _)
    _ _ _
  refine wpAny_pure ⟨Code.quiet_builtin _ (by decide +kernel),
    codeAny_builtin F.entry_type_call ?_⟩
  rw [Around.under_plain
    (weight_type_call_type "set" [.str x t] []) rfl]
  have g1 := F.called_set.notType
  have g2 := F.called_set.canCreate
  have g3 := F.typeCall_set_1 (.str x t)
  repeat (any_goals (first
    | assumption
    | wp_step))
  refine codeAny_mono (code_set_new_1 (.str x t) (E := E)
    (Q₁ := fun ob z => ∃ led : Bool, ob = .ref s.heap.objs.size ∧
      z = { s with heap := s.heap.push { cls := .type "set", dict := none, data := .set #[] 0 (.fresh 0 0 led) } })
    fun led => ⟨led, rfl, rfl⟩) fun r z hr => ?_
  cases r with
  | error e => exact hr
  | ok fl =>
    cases fl with
    | ret ob =>
      obtain ⟨led, rfl, rfl⟩ := hr
      have hS : (s.heap.push ({ cls := .type "set", dict := none, data := .set #[] 0 (.fresh 0 0 led) } : Obj)).get? s.heap.objs.size
          = some ({ cls := .type "set", dict := none, data := .set #[] 0 (.fresh 0 0 led) } : Obj) :=
        Heap.get?_push_size _ rfl
      have hT : Shared.TypeIs { s with heap := s.heap.push ({ cls := .type "set", dict := none, data := .set #[] 0 (.fresh 0 0 led) } : Obj) } (.ref s.heap.objs.size) "set" := ⟨_, hS, rfl⟩
      have g4 := F.called_set.init.lookup
      have g5 := F.called_set.init.bind (.ref s.heap.objs.size)
      repeat (any_goals (first
        | assumption
        | wp_step))
      refine codeAny_mono (codeAny_call_builtin (R := wants (fun r z => r = .none ∧ ∃ h' tk, z = { s with heap := h', toks := tk } ∧
          h'.SetOf (strKind P w) s.heap.objs.size (inC (metC x.cps.toList)) (metC x.cps.toList).length ∧
          (∀ b o, b < s.heap.objs.size → s.heap.get? b = some o → h'.get? b = some o)) E)
        F.called_set.init.plain F.entry_set_init
        (check_set_init_1 hT ?_)) fun r z hr => ?_
      · have g6 := F.sub_str_set
        have g7 := F.sub_str_frozenset
        unfold Builtin.«set.__init__»
          noKeywords
          Builtin.Frozenset.updateFrom
        generalize hPI : pyIter = PI
        wp_walk
        subst hPI
        refine wpAny_pyIter_str fun o St hW hst => ?_
        refine wpAny_bind (wpAny_runValue ?_)
        have hz : (s.heap.push ({ cls := .type "set", dict := none, data := .set #[] 0 (.fresh 0 0 led) } : Obj)).objs.size = s.heap.objs.size + 1 := Heap.size_push ..
        have hne : s.heap.objs.size ∉ [(s.heap.push ({ cls := .type "set", dict := none, data := .set #[] 0 (.fresh 0 0 led) } : Obj)).objs.size] := by
          rw [hz]
          simp
        refine set_loop (hW _ (by simp [hh])) (Array.length_toList ..).symm hne (by rw [← Array.length_toList]; exact hb) x.cps.size 0 _ (Nat.sub_zero _) (Nat.zero_le _) hst ?_ fun h' tk k hs => ?_
        · have hget : ((s.heap.push ({ cls := .type "set", dict := none, data := .set #[] 0 (.fresh 0 0 led) } : Obj)).push o).get? s.heap.objs.size
              = some ({ cls := .type "set", dict := none, data := .set #[] 0 (.fresh 0 0 led) } : Obj) := Heap.get?_push_of_some _ hS
          exact PyProof.Rows.SetOf_congr ((PyProof.Rows.setObjOf_fresh (knd := strKind P w) led).setOf hget (by unfold scanBound; omega)) (fun _ => rfl) rfl
        · show wpAny _ _ _ _ _ _
          refine wpAny_pure ?_
          show wpAny _ _ (ret Value.none) _ _ _
          refine wpAny_pure ⟨rfl, h', tk, rfl, hs, fun b o' hb' e => k b o' ?_ (Heap.get?_push_of_some _ (Heap.get?_push_of_some _ e))⟩
          rw [hz]
          have hb2 : b < s.heap.objs.size := hb'
          intro z
          rcases List.mem_cons.mp z with z | z
          · exact Nat.ne_of_lt hb2 z
          · exact Nat.ne_of_lt (Nat.lt_succ_of_lt hb2) (List.mem_singleton.mp z)
      · cases r with
        | error e => exact hr
        | ok fl2 =>
          cases fl2 with
          | ret r =>
            obtain ⟨rfl, h', tk, rfl, hs, hk⟩ := hr
            repeat (any_goals (first
              | assumption
              | wp_step))
            exact h _ _ hs hk
          | _ => exact hr.elim
    | _ => exact hr.elim
end
open L2
def tLenSetS (ta : TE) : TE := fun σ H Q => ta σ H fun x H1 => ∃ z : Str, x = .str z ∧ z.cps.toList.length ≤ 1000 ∧ Q (.int ((metC z.cps.toList).length : Nat)) H1
section
variable {X : Cx} {W : WX}
theorem pe_lenSetS {a : Expr} {ta : TE} {p p2 q pos : Pos} (hc : X.calm = true) (gl : Gl X "len") (ml : X.mg "len" = none) (gs : Gl X "set") (ms : X.mg "set" = none) (ha : PE X a ta)
    (na : starEach [a] X.env = (false, eval a X.env) :: starEach [] X.env := by rfl) : PE X (.Call (.Name "len" p) [.Call (.Name "set" p2) [a] [] q] [] pos) (tLenSetS ta) := by
  refine ⟨fun pins s σ H Q I h => Call_ (ld_blt I gl ml boot_len ?_)⟩
  refine PyProof.Rows.callWith_builtin1
    (PyProof.Rows.args_cons ?_ rfl) rfl rfl
  refine Call_ (ld_blt I gs ms boot_set ?_)
  refine PyProof.Rows.callWith_type1 (PyProof.Rows.args_cons
    (thn (ha.run pins s σ H _ I h) fun v s1 ⟨x, H1, I1, rx, hx⟩ => PyProof.Rows.args_nil ?_) na) na rfl
  obtain ⟨z, rfl, hz, hq⟩ := hx
  obtain ⟨t, rfl⟩ := rx
  refine call_set_text (I1.ok.hd hc) (by unfold scanBound; omega) fun h' tk hs hk => PyProof.Rows.args_nil ?_
  obtain ⟨o, es, ep, tb, ho, hex, hd, _, _, _, hf, hn⟩ := hs
  have hl := metC_len z.cps.toList
  have I2 : Inv X pins σ H1 { s1 with heap := h', toks := tk } := I1.kept fun b o e => hk b o (Heap.lt_size e) e
  exact call_len_set ho hex hd hf (by rw [hn]; omega) ⟨.int (metC z.cps.toList).length, H1, I2.tok _, ⟨_, by rw [hn]⟩, hq⟩
def mLenSet (m : M) : M := fun r cs => (m r cs).bind fun d cs => match d with
  | .str z => if z.length ≤ 1000 then .ok (.int ((metC z.cps.toList).length : Nat)) cs else .bad
  | _ => .bad
theorem je_lenSet {a : Expr} {m : M} {p p2 q pos : Pos} (hc : X.calm = true) (gl : Gl X "len") (ml : X.mg "len" = none) (gs : Gl X "set") (ms : X.mg "set" = none) (ha : JE X W a m)
    (na : starEach [a] X.env = (false, eval a X.env) :: starEach [] X.env := by rfl) : JE X W (.Call (.Name "len" p) [.Call (.Name "set" p2) [a] [] q] [] pos) (mLenSet m) := peI (pe_lenSetS hc gl ml gs ms ha na) fun σ H Q ⟨w, rr, cs, e, s, ev, a⟩ => by
  refine ⟨w, rr, cs, e, s, ev, (After.bind a).imp fun d cs1 w1 l1 s1 a1 v rv => ?_⟩
  split at a1
  · rename_i z
    obtain ⟨hz, a1⟩ := if_bad a1
    exact ⟨z, rv, by rw [Array.length_toList]; exact hz, aft s1 a1 rfl⟩
  · exact a1.elim
end
end Wf
set_option Elab.async false
set_option linter.all false
set_option maxRecDepth 100000
set_option maxHeartbeats 1000000
/-! Classes of exceptions: what the written part says of them, in one. -/
namespace Wf
open PySem PySem.Spec PyProof.Rows L2
abbrev mroV (C : Addr) (l : List Addr) : List Value := .ref C :: (l.map Value.ref ++ [.type "ValueError", .type "Exception", .type "BaseException", .type "object"])
/-- C is a class of exceptions whose own bases are l -/
structure Xk (K : PySem.W.Frag) (C : Addr) (l : List Addr) : Prop where
  lk : ∃ nm q N bs bm sn sub ab col dd k0 k1 k2 k3 k5, K.lookup C = some (excClassObj nm q C N bs bm true sn sub ab col dd k0 k1 k2 k3 k5 "ValueError.__new__") ∧ Value.ref C :: bm = mroV C l
  ke : PySem.W.keepIn K (.ref C) = true
  ga : PySem.W.findIn K (.ref C) "__getattribute__" = some (some (.builtin "BaseException.__getattribute__"))
  gg : PySem.W.findIn K (.ref C) "__getattr__" = some none
  gc : PySem.W.findIn K (.ref C) "__class__" = some (some (.builtin "object.__class__"))
  sa : PySem.W.findIn K (.ref C) "__setattr__" = some (some (.builtin "object.__setattr__"))
  sg : PySem.W.specialIn K (.builtin "object.__class__") "__get__" = some (some (.builtin "getset_descriptor.__get__"))
  tk : PySem.W.takesIn K (.builtin "object.__class__") = some true
section
variable {K : PySem.W.Frag} {C B : Addr} {l m : List Addr}
theorem Xk.cls (h : Xk K C l) : ∃ cd : ClassData, PySem.W.clsIn K C = some cd ∧ cd.mro = mroV C l ∧ cd.hasDict = true := by
  obtain ⟨nm, q, N, bs, bm, sn, sub, ab, col, dd, k0, k1, k2, k3, k5, e, em⟩ := h.lk
  unfold PySem.W.clsIn
  rw [e]
  exact ⟨_, rfl, em, rfl⟩
theorem Xk.mro (h : Xk K C l) (v : Value) : PySem.W.mroIn K C v = some ((mroV C l).contains v) := by
  obtain ⟨cd, e, em, _⟩ := h.cls
  unfold PySem.W.mroIn
  rw [e]
  show (if cd.mro.isEmpty then none else some (cd.mro.contains v)) = _
  rw [em]
  rfl
theorem Xk.sub (h : Xk K C l) (v : Value) : PySem.W.subIn K (.ref C) v = some ((mroV C l).contains v) := h.mro v
theorem has_ty (C : Addr) (l : List Addr) (T : String) : (mroV C l).contains (.type T) = ([.type "ValueError", .type "Exception", .type "BaseException", .type "object"] : List Value).contains (.type T) := by
  show ((Value.type T == Value.ref C) || _) = _
  rw [show (Value.type T == Value.ref C) = false from rfl, Bool.false_or]
  show (l.map Value.ref ++ _).contains (Value.type T) = _
  induction l with
  | nil => rfl
  | cons a l ih =>
    show ((Value.type T == Value.ref a) || _) = _
    rw [show (Value.type T == Value.ref a) = false from rfl, Bool.false_or]
    exact ih
theorem has_ref (C : Addr) (l : List Addr) (B : Addr) : (mroV C l).contains (.ref B) = (C :: l).contains B := by
  have h : ∀ a b : Addr, (Value.ref a == Value.ref b) = (a == b) := fun a b => by
    by_cases e : a = b
    · subst e
      rw [beq_self_eq_true, beq_self_eq_true]
    · rw [beq_eq_false_iff_ne.mpr e, beq_eq_false_iff_ne.mpr fun z => e (Value.ref.inj z)]
  show ((Value.ref B == Value.ref C) || (l.map Value.ref ++ _).contains (Value.ref B)) = ((B == C) || l.contains B)
  rw [h]
  congr 1
  induction l with
  | nil => rfl
  | cons a l ih =>
    show ((Value.ref B == Value.ref a) || _) = ((B == a) || _)
    rw [h]
    congr 1
theorem Xk.sub_ref (h : Xk K C l) (B : Addr) : PySem.W.subIn K (.ref C) (.ref B) = some ((C :: l).contains B) := by
  rw [h.sub, has_ref]
theorem Xk.ty (h : Xk K C l) : PySem.W.typeIn K (.ref C) = some (.type "type") := by
  obtain ⟨nm, q, N, bs, bm, sn, sub, ab, col, dd, k0, k1, k2, k3, k5, e, em⟩ := h.lk
  show (K.lookup C).map (·.cls) = _
  rw [e]
  rfl
theorem Xk.dict (h : Xk K C l) : PySem.W.hasDictIn K C = true := by
  obtain ⟨cd, e, _, hd⟩ := h.cls
  unfold PySem.W.hasDictIn
  rw [e]
  exact hd
theorem Xk.base (h : Xk K C l) : PySem.W.subIn K (.ref C) (.type "BaseException") = some true := by
  rw [h.sub, has_ty]
  rfl
theorem Xk.xc (h : Xk K C l) : Xc K C := ⟨h.ke, h.base, h.ty⟩
theorem Xk.xf (h : Xk K C l) : XfC K C := ⟨h.ga, h.gg, h.base, h.dict⟩
theorem Xk.ec (h : Xk K C l) : ExcC K C := ⟨h.ga, h.gg, h.base, h.dict, h.gc, h.sg, h.tk, by rw [h.mro, has_ty]; rfl⟩
theorem refs_of (l : List Addr) : PySem.HandSPX.refsVE (l.map Value.ref ++ [.type "ValueError", .type "Exception", .type "BaseException", .type "object"]) = true := by
  induction l with
  | nil => rfl
  | cons a l ih => exact ih
theorem Xk.oc (h : Xk K C l) : OexC K C := by
  refine ⟨?_, h.sa, h.base, h.ty, h.ke⟩
  obtain ⟨nm, q, N, bs, bm, sn, sub, ab, col, dd, k0, k1, k2, k3, k5, e, em⟩ := h.lk
  refine ⟨nm, q, N, bs, bm, sn, sub, ab, col, dd, k0, k1, k2, k3, k5, e, ?_⟩
  rw [(List.cons.inj em).2]
  exact refs_of l
/-- except D, where an exception of the class C flies -/
theorem Xk.exm (h : Xk K C l) (d : Xk K B m) : PySem.W.exmOne K (.ref C) (.ref B) = some ((C :: l).contains B) := by
  unfold PySem.W.exmOne
  rw [d.base]
  obtain ⟨cd, e, _, _⟩ := d.cls
  show (if ((PySem.W.clsIn K B).isSome && PySem.W.typeIn K (.ref B) == some (.type "type")) = true then PySem.W.subIn K (.ref C) (.ref B) else none) = _
  rw [e, d.ty]
  exact h.sub_ref B
theorem Xk.kit (h : Xk K C l) (d : Xk K B m) : PySem.W.kitOne K (.ref C) (.ref B) = some ((C :: l).contains B) := by
  unfold PySem.W.kitOne
  split
  · rename_i e
    have e2 : C = B := Value.ref.inj (eq_of_beq e)
    subst e2
    rw [List.contains_cons, beq_self_eq_true, Bool.true_or]
  · obtain ⟨cd, e, _, _⟩ := d.cls
    show (if ((PySem.W.clsIn K B).isSome && PySem.W.typeIn K (.ref B) == some (.type "type")) = true then PySem.W.subIn K (.ref C) (.ref B) else none) = _
    rw [e, d.ty]
    exact h.sub_ref B
theorem Xk.kitT (h : Xk K C l) {T : String} (d : PySem.W.kitMeta T = true) : PySem.W.kitOne K (.ref C) (.type T) = some (([.type "ValueError", .type "Exception", .type "BaseException", .type "object"] : List Value).contains (.type T)) := by
  unfold PySem.W.kitOne
  rw [show (Value.ref C == Value.type T) = false from rfl, if_neg (by decide)]
  show (if PySem.W.kitMeta T = true then PySem.W.subIn K (.ref C) (.type T) else none) = _
  rw [if_pos d, h.sub, has_ty]
/-! ### the program's classes: a table of (class, its own bases) -/
abbrev XT := List (Addr × List Addr)
def XT.at (t : XT) (C : Addr) : Option (List Addr) := t.lookup C
def XT.Ok (K : PySem.W.Frag) (t : XT) : Prop := ∀ p ∈ t, Xk K p.1 p.2
theorem look_mem {t : XT} : ∀ {C : Addr} {l : List Addr}, t.lookup C = some l → (C, l) ∈ t := by
  induction t with
  | nil => intro C l h; cases h
  | cons p t ih =>
    obtain ⟨B, m⟩ := p
    intro C l h
    rw [List.lookup_cons] at h
    cases e : C == B with
    | true =>
      rw [e] at h
      cases h
      rw [eq_of_beq e]
      exact List.mem_cons_self
    | false =>
      rw [e] at h
      exact List.mem_cons_of_mem _ (ih h)
theorem XT.Ok.get {t : XT} (h : t.Ok K) (e : t.at C = some l) : Xk K C l := h _ (look_mem e)
/-- except D: does it take the exception x -/
def XT.exm (t : XT) (B : Addr) : D → Option Bool := fun x => match x with
  | .ins C _ _ => match t.at C, t.at B with
    | some l, some _ => some ((C :: l).contains B)
    | _, _ => none
  | _ => none
theorem XT.Ok.exm {t : XT} (h : t.Ok K) : TabOk K (.ref B) (t.exm B) := by
  intro x b cls hx hc
  unfold XT.exm at hx
  split at hx
  · rename_i C ns vs
    split at hx
    · rename_i l m h1 h2
      cases hx
      cases (show cls = .ref C from hc)
      exact (h.get h1).exm (h.get h2)
    · cases hx
  · cases hx
/-- isinstance(e, t) of an exception of the class C -/
def XT.isx (t : XT) (C : Addr) : D → Option Bool := fun x => match x with
  | .rf B => match t.at C, t.at B with
    | some l, some _ => some ((C :: l).contains B)
    | _, _ => none
  | .ty T => match t.at C with
    | some _ => if PySem.W.kitMeta T = true then some (([.type "ValueError", .type "Exception", .type "BaseException", .type "object"] : List Value).contains (.type T)) else none
    | none => none
  | _ => none
theorem XT.Ok.isx {t : XT} (h : t.Ok K) : TabI K (.ref C) (t.isx C) := by
  intro x b hx
  unfold XT.isx at hx
  split at hx
  · rename_i B
    split at hx
    · rename_i l m h1 h2
      cases hx
      exact ⟨_, rfl, (h.get h1).kit (h.get h2)⟩
    · cases hx
  · rename_i T
    split at hx
    · rename_i l h1
      split at hx
      · rename_i hm
        cases hx
        exact ⟨_, rfl, (h.get h1).kitT hm⟩
      · cases hx
    · cases hx
  · cases hx
/-- the class of an exception -/
def clsA : D → Addr
  | .ins C _ _ => C
  | _ => 0
end
section
variable {X : Cx} {W : WX} {K : PySem.W.Frag}
/-! ### a number of the top -/
theorem je_gint {x : Str} {n : Int} {pos : Pos} (hg : Gl X x) (hm : ∃ t, X.mg x = some (.int n t)) (hd : (x == ("__debug__" : Str)) = false := by decide) : JE X W (.Name x pos) (mC (.int n)) := by
  obtain ⟨t, e⟩ := hm
  exact peI (pe_glob hg e (show RelV (.int n) (.int n t) from ⟨t, rfl⟩) hd) (tC_of fun _ => rfl)
theorem je_gstr {x : Str} {z : Str} {pos : Pos} (hg : Gl X x) (hm : ∃ t, X.mg x = some (.str z t)) (hd : (x == ("__debug__" : Str)) = false := by decide) : JE X W (.Name x pos) (mC (.str z)) := by
  obtain ⟨t, e⟩ := hm
  exact peI (pe_glob hg e (show RelV (.str z) (.str z t) from ⟨t, rfl⟩) hd) (tC_of fun _ => rfl)
end
/-- the j-th statement of a class's body -/
def clsStmt : Stmt → Nat → Stmt
  | .ClassDef _ _ _ body _ _ _ _ _ _ _, j => body.getD j (.Pass ⟨0, 0, 0, 0⟩)
  | s, _ => s
end Wf
set_option Elab.async false
set_option linter.all false
set_option maxRecDepth 100000
set_option maxHeartbeats 1000000
/-! Classes of exceptions: words for the printed texts. -/
namespace Wf
open PySem PySem.Spec PyProof.Rows L2
inductive XAll (K : PySem.W.Frag) : XT → Prop where
  | nil : XAll K []
  | cons {C : Addr} {l : List Addr} {t : XT} : Xk K C l → XAll K t → XAll K ((C, l) :: t)
inductive NAll (P : Addr → Prop) : XT → Prop where
  | nil : NAll P []
  | cons {C : Addr} {l : List Addr} {t : XT} : P C → NAll P t → NAll P ((C, l) :: t)
theorem xall_of {K : PySem.W.Frag} {t : XT} (h : XAll K t) : t.Ok K := by
  induction h with
  | nil => intro p hp; cases hp
  | cons x _ ih =>
    intro p hp
    rcases List.mem_cons.mp hp with e | hp
    · rw [e]
      exact x
    · exact ih p hp
theorem nall_of {P : Addr → Prop} {t : XT} (h : NAll P t) {C : Addr} {l : List Addr} (e : t.at C = some l) : P C := by
  have hm := look_mem e
  clear e
  induction h with
  | nil => cases hm
  | cons x _ ih =>
    rcases List.mem_cons.mp hm with e | hm
    · cases e
      exact x
    · exact ih hm
theorem exm_inv {t : XT} {B : Addr} {y : D} (h : t.exm B y = some true) : ∃ C ns vs l, y = .ins C ns vs ∧ t.at C = some l := by
  unfold XT.exm at h
  split at h
  · rename_i C ns vs
    split at h
    · rename_i l m h1 h2
      exact ⟨C, ns, vs, l, rfl, h1⟩
    · cases h
  · cases h
/-! ### a name's list is given up: from here on it is data -/
def Wd.tmb (w : Wd) (a : Addr) : Wd := ⟨w.p, fun b => w.F b ∨ b = a, w.G, w.H⟩
section
variable {K : PySem.W.Frag}
theorem Le.tmb (w : Wd) (a : Addr) : Le w (w.tmb a) := ⟨fun _ _ h => h, fun _ f => .inl f, fun _ _ => rfl, fun _ g => ⟨g, rfl⟩⟩
theorem Sim.tmb {w : Wd} {cs : List D} {i : Nat} {a : Addr} {c : D} (s : Sim K w cs) (hi : w.p[i]? = some a) (hc : cs[i]? = some c) : Sim K (w.tmb a) (cs.set i .non) := by
  obtain ⟨f1, f2, f3, f4⟩ := s.cell i a c hi hc
  refine ⟨by rw [List.length_set]; exact s.len, s.nd, fun b f => ?_, fun b g => ?_, fun j b d hj hd => ?_⟩
  · rcases f with f | f
    · exact s.trk b f
    · rw [f]
      exact f2
  · obtain ⟨g1, g2, g3⟩ := s.gtr b g
    refine ⟨fun f => f.elim g1 fun e => ?_, g2, g3⟩
    subst e
    exact g3 i hi
  · have hj' : w.p[j]? = some b := hj
    by_cases e : i = j
    · subst e
      rw [List.getElem?_set_self (List.getElem?_eq_some_iff.mp hc).1] at hd
      cases hd
      cases hi.symm.trans hj'
      exact ⟨fun t => Bool.noConfusion t, f2, f2, rfl⟩
    · rw [List.getElem?_set_ne e] at hd
      obtain ⟨c1, c2, c3, c4⟩ := s.cell j b d hj' hd
      exact ⟨fun t f => f.elim (c1 t) fun z => e (s.nd i j a hi (z ▸ hj')), c2, ORep.cell (w := w) (w' := w.tmb a) (fun _ h => .inl h) (fun _ _ => rfl) rfl d c4 c3, c4⟩
theorem EnvR.swap {w : Wd} {r : Env} {σ : L2.St} {k : Nat} {d : D} (h : EnvR K w r σ) (hd : ∀ v, σ[k]? = some (some v) → (∃ d0, r[k]? = some (some d0) ∧ Rep K w d0 v) → Rep K w d v) (hk : ∃ d0, r[k]? = some (some d0)) : EnvR K w (r.set k (some d)) σ := by
  obtain ⟨d0, hk⟩ := hk
  have hs : ∀ i e, (r.set k (some d))[i]? = some (some e) → ∃ v, σ[i]? = some (some v) ∧ Rep K w e v := fun i e he => by
    by_cases hi : k = i
    · subst hi
      rw [List.getElem?_set_self (List.getElem?_eq_some_iff.mp hk).1] at he
      cases he
      obtain ⟨v, hv, rv⟩ := h.at_ k d0 hk
      exact ⟨v, hv, hd v hv ⟨d0, hk, rv⟩⟩
    · rw [List.getElem?_set_ne hi] at he
      exact h.at_ i e he
  exact ⟨by rw [List.length_set]; exact h.len, hs⟩
end
def mFrzV (k : Nat) : MS := fun r cs => match r[k]? with
  | some (some (.ref i)) => match cs[i]? with
    | some (.lst l) => .ok (.nx (r.set k (some (.lst l)))) (cs.set i .non)
    | _ => .bad
  | _ => .bad
theorem jb_frzV {X : Cx} {W : WX} {sts : List Stmt} {m : MS} (k : Nat) (h : JB X W sts m) : JB X W sts (mSeq (mFrzV k) m) := pssI h fun D σ H ⟨w, r, cs, e, s, ev, a⟩ => by
  unfold mSeq mFrzV at a
  split at a
  · rename_i i hk
    split at a
    · rename_i l hc
      obtain ⟨v, hv, p, rfl, hp⟩ := ev.at_ k _ hk
      obtain ⟨f1, f2, ⟨xs, g, q⟩, f4⟩ := s.cell i p _ hp hc
      refine ⟨w.tmb p, r.set k (some (.lst l)), cs.set i .non, e, s.tmb hp hc, (ev.mono (Le.tmb w p)).swap (fun v' hv' _ => ?_) ⟨_, hk⟩, After.mono (Le.tmb w p) a⟩
      have : v' = .ref p := by
        rw [hv] at hv'
        cases hv'
        rfl
      subst this
      exact ⟨p, xs, rfl, .inr rfl, g, Reps.nr _ (w := w) (w' := w.tmb p) (fun _ h => .inl h) (fun _ _ => rfl) l xs f4 q⟩
    · exact a.elim
  · exact a.elim
end Wf
set_option Elab.async false
set_option linter.all false
set_option maxRecDepth 100000
set_option maxHeartbeats 1000000
/-! Reckoning: exceptions, sums, signs of texts. -/
namespace Wf
open PySem PySem.Spec PyProof.Rows L2
section
variable {m n ma mb : M} {ml : ML} {r : Env} {cs ds l : List D} {d x y : D} {z w : Str} {i j : Int} {k : Nat} {b : Bool} {ms : MS}
def kLenSet : D → List D → R D := fun d cs => match d with
  | .str z => if z.length ≤ 1000 then .ok (.int ((metC z.cps.toList).length : Nat)) cs else .bad
  | _ => .bad
theorem e_lenSet : mLenSet m r cs = (m r cs).bind kLenSet := (rfl)
theorem k_lenSet (h : z.length ≤ 1000) : kLenSet (.str z) cs = .ok (.int ((metC z.cps.toList).length : Nat)) cs := if_pos h
theorem blsOf_map : ∀ bs : List Bool, blsOf (bs.map D.bl) = some bs
  | [] => rfl
  | b :: bs => by
    show (blsOf (bs.map D.bl)).map (b :: ·) = _
    rw [blsOf_map bs]
    rfl
theorem intsOf_map : ∀ bs : List Int, intsOf (bs.map D.int) = some bs
  | [] => rfl
  | b :: bs => by
    show (intsOf (bs.map D.int)).map (b :: ·) = _
    rw [intsOf_map bs]
    rfl
theorem o_all {bs : List Bool} : allD [.lst (bs.map .bl)] cs = .ok (.bl (bs.all id)) cs := by
  show (match blsOf (bs.map .bl) with
    | some bs => R.ok (D.bl (bs.all id)) cs
    | none => .bad) = _
  rw [blsOf_map]
theorem o_any {bs : List Bool} : anyD [.lst (bs.map .bl)] cs = .ok (.bl (bs.any id)) cs := by
  show (match blsOf (bs.map .bl) with
    | some bs => R.ok (D.bl (bs.any id)) cs
    | none => .bad) = _
  rw [blsOf_map]
theorem o_sum {is : List Int} : sumD [.lst (is.map .int)] cs = .ok (.int is.sum) cs := by
  show (match intsOf (is.map .int) with
    | some bs => R.ok (D.int bs.sum) cs
    | none => .bad) = _
  rw [intsOf_map]
theorem o_sindex {q : Nat} {rest : List Nat} (h : Builtin.Str.occurrences z w 0 z.length 1 = q :: rest) : sindexD (.str z) [.str w] cs = .ok (.int (q : Nat)) cs := by
  show (match Builtin.Str.occurrences z w 0 z.length 1 with
    | i :: _ => R.ok (D.int (i : Nat)) cs
    | [] => .bad) = _
  rw [h]
theorem o_find : findD (.str z) [.str w] cs = .ok (.int (Txt.find z w)) cs := (rfl)
theorem o_sorted (h : sortOk l = true) : sortedD [.lst l] cs = .ok (.lst (sortD l)) cs := if_pos h
def kRev : D → List D → R D := fun d cs => match d with
  | .str z => if z.length ≤ sizeLine then .ok (.str (revS z)) cs else .bad
  | d => match lstOf cs d with
    | some l => .ok (.lst l.reverse) cs
    | none => .bad
theorem e_rev : mRev m r cs = (m r cs).bind kRev := (rfl)
theorem k_revS (h : z.length ≤ 16777216) : kRev (.str z) cs = .ok (.str (revS z)) cs := if_pos h
theorem k_revL : kRev (.lst l) cs = .ok (.lst l.reverse) cs := (rfl)
theorem revS_len : (revS z).length = z.length := by
  show z.cps.toList.reverse.toArray.size = z.cps.size
  rw [List.size_toArray, List.length_reverse, Array.length_toList]
/-! errors -/
theorem e_raise0 {C : Addr} : mRaise0 C r cs = .err (.ins C [] []) r cs := (rfl)
def kRaiseO (C : Addr) (ns : List Str) (r : Env) : List D → List D → R Fl := fun ds cs => if ds.length = ns.length then .err (.ins C ns.reverse ds.reverse) r cs else .bad
theorem e_raiseO {C : Addr} {ns : List Str} : mRaiseO C ns ml r cs = (ml r cs).bind (kRaiseO C ns r) := (rfl)
theorem k_raiseO {C : Addr} {ns : List Str} (h : ds.length = ns.length) : kRaiseO C ns r ds cs = .err (.ins C ns.reverse ds.reverse) r cs := if_pos h
theorem b_err {α β : Type} {e : Env} {q : α → List D → R β} : (R.err x e cs).bind q = .err x e cs := (rfl)
theorem n_err {α : Type} {e e' : Env} : (noteE e (.err x e' cs) : R α) = .err x e cs := (rfl)
theorem f_err {n : Nat} {e : Env} (h : nr x = true) : finR n (.err x e cs) = .err x [] (cs.take n) := if_pos h
theorem Ok_finE {n : Nat} {e : Env} {P : D → List D → Prop} : Ok (finR n (.err x e cs)) P = False := by
  show Ok (if nr x = true then R.err x [] (cs.take n) else R.bad) P = False
  by_cases h : nr x = true
  · rw [if_pos h]
    exact Ok_err ..
  · rw [if_neg h]
    exact Ok_M
theorem n_ins {C : Addr} {ns : List Str} : nr (.ins C ns l) = nrs l := (rfl)
noncomputable def kTry (i : Nat) (tab : D → Option Bool) (ms : Addr → Option Addr → D → MS) : R Fl → R Fl := fun o => match o with
  | .err x r' cs' => match tab x with
    | some true => pickAll (mSuite i ms x (fldN x) (fldV x) r' cs')
    | some false => .err x r' cs'
    | none => .bad
  | o => o
theorem e_tryAs {i : Nat} {tab : D → Option Bool} {hs : Addr → Option Addr → D → MS} : mTryAs i tab ms hs r cs = kTry i tab hs (ms r cs) := (rfl)
theorem k_tryOk {i : Nat} {tab : D → Option Bool} {hs : Addr → Option Addr → D → MS} {fl : Fl} : kTry i tab hs (.ok fl cs) = .ok fl cs := (rfl)
theorem k_tryErr {i : Nat} {tab : D → Option Bool} {hs : Addr → Option Addr → D → MS} {e : Env} {v : R Fl} (h : tab x = some true) (hv : ∀ a q, mSuite i hs x (fldN x) (fldV x) e cs a q = v) : kTry i tab hs (.err x e cs) = v := by
  show (match tab x with
    | some true => pickAll (mSuite i hs x (fldN x) (fldV x) e cs)
    | some false => .err x e cs
    | none => .bad) = v
  rw [h]
  exact pickAll_eq hv
def kWipe (i : Nat) : Fl → List D → R Fl := fun fl cs => .ok (wipeF i fl) cs
theorem e_suite {i : Nat} {hs : Addr → Option Addr → D → MS} {ns : List Str} {e : Env} {a : Addr} {q : Option Addr} : mSuite i hs x ns l e cs a q = (calmR (hs a q x (e.set i (some (.exn a q ns l))) cs)).bind (kWipe i) := (rfl)
theorem k_wipeR {i : Nat} : kWipe i (.ret d) cs = .ok (.ret d) cs := (rfl)
theorem k_wipeN {i : Nat} {e : Env} : kWipe i (.nx e) cs = .ok (.nx (e.set i none)) cs := (rfl)
def kIsx (cs : List D) : Option Bool → R D
  | some b => .ok (.bl b) cs
  | none => .bad
theorem o_isx {a : Addr} {q : Option Addr} {tab : D → Option Bool} {ns : List Str} : isxD a q tab [.exn a q ns l, d] cs = kIsx cs (tab d) := by
  show (if a = a ∧ q = q then (match tab d with
    | some b => .ok (.bl b) cs
    | none => .bad) else .bad : R D) = _
  rw [if_pos ⟨rfl, rfl⟩]
  cases tab d <;> rfl
theorem k_isx : kIsx cs (some b) = .ok (.bl b) cs := (rfl)
theorem e_xf {a : Addr} {q : Option Addr} {f : Str} : mXf a q f m r cs = (m r cs).bind (fldD a q f) := (rfl)
theorem o_fld {a : Addr} {q : Option Addr} {f : Str} {ns : List Str} (h : (ns.zip l).lookup f = some d) : fldD a q f (.exn a q ns l) cs = .ok d cs := by
  show (if a = a ∧ q = q then (match (ns.zip l).lookup f with
    | some y => .ok y cs
    | none => .bad) else .bad : R D) = _
  rw [if_pos ⟨rfl, rfl⟩, h]
def kFrzT (n : Nat) : D → List D → R D := fun d cs' => match d with
  | .tup [x, .ref i] => if n ≤ i ∧ i + 1 = cs'.length ∧ nr x = true then match cs'[i]? with
      | some (.lst l) => .ok (.tup [x, .lst l]) (cs'.take i)
      | _ => .bad
    else .bad
  | d => .ok d cs'
theorem e_frzT : mFrzT m r cs = (m r cs).bind (kFrzT cs.length) := (rfl)
theorem k_frzT_ref (h : nr x = true) : kFrzT cs.length (.tup [x, .ref cs.length]) (cs ++ [.lst l]) = .ok (.tup [x, .lst l]) cs := by
  unfold kFrzT
  simp only
  rw [if_pos ⟨Nat.le_refl _, by simp, h⟩]
  simp
theorem k_frzT_nr {q : Nat} (h : nr d = true) : kFrzT q d cs = .ok d cs := by
  unfold kFrzT
  split
  · rename_i x i
    exfalso
    have : nr (.tup [x, .ref i]) = (nr x && (false && true)) := (rfl)
    rw [this, Bool.false_and, Bool.and_false] at h
    cases h
  · rfl
theorem f_tupR {c : D} (h : nr x = true) : finR cs.length (.ok (.ret (.tup [x, .ref cs.length])) (cs ++ [c])) = .ok (.tup [x, .ref cs.length]) (cs ++ [c]) := by
  have hn : nr (.tup [x, .ref cs.length]) = false := by
    show (nr x && (false && true)) = false
    rw [Bool.false_and, Bool.and_false]
  show outR cs.length (.tup [x, .ref cs.length]) (cs ++ [c]) = _
  unfold outR
  rw [hn, if_neg (by decide)]
  show (if nr x = true then match (cs ++ [c])[cs.length]? with
      | some c' => if cs.length ≤ cs.length then R.ok (D.tup [x, .ref cs.length]) ((cs ++ [c]).take cs.length ++ [c']) else .bad
      | none => .bad
    else .bad) = _
  rw [if_pos h]
  simp
theorem e_frzV {q : Nat} {e : Env} {i : Nat} (h : e[q]? = some (some (.ref i))) (hc : cs[i]? = some (.lst l)) : mFrzV q e cs = .ok (.nx (e.set q (some (.lst l)))) (cs.set i .non) := by
  unfold mFrzV
  rw [h]
  simp only [hc]
/-! ### signs -/
theorem At_sgn {c : Nat} {i : Nat} : At z (sgn c) i = decide (z.cps.toList[i]? = some c) := by
  by_cases h : i + (sgn c).length ≤ z.length
  · rw [← cut_at h]
    have hl : (sgn c).length = 1 := rfl
    rw [hl] at h ⊢
    have hz := str_len z
    have e : (cutS z (some (i : Int)) (some ((i : Int) + ((1 : Nat) : Int)))).cps.toList = (z.cps.toList.drop i).take 1 := by
      rw [cutS_list]
      have q1 : HT.sIx z.length 0 (some (i : Int)) = i := by
        unfold HT.sIx
        simp only
        rw [if_neg (by omega)]
        omega
      have q2 : HT.sIx z.length z.length (some ((i : Int) + ((1 : Nat) : Int))) = i + 1 := by
        unfold HT.sIx
        simp only
        rw [if_neg (by omega)]
        omega
      rw [q1, q2, show i + 1 - i = 1 by omega]
    rw [Bool.eq_iff_iff, decide_eq_true_eq, decide_eq_true_eq]
    have hi : i < z.cps.toList.length := by omega
    rw [List.getElem?_eq_getElem hi]
    have e2 : (z.cps.toList.drop i).take 1 = [z.cps.toList[i]] := by
      rw [List.drop_eq_getElem_cons hi]
      rfl
    rw [e2] at e
    constructor
    · intro q
      rw [q] at e
      have : [c] = [z.cps.toList[i]] := e
      rw [← (List.cons.inj this).1]
    · intro q
      refine str_ext ?_
      rw [e, Option.some.inj q]
      rfl
  · rw [At_no h]
    have hl : (sgn c).length = 1 := rfl
    have hz := str_len z
    rw [List.getElem?_eq_none (by omega)]
    simp
theorem find_ix (c : Nat) : ∀ (l : List Nat) (lo n : Nat), lo + l.length ≤ n → (List.range' lo (n + 1 - lo)).find? (fun i => decide (i - lo < l.length ∧ l[i - lo]? = some c)) = if c ∈ l then some (lo + l.idxOf c) else none := by
  intro l
  induction l with
  | nil =>
    intro lo n _
    rw [if_neg (by simp), List.find?_eq_none]
    intro i _
    simp
  | cons a l ih =>
    intro lo n h
    rw [List.length_cons] at h
    rw [show n + 1 - lo = (n + 1 - (lo + 1)) + 1 by omega, List.range'_succ]
    by_cases e : a = c
    · rw [List.find?_cons_of_pos (by simp [e]), if_pos (by simp [e])]
      simp [e]
    · rw [List.find?_cons_of_neg (by simp [e])]
      have key : (List.range' (lo + 1) (n + 1 - (lo + 1))).find? (fun i => decide (i - lo < (a :: l).length ∧ (a :: l)[i - lo]? = some c)) =
          (List.range' (lo + 1) (n + 1 - (lo + 1))).find? (fun i => decide (i - (lo + 1) < l.length ∧ l[i - (lo + 1)]? = some c)) := by
        have step : ∀ is : List Nat, (∀ i ∈ is, lo + 1 ≤ i) → is.find? (fun i => decide (i - lo < (a :: l).length ∧ (a :: l)[i - lo]? = some c)) = is.find? (fun i => decide (i - (lo + 1) < l.length ∧ l[i - (lo + 1)]? = some c)) := by
          intro is
          induction is with
          | nil => intro _; rfl
          | cons i is ihs =>
            intro hi
            have h1 := hi i List.mem_cons_self
            have e1 : decide (i - lo < (a :: l).length ∧ (a :: l)[i - lo]? = some c) = decide (i - (lo + 1) < l.length ∧ l[i - (lo + 1)]? = some c) := by
              obtain ⟨q, rfl⟩ : ∃ q, i = lo + 1 + q := ⟨i - (lo + 1), by omega⟩
              rw [show lo + 1 + q - lo = q + 1 by omega, show lo + 1 + q - (lo + 1) = q by omega, List.length_cons, List.getElem?_cons_succ]
              rw [Bool.eq_iff_iff, decide_eq_true_eq, decide_eq_true_eq]
              constructor
              · rintro ⟨p1, p2⟩
                exact ⟨by omega, p2⟩
              · rintro ⟨p1, p2⟩
                exact ⟨by omega, p2⟩
            rw [List.find?_cons, List.find?_cons, e1, ihs fun i' hi' => hi i' (List.mem_cons_of_mem _ hi')]
        exact step _ fun i hi => (List.mem_range'_1.mp hi).1
      rw [key, ih (lo + 1) n (by omega)]
      by_cases hm : c ∈ l
      · rw [if_pos hm, if_pos (List.mem_cons_of_mem _ hm), List.idxOf_cons]
        have hne : (a == c) = false := by simpa using e
        rw [hne]
        simp
        omega
      · rw [if_neg hm, if_neg]
        intro hh
        rcases List.mem_cons.mp hh with q | q
        · exact e q.symm
        · exact hm q
theorem occ_sgn (z : Str) (c : Nat) : Builtin.Str.occurrences z (sgn c) 0 z.length 1 = if c ∈ z.cps.toList then [z.cps.toList.idxOf c] else [] := by
  rw [occ1]
  have hz := str_len z
  have e : (At z (sgn c)) = fun i => decide (i - 0 < z.cps.toList.length ∧ z.cps.toList[i - 0]? = some c) := by
    funext i
    rw [At_sgn, Bool.eq_iff_iff, decide_eq_true_eq, decide_eq_true_eq, Nat.sub_zero]
    exact ⟨fun q => ⟨(List.getElem?_eq_some_iff.mp q).1, q⟩, fun q => q.2⟩
  rw [e, find_ix c z.cps.toList 0 z.length (by omega), Nat.zero_add]
  split <;> rfl
theorem in_sgn (z : Str) (c : Nat) : inS (sgn c) z = decide (c ∈ z.cps.toList) := by
  unfold inS
  rw [occ_sgn]
  by_cases h : c ∈ z.cps.toList
  · rw [if_pos h, decide_eq_true h]
    rfl
  · rw [if_neg h, decide_eq_false h]
    rfl
theorem find_sgn (z : Str) (c : Nat) : Txt.find z (sgn c) = if c ∈ z.cps.toList then ((z.cps.toList.idxOf c : Nat) : Int) else -1 := by
  unfold Txt.find
  rw [occ_sgn]
  by_cases h : c ∈ z.cps.toList
  · rw [if_pos h, if_pos h]
  · rw [if_neg h, if_neg h]
theorem chrs_eq (z : Str) : chrs z = z.cps.toList.map fun c => D.str (sgn c) := (rfl)
theorem metC_all (l : List Nat) : decide ((metC l).length = l.length) = decide l.Nodup := by
  have key : ∀ (m a : List Nat), (m.foldl addC a).length ≤ a.length + m.length ∧ ((m.foldl addC a).length = a.length + m.length ↔ (∀ c ∈ m, c ∉ a) ∧ m.Nodup) := by
    intro m
    induction m with
    | nil => intro a; simp
    | cons c m ih =>
      intro a
      simp only [List.foldl_cons, List.length_cons]
      by_cases h : c ∈ a
      · have e : addC a c = a := if_pos h
        rw [e]
        obtain ⟨i1, _⟩ := ih a
        refine ⟨by omega, ⟨fun q => by omega, fun q => absurd h (q.1 c List.mem_cons_self)⟩⟩
      · have e : addC a c = a ++ [c] := if_neg h
        rw [e]
        obtain ⟨i1, i2⟩ := ih (a ++ [c])
        rw [List.length_append, List.length_singleton] at i1 i2
        refine ⟨by omega, ?_⟩
        rw [show a.length + (m.length + 1) = a.length + 1 + m.length by omega, i2, List.nodup_cons]
        constructor
        · rintro ⟨q1, q2⟩
          refine ⟨fun d hd => ?_, fun hc => ?_, q2⟩
          · rcases List.mem_cons.mp hd with e | hd
            · rw [e]
              exact h
            · exact fun z => q1 d hd (List.mem_append_left _ z)
          · exact q1 c hc (List.mem_append_right _ List.mem_cons_self)
        · rintro ⟨q1, q2, q3⟩
          refine ⟨fun d hd z => ?_, q3⟩
          rcases List.mem_append.mp z with z | z
          · exact q1 d (List.mem_cons_of_mem _ hd) z
          · rw [List.mem_singleton.mp z] at hd
            exact q2 hd
  have := (key l []).2
  simp only [List.length_nil, Nat.zero_add] at this
  rw [Bool.eq_iff_iff, decide_eq_true_eq, decide_eq_true_eq]
  unfold metC
  rw [this]
  constructor
  · exact fun q => q.2
  · exact fun q => ⟨fun c _ z => (by simp at z), q⟩
theorem nodup_take (l : List Nat) : l.Nodup ↔ ∀ k c, l[k]? = some c → c ∉ l.take k := by
  constructor
  · intro h k c hk hm
    obtain ⟨j, hj⟩ := List.mem_iff_getElem?.mp hm
    rw [List.getElem?_take] at hj
    split at hj
    · rename_i hjk
      obtain ⟨h1, e1⟩ := List.getElem?_eq_some_iff.mp hj
      obtain ⟨h2, e2⟩ := List.getElem?_eq_some_iff.mp hk
      exact List.pairwise_iff_getElem.mp h j k h1 h2 hjk (e1.trans e2.symm)
    · cases hj
  · intro h
    refine List.pairwise_iff_getElem.mpr fun i j hi hj hij e => ?_
    refine h j l[j] (List.getElem?_eq_getElem hj) ?_
    rw [← e]
    refine List.mem_iff_getElem?.mpr ⟨i, ?_⟩
    rw [List.getElem?_take, if_pos hij, List.getElem?_eq_getElem hi]
theorem map_pureT {α : Type} {f : D → List D → R (Option D)} {cs : List D} {e g : α → D} {l : List α} (h : ∀ a ∈ l, f (e a) cs = .ok (some (g a)) cs) : mapR f (l.map e) cs = .ok (l.map g) cs := by
  induction l with
  | nil => rfl
  | cons a l ih =>
    have h1 := h a List.mem_cons_self
    have h2 := ih fun b hb => h b (List.mem_cons_of_mem _ hb)
    show (f (e a) cs).bind _ = _
    rw [h1]
    show (mapR f (l.map e) cs).bind _ = _
    rw [h2]
    rfl
end
end Wf
set_option Elab.async false
set_option linter.all false
set_option maxRecDepth 100000
set_option maxHeartbeats 4000000
/-! The text, def by def: its mirror and the reading of its body. -/
namespace K00
open PySem PySem.Spec PyProof.Rows L2 Wf
def topS (i : Nat) : Stmt := PySem.Challenge.pw_wayfill_k00_word_order.main.body.getD i (.Pass ⟨0, 0, 0, 0⟩)
/-- the classes of the text, each with its own bases -/
abbrev tX : XT := [(24, []), (37, [24]), (49, [37, 24]), (61, [37, 24]), (73, [24]), (92, [24]), (111, [24])]
structure Bt (K : PySem.W.Frag) (mg : Str → Option Value) : Prop where
  z_ValueError : mg "ValueError" = none
  z_abs : mg "abs" = none
  z_all : mg "all" = none
  z_bool : mg "bool" = none
  z_int : mg "int" = none
  z_isinstance : mg "isinstance" = none
  z_len : mg "len" = none
  z_list : mg "list" = none
  z_range : mg "range" = none
  z_set : mg "set" = none
  z_sorted : mg "sorted" = none
  z_str : mg "str" = none
  z_sum : mg "sum" = none
  z_tuple : mg "tuple" = none
  g_LETTERS : ∃ t, mg "LETTERS" = some (.int 6 t)
  g_WEIGHT : ∃ t, mg "WEIGHT" = some (.int 99 t)
  g_WORD : ∃ t, mg "WORD" = some (.int 32 t)
  k_BadLetters : mg "BadLetters" = some (.ref 92)
  k_BadWeights : mg "BadWeights" = some (.ref 73)
  k_BadWord : mg "BadWord" = some (.ref 111)
  k_BoundError : mg "BoundError" = some (.ref 37)
  k_TooLong : mg "TooLong" = some (.ref 49)
  k_TooMany : mg "TooMany" = some (.ref 61)
  k_WayfillError : mg "WayfillError" = some (.ref 24)
  xt : tX.Ok K
  q_BadWeights : PySem.W.excIn K 73 [.type "ValueError", .type "Exception", .type "BaseException", .type "object"] "ValueError.__new__" = true
  q_TooLong : PySem.W.excIn K 49 [.type "ValueError", .type "Exception", .type "BaseException", .type "object"] "ValueError.__new__" = true
  no_text : ∀ (C : Addr) {l : List Addr}, tX.at C = some l → PySem.W.findIn K (.ref C) "text" = some none
structure Dfi (K : PySem.W.Frag) (C : Addr) (qual : Str) (st : Stmt) (f : Addr) (fd : FuncData) (ps : List Str) : Prop where
  F : Fun K "__init__" qual st f fd
  i : PySem.W.findIn K (.ref C) "__init__" = some (some (.ref f))
  t : PySem.W.typeIn K (.ref f) = some (.type "function")
  b : Binds K fd ps []
abbrev s_BadLetters_i : Stmt := clsStmt (topS 6) 0
abbrev P_BadLetters_i : List Str := ["self", "text"]
theorem sc_BadLetters_i : FnScope P_BadLetters_i P_BadLetters_i (defScope s_BadLetters_i) := ⟨rfl, rfl, rfl, by decide +kernel, rfl, by decide +kernel, by decide +kernel⟩
abbrev s_BadWord_i : Stmt := clsStmt (topS 7) 0
abbrev P_BadWord_i : List Str := ["self", "text"]
theorem sc_BadWord_i : FnScope P_BadWord_i P_BadWord_i (defScope s_BadWord_i) := ⟨rfl, rfl, rfl, by decide +kernel, rfl, by decide +kernel, by decide +kernel⟩
structure Df (K : PySem.W.Frag) (mg : Str → Option Value) (x : Str) (st : Stmt) (f : Addr) (fd : FuncData) (ps : List Str) : Prop where
  F : Fun K x x st f fd
  g : mg x = some (.ref f)
  k : PySem.W.keepIn K (.ref f) = true
  b : Binds K fd ps []
abbrev s_is_alphabet : Stmt := topS 12
abbrev N_is_alphabet : List Str := ["letters", "letter"]
abbrev P_is_alphabet : List Str := ["letters"]
theorem sc_is_alphabet : FnScope N_is_alphabet P_is_alphabet (defScope s_is_alphabet) := ⟨rfl, rfl, rfl, by decide +kernel, rfl, by decide +kernel, by decide +kernel⟩
abbrev s_check_letters : Stmt := topS 13
abbrev N_check_letters : List Str := ["letters"]
abbrev P_check_letters : List Str := ["letters"]
theorem sc_check_letters : FnScope N_check_letters P_check_letters (defScope s_check_letters) := ⟨rfl, rfl, rfl, by decide +kernel, rfl, by decide +kernel, by decide +kernel⟩
abbrev s_are_weights : Stmt := topS 14
abbrev N_are_weights : List Str := ["letters", "weights", "weight"]
abbrev P_are_weights : List Str := ["letters", "weights"]
theorem sc_are_weights : FnScope N_are_weights P_are_weights (defScope s_are_weights) := ⟨rfl, rfl, rfl, by decide +kernel, rfl, by decide +kernel, by decide +kernel⟩
abbrev s_check_weights : Stmt := topS 15
abbrev N_check_weights : List Str := ["letters", "weights"]
abbrev P_check_weights : List Str := ["letters", "weights"]
theorem sc_check_weights : FnScope N_check_weights P_check_weights (defScope s_check_weights) := ⟨rfl, rfl, rfl, by decide +kernel, rfl, by decide +kernel, by decide +kernel⟩
abbrev s_has_letters_only : Stmt := topS 16
abbrev N_has_letters_only : List Str := ["letters", "word", "letter"]
abbrev P_has_letters_only : List Str := ["letters", "word"]
theorem sc_has_letters_only : FnScope N_has_letters_only P_has_letters_only (defScope s_has_letters_only) := ⟨rfl, rfl, rfl, by decide +kernel, rfl, by decide +kernel, by decide +kernel⟩
abbrev s_check_word : Stmt := topS 17
abbrev N_check_word : List Str := ["letters", "word"]
abbrev P_check_word : List Str := ["letters", "word"]
theorem sc_check_word : FnScope N_check_word P_check_word (defScope s_check_word) := ⟨rfl, rfl, rfl, by decide +kernel, rfl, by decide +kernel, by decide +kernel⟩
abbrev s_order_key : Stmt := topS 18
abbrev N_order_key : List Str := ["letters", "weights", "word", "ranks", "letter", "rank"]
abbrev P_order_key : List Str := ["letters", "weights", "word"]
theorem sc_order_key : FnScope N_order_key P_order_key (defScope s_order_key) := ⟨rfl, rfl, rfl, by decide +kernel, rfl, by decide +kernel, by decide +kernel⟩
abbrev s_word_weight : Stmt := topS 19
abbrev N_word_weight : List Str := ["letters", "weights", "word"]
abbrev P_word_weight : List Str := ["letters", "weights", "word"]
theorem sc_word_weight : FnScope N_word_weight P_word_weight (defScope s_word_weight) := ⟨rfl, rfl, rfl, by decide +kernel, rfl, by decide +kernel, by decide +kernel⟩
abbrev s_compare_words : Stmt := topS 20
abbrev N_compare_words : List Str := ["letters", "weights", "one", "other"]
abbrev P_compare_words : List Str := ["letters", "weights", "one", "other"]
theorem sc_compare_words : FnScope N_compare_words P_compare_words (defScope s_compare_words) := ⟨rfl, rfl, rfl, by decide +kernel, rfl, by decide +kernel, by decide +kernel⟩
abbrev s_sort_words : Stmt := topS 21
abbrev N_sort_words : List Str := ["letters", "weights", "words", "word", "keyed", "key"]
abbrev P_sort_words : List Str := ["letters", "weights", "words"]
theorem sc_sort_words : FnScope N_sort_words P_sort_words (defScope s_sort_words) := ⟨rfl, rfl, rfl, by decide +kernel, rfl, by decide +kernel, by decide +kernel⟩
abbrev s__law_draws : Stmt := topS 23
abbrev N__law_draws : List Str := ["script", "cell"]
abbrev P__law_draws : List Str := ["script"]
theorem sc__law_draws : FnScope N__law_draws P__law_draws (defScope s__law_draws) := ⟨rfl, rfl, rfl, by decide +kernel, rfl, by decide +kernel, by decide +kernel⟩
abbrev s__law_mixed : Stmt := topS 24
abbrev N__law_mixed : List Str := ["seed", "turn", "first", "second"]
abbrev P__law_mixed : List Str := ["seed", "turn"]
theorem sc__law_mixed : FnScope N__law_mixed P__law_mixed (defScope s__law_mixed) := ⟨rfl, rfl, rfl, by decide +kernel, rfl, by decide +kernel, by decide +kernel⟩
abbrev s__law_take : Stmt := topS 25
abbrev N__law_take : List Str := ["store", "size", "cell", "drawn"]
abbrev P__law_take : List Str := ["store", "size"]
theorem sc__law_take : FnScope N__law_take P__law_take (defScope s__law_take) := ⟨rfl, rfl, rfl, by decide +kernel, rfl, by decide +kernel, by decide +kernel⟩
abbrev s__law_span : Stmt := topS 26
abbrev N__law_span : List Str := ["store", "low", "high"]
abbrev P__law_span : List Str := ["store", "low", "high"]
theorem sc__law_span : FnScope N__law_span P__law_span (defScope s__law_span) := ⟨rfl, rfl, rfl, by decide +kernel, rfl, by decide +kernel, by decide +kernel⟩
abbrev s__law_rare : Stmt := topS 27
abbrev N__law_rare : List Str := ["store", "size"]
abbrev P__law_rare : List Str := ["store", "size"]
theorem sc__law_rare : FnScope N__law_rare P__law_rare (defScope s__law_rare) := ⟨rfl, rfl, rfl, by decide +kernel, rfl, by decide +kernel, by decide +kernel⟩
abbrev s__law_pick : Stmt := topS 28
abbrev N__law_pick : List Str := ["store", "row"]
abbrev P__law_pick : List Str := ["store", "row"]
theorem sc__law_pick : FnScope N__law_pick P__law_pick (defScope s__law_pick) := ⟨rfl, rfl, rfl, by decide +kernel, rfl, by decide +kernel, by decide +kernel⟩
abbrev s__law_in_range : Stmt := topS 29
abbrev N__law_in_range : List Str := ["store", "low", "high"]
abbrev P__law_in_range : List Str := ["store", "low", "high"]
theorem sc__law_in_range : FnScope N__law_in_range P__law_in_range (defScope s__law_in_range) := ⟨rfl, rfl, rfl, by decide +kernel, rfl, by decide +kernel, by decide +kernel⟩
abbrev s__law_out_of_range : Stmt := topS 30
abbrev N__law_out_of_range : List Str := ["store", "low", "high", "far"]
abbrev P__law_out_of_range : List Str := ["store", "low", "high"]
theorem sc__law_out_of_range : FnScope N__law_out_of_range P__law_out_of_range (defScope s__law_out_of_range) := ⟨rfl, rfl, rfl, by decide +kernel, rfl, by decide +kernel, by decide +kernel⟩
abbrev s__law_letters : Stmt := topS 31
abbrev N__law_letters : List Str := ["store", "low", "high", "size", "left", "out", "k", "spot"]
abbrev P__law_letters : List Str := ["store", "low", "high"]
theorem sc__law_letters : FnScope N__law_letters P__law_letters (defScope s__law_letters) := ⟨rfl, rfl, rfl, by decide +kernel, rfl, by decide +kernel, by decide +kernel⟩
abbrev s__law_stranger : Stmt := topS 32
abbrev N__law_stranger : List Str := ["store", "letters", "letter"]
abbrev P__law_stranger : List Str := ["store", "letters"]
theorem sc__law_stranger : FnScope N__law_stranger P__law_stranger (defScope s__law_stranger) := ⟨rfl, rfl, rfl, by decide +kernel, rfl, by decide +kernel, by decide +kernel⟩
abbrev s__law_bad_letters : Stmt := topS 33
abbrev N__law_bad_letters : List Str := ["store", "kind", "good", "spot"]
abbrev P__law_bad_letters : List Str := ["store"]
theorem sc__law_bad_letters : FnScope N__law_bad_letters P__law_bad_letters (defScope s__law_bad_letters) := ⟨rfl, rfl, rfl, by decide +kernel, rfl, by decide +kernel, by decide +kernel⟩
abbrev s__law_heavy : Stmt := topS 34
abbrev N__law_heavy : List Str := ["store", "size", "kind", "k"]
abbrev P__law_heavy : List Str := ["store", "size"]
theorem sc__law_heavy : FnScope N__law_heavy P__law_heavy (defScope s__law_heavy) := ⟨rfl, rfl, rfl, by decide +kernel, rfl, by decide +kernel, by decide +kernel⟩
abbrev s__law_bad_heavy : Stmt := topS 35
abbrev N__law_bad_heavy : List Str := ["store", "size", "out", "kind"]
abbrev P__law_bad_heavy : List Str := ["store", "size"]
theorem sc__law_bad_heavy : FnScope N__law_bad_heavy P__law_bad_heavy (defScope s__law_bad_heavy) := ⟨rfl, rfl, rfl, by decide +kernel, rfl, by decide +kernel, by decide +kernel⟩
abbrev s__law_word : Stmt := topS 36
abbrev N__law_word : List Str := ["store", "letters", "low", "high", "size", "kind", "piece", "k"]
abbrev P__law_word : List Str := ["store", "letters", "low", "high"]
theorem sc__law_word : FnScope N__law_word P__law_word (defScope s__law_word) := ⟨rfl, rfl, rfl, by decide +kernel, rfl, by decide +kernel, by decide +kernel⟩
abbrev s__law_bad_word : Stmt := topS 37
abbrev N__law_bad_word : List Str := ["store", "letters", "kind", "size", "word", "k", "spot", "odd"]
abbrev P__law_bad_word : List Str := ["store", "letters"]
theorem sc__law_bad_word : FnScope N__law_bad_word P__law_bad_word (defScope s__law_bad_word) := ⟨rfl, rfl, rfl, by decide +kernel, rfl, by decide +kernel, by decide +kernel⟩
abbrev s__law_same : Stmt := topS 38
abbrev N__law_same : List Str := ["told", "due", "k"]
abbrev P__law_same : List Str := ["told", "due"]
theorem sc__law_same : FnScope N__law_same P__law_same (defScope s__law_same) := ⟨rfl, rfl, rfl, by decide +kernel, rfl, by decide +kernel, by decide +kernel⟩
abbrev s__law_word_fault : Stmt := topS 39
abbrev N__law_word_fault : List Str := ["letters", "word", "size", "char"]
abbrev P__law_word_fault : List Str := ["letters", "word", "size"]
theorem sc__law_word_fault : FnScope N__law_word_fault P__law_word_fault (defScope s__law_word_fault) := ⟨rfl, rfl, rfl, by decide +kernel, rfl, by decide +kernel, by decide +kernel⟩
abbrev s__law_weigh : Stmt := topS 40
abbrev N__law_weigh : List Str := ["letters", "heavy", "word", "char"]
abbrev P__law_weigh : List Str := ["letters", "heavy", "word"]
theorem sc__law_weigh : FnScope N__law_weigh P__law_weigh (defScope s__law_weigh) := ⟨rfl, rfl, rfl, by decide +kernel, rfl, by decide +kernel, by decide +kernel⟩
abbrev s__law_order : Stmt := topS 41
abbrev N__law_order : List Str := ["letters", "heavy", "first", "second", "lead", "k"]
abbrev P__law_order : List Str := ["letters", "heavy", "first", "second"]
theorem sc__law_order : FnScope N__law_order P__law_order (defScope s__law_order) := ⟨rfl, rfl, rfl, by decide +kernel, rfl, by decide +kernel, by decide +kernel⟩
abbrev s__law_sorted : Stmt := topS 42
abbrev N__law_sorted : List Str := ["letters", "heavy", "words", "out", "word", "spot"]
abbrev P__law_sorted : List Str := ["letters", "heavy", "words"]
theorem sc__law_sorted : FnScope N__law_sorted P__law_sorted (defScope s__law_sorted) := ⟨rfl, rfl, rfl, by decide +kernel, rfl, by decide +kernel, by decide +kernel⟩
abbrev s__law_is_alphabet : Stmt := topS 43
abbrev N__law_is_alphabet : List Str := ["letters", "k"]
abbrev P__law_is_alphabet : List Str := ["letters"]
theorem sc__law_is_alphabet : FnScope N__law_is_alphabet P__law_is_alphabet (defScope s__law_is_alphabet) := ⟨rfl, rfl, rfl, by decide +kernel, rfl, by decide +kernel, by decide +kernel⟩
abbrev s__law_ask : Stmt := topS 44
abbrev N__law_ask : List Str := ["kind", "letters", "heavy", "words", "e", "plain", "marks"]
abbrev P__law_ask : List Str := ["kind", "letters", "heavy", "words"]
theorem sc__law_ask : FnScope N__law_ask P__law_ask (defScope s__law_ask) := ⟨rfl, rfl, rfl, by decide +kernel, rfl, by decide +kernel, by decide +kernel⟩
abbrev s__law_due : Stmt := topS 45
abbrev N__law_due : List Str := ["kind", "letters", "heavy", "words", "x", "asked", "word", "fault"]
abbrev P__law_due : List Str := ["kind", "letters", "heavy", "words"]
theorem sc__law_due : FnScope N__law_due P__law_due (defScope s__law_due) := ⟨rfl, rfl, rfl, by decide +kernel, rfl, by decide +kernel, by decide +kernel⟩
abbrev s__law_near : Stmt := topS 46
abbrev N__law_near : List Str := ["store", "letters", "word", "kind", "spot"]
abbrev P__law_near : List Str := ["store", "letters", "word"]
theorem sc__law_near : FnScope N__law_near P__law_near (defScope s__law_near) := ⟨rfl, rfl, rfl, by decide +kernel, rfl, by decide +kernel, by decide +kernel⟩
abbrev s__law_words : Stmt := topS 47
abbrev N__law_words : List Str := ["store", "letters", "size", "out", "k", "old"]
abbrev P__law_words : List Str := ["store", "letters"]
theorem sc__law_words : FnScope N__law_words P__law_words (defScope s__law_words) := ⟨rfl, rfl, rfl, by decide +kernel, rfl, by decide +kernel, by decide +kernel⟩
abbrev s__law_all_right : Stmt := topS 48
abbrev N__law_all_right : List Str := ["letters", "heavy", "words", "kind", "handed", "given", "due", "told"]
abbrev P__law_all_right : List Str := ["letters", "heavy", "words"]
theorem sc__law_all_right : FnScope N__law_all_right P__law_all_right (defScope s__law_all_right) := ⟨rfl, rfl, rfl, by decide +kernel, rfl, by decide +kernel, by decide +kernel⟩
abbrev s__law_large_right : Stmt := topS 49
abbrev N__law_large_right : List Str := ["store", "letters", "heavy", "words", "few", "times", "due", "word", "given", "size", "far", "spot", "bad", "pair"]
abbrev P__law_large_right : List Str := ["store", "letters", "heavy", "words"]
theorem sc__law_large_right : FnScope N__law_large_right P__law_large_right (defScope s__law_large_right) := ⟨rfl, rfl, rfl, by decide +kernel, rfl, by decide +kernel, by decide +kernel⟩
abbrev s_law : Stmt := topS 50
abbrev N_law : List Str := ["script", "store", "letters", "heavy", "words", "pair", "bad_letters", "bad_heavy", "bad_words", "k", "spot", "told"]
abbrev P_law : List Str := ["script"]
theorem sc_law : FnScope N_law P_law (defScope s_law) := ⟨rfl, rfl, rfl, by decide +kernel, rfl, by decide +kernel, by decide +kernel⟩
theorem KB_compare_words_3_2_1_0 {K : PySem.W.Frag} {f : Addr} {fd : FuncData} (F : Fun K "compare_words" "compare_words" s_compare_words f fd) : KBs fd P_compare_words 0 ["other", "one", "weights", "letters"] [3, 2, 1, 0] := by
  obtain ⟨oc, od, kV, doc, pm, an, cdv, ct, osl, rfl, lk, hcd⟩ := F.ex
  intro us ws hu hw
  match us, ws, hu, hw with
  | [], [w0, w1, w2, w3], _, _ => rfl
theorem KB_word_weight_2_1_0 {K : PySem.W.Frag} {f : Addr} {fd : FuncData} (F : Fun K "word_weight" "word_weight" s_word_weight f fd) : KBs fd P_word_weight 0 ["word", "weights", "letters"] [2, 1, 0] := by
  obtain ⟨oc, od, kV, doc, pm, an, cdv, ct, osl, rfl, lk, hcd⟩ := F.ex
  intro us ws hu hw
  match us, ws, hu, hw with
  | [], [w0, w1, w2], _, _ => rfl
theorem KB_sort_words_2_1_0 {K : PySem.W.Frag} {f : Addr} {fd : FuncData} (F : Fun K "sort_words" "sort_words" s_sort_words f fd) : KBs fd P_sort_words 0 ["words", "weights", "letters"] [2, 1, 0] := by
  obtain ⟨oc, od, kV, doc, pm, an, cdv, ct, osl, rfl, lk, hcd⟩ := F.ex
  intro us ws hu hw
  match us, ws, hu, hw with
  | [], [w0, w1, w2], _, _ => rfl
noncomputable def m_is_alphabet : MS := (mSeq (mIf (mNot (mB (mChain leD leD (mC (.int 1)) (mCB lenD (mCons (mV 0) mNil)) (mC (.int 6))))) (mRet (mC (.bl false))) mSkip)
  (mSeq (mIf (mB (mOp neD (mLenSet (mV 0)) (mCB lenD (mCons (mV 0) mNil)))) (mRet (mC (.bl false))) mSkip)
  (mRet (mCB allD (mCons (mLc [1] (mIt itA (mV 0)) (gtN 1) mYes (mChain leD leD (mC (.str "a")) (mV 1) (mC (.str "z")))) mNil)))))
noncomputable def f_is_alphabet : Fn := mDef 1 2 m_is_alphabet
noncomputable def m_check_letters : MS := (mIf (mNot (mB (mCall f_is_alphabet (mCons (mV 0) mNil)))) (mRaiseO 92 ["text"] (mCons (mV 0) mNil)) mSkip)
noncomputable def f_check_letters : Fn := mDef 1 1 m_check_letters
noncomputable def m_are_weights : MS := (mRet (mAndV (mOp eqD (mCB lenD (mCons (mV 1) mNil)) (mCB lenD (mCons (mV 0) mNil))) (mCB allD (mCons (mLc [2] (mIt itA (mV 1)) (gtN 2) mYes (mChain leD leD (mC (.int 1)) (mV 2) (mC (.int 99)))) mNil))))
noncomputable def f_are_weights : Fn := mDef 2 3 m_are_weights
noncomputable def m_check_weights : MS := (mIf (mNot (mB (mCall f_are_weights (mCons (mV 0) (mCons (mV 1) mNil))))) (mRaise0 73) mSkip)
noncomputable def f_check_weights : Fn := mDef 2 2 m_check_weights
noncomputable def m_has_letters_only : MS := (mRet (mCB allD (mCons (mLc [2] (mIt itA (mV 1)) (gtN 2) mYes (mOp inD (mV 2) (mV 0))) mNil)))
noncomputable def f_has_letters_only : Fn := mDef 2 3 m_has_letters_only
noncomputable def m_check_word : MS := (mSeq (mIf (mNot (mB (mCall f_has_letters_only (mCons (mV 0) (mCons (mV 1) mNil))))) (mRaiseO 111 ["text"] (mCons (mV 1) mNil)) mSkip)
  (mIf (mB (mOp gtD (mCB lenD (mCons (mV 1) mNil)) (mC (.int 32)))) (mRaise0 49) mSkip))
noncomputable def f_check_word : Fn := mDef 2 2 m_check_word
noncomputable def m_order_key : MS := (mSeq (mAsg (gtN 3) (mLc [4] (mIt itA (mV 2)) (gtN 4) mYes (mBM "str" sindexD (mV 0) (mCons (mV 4) mNil))))
  (mRet (mTup (mCons (mCB sumD (mCons (mLc [5] (mIt itA (mV 3)) (gtN 5) mYes (mOp ixD (mV 1) (mV 5))) mNil)) (mCons (mV 3) mNil)))))
noncomputable def f_order_key : Fn := mDef 3 6 m_order_key
noncomputable def m_word_weight : MS := (mSeq (mExpr (mCall f_check_letters (mCons (mV 0) mNil)))
  (mSeq (mExpr (mCall f_check_weights (mCons (mV 0) (mCons (mV 1) mNil))))
  (mSeq (mExpr (mCall f_check_word (mCons (mV 0) (mCons (mV 2) mNil))))
  (mRet (mOp ixD (mCall f_order_key (mCons (mV 0) (mCons (mV 1) (mCons (mV 2) mNil)))) (mC (.int 0)))))))
noncomputable def f_word_weight : Fn := mDef 3 3 m_word_weight
noncomputable def m_compare_words : MS := (mSeq (mExpr (mCall f_check_letters (mCons (mV 0) mNil)))
  (mSeq (mExpr (mCall f_check_weights (mCons (mV 0) (mCons (mV 1) mNil))))
  (mSeq (mExpr (mCall f_check_word (mCons (mV 0) (mCons (mV 2) mNil))))
  (mSeq (mExpr (mCall f_check_word (mCons (mV 0) (mCons (mV 3) mNil))))
  (mSeq (mIf (mB (mOp eqD (mV 2) (mV 3))) (mRet (mC (.int 0))) mSkip)
  (mSeq (mIf (mB (mOp ltDD (mCall f_order_key (mCons (mV 0) (mCons (mV 1) (mCons (mV 2) mNil)))) (mCall f_order_key (mCons (mV 0) (mCons (mV 1) (mCons (mV 3) mNil)))))) (mRet (mUn negD (mC (.int 1)))) mSkip)
  (mRet (mC (.int 1)))))))))
noncomputable def f_compare_words : Fn := mDef 4 4 m_compare_words
noncomputable def m_sort_words : MS := (mSeq (mExpr (mCall f_check_letters (mCons (mV 0) mNil)))
  (mSeq (mExpr (mCall f_check_weights (mCons (mV 0) (mCons (mV 1) mNil))))
  (mSeq (mFor (mIt itA (mV 2)) (gtN 3) (mExpr (mCall f_check_word (mCons (mV 0) (mCons (mV 3) mNil)))))
  (mSeq (mAsg (gtN 4) (mCB sortedD (mCons (mLc [3] (mIt itA (mV 2)) (gtN 3) mYes (mTup (mCons (mCall f_order_key (mCons (mV 0) (mCons (mV 1) (mCons (mV 3) mNil)))) (mCons (mV 3) mNil)))) mNil)))
  (mRet (mLcL [5, 3] (mIt itA (mV 4)) (gtTup 2 (gtCons (gtN 5) (gtCons (gtN 3) gtNil))) mYes (mV 3)))))))
noncomputable def f_sort_words : Fn := mDef 3 6 m_sort_words
noncomputable def m__law_draws : MS := (mRet (mLstL (mCons (mLc [1] (mIt itA (mV 0)) (gtN 1) mYes (mCB intD (mCons (mV 1) mNil))) (mCons (mC (.int 0)) (mCons (mC (.int 0)) (mCons (mC (.int 0)) (mCons (mC (.int 1)) (mCons (mC (.int 0)) mNil))))))))
noncomputable def f__law_draws : Fn := mDef 1 2 m__law_draws
noncomputable def m__law_mixed : MS := (mSeq (mAsg (gtN 2) (mOp modD (mCB intD (mCons (mOp addD (mOp addD (mOp mulD (mV 0) (mC (.int 48271))) (mOp mulD (mV 1) (mC (.int 69621)))) (mC (.int 11))) mNil)) (mC (.int 2147483647))))
  (mSeq (mAsg (gtN 3) (mOp modD (mCB intD (mCons (mOp addD (mOp addD (mOp mulD (mV 2) (mV 2)) (mOp mulD (mV 1) (mC (.int 40014)))) (mC (.int 7))) mNil)) (mC (.int 2147483399))))
  (mRet (mOp modD (mCB intD (mCons (mOp addD (mOp mulD (mV 3) (mV 3)) (mV 2)) mNil)) (mC (.int 2147483629))))))
noncomputable def f__law_mixed : Fn := mDef 2 4 m__law_mixed
noncomputable def m__law_take : MS := (mSeq (mIf (mB (mOp ltD (mV 1) (mC (.int 2)))) (mRet (mC (.int 0))) mSkip)
  (mSeq (mIf (mAnd (mB (mOp eqD (mOp ixD (mV 0) (mC (.int 2))) (mC (.int 0)))) (mAnd (mB (mOp eqD (mOp ixD (mV 0) (mC (.int 3))) (mC (.int 0)))) (mB (mOp ltD (mOp ixD (mV 0) (mC (.int 1))) (mCB lenD (mCons (mOp ixD (mV 0) (mC (.int 0))) mNil)))))) (mSeq (mAsg (gtN 2) (mOp ixD (mOp ixD (mV 0) (mC (.int 0))) (mOp ixD (mV 0) (mC (.int 1)))))
  (mSeq (mSub setD (mOp addD (mOp ixD (mV 0) (mC (.int 1))) (mC (.int 1))) (mV 0) (mC (.int 1)))
  (mSeq (mSub setD (mOp modD (mCB intD (mCons (mOp addD (mOp mulD (mOp ixD (mV 0) (mC (.int 4))) (mC (.int 16807))) (mV 2)) mNil)) (mC (.int 2147483647))) (mV 0) (mC (.int 4)))
  (mIf (mOr (mB (mOp geD (mV 2) (mOp powD (mC (.int 10)) (mC (.int 18))))) (mB (mOp geD (mUn negD (mV 2)) (mOp powD (mC (.int 10)) (mC (.int 18)))))) (mSub setD (mCB absD (mCons (mV 2) mNil)) (mV 0) (mC (.int 2))) (mSub setD (mC (.int 3)) (mV 0) (mC (.int 3))))))) mSkip)
  (mSeq (mIf (mB (mOp gtD (mOp ixD (mV 0) (mC (.int 2))) (mC (.int 0)))) (mSeq (mAsg (gtN 3) (mOp modD (mCB intD (mCons (mOp ixD (mV 0) (mC (.int 2))) mNil)) (mV 1)))
  (mSeq (mSub setD (mOp fdivD (mOp ixD (mV 0) (mC (.int 2))) (mV 1)) (mV 0) (mC (.int 2)))
  (mRet (mV 3)))) mSkip)
  (mSeq (mIf (mB (mOp gtD (mOp ixD (mV 0) (mC (.int 3))) (mC (.int 0)))) (mSub setD (mOp subD (mOp ixD (mV 0) (mC (.int 3))) (mC (.int 1))) (mV 0) (mC (.int 3))) mSkip)
  (mSeq (mSub setD (mOp addD (mOp ixD (mV 0) (mC (.int 5))) (mC (.int 1))) (mV 0) (mC (.int 5)))
  (mRet (mOp modD (mCB intD (mCons (mCall f__law_mixed (mCons (mOp ixD (mV 0) (mC (.int 4))) (mCons (mOp ixD (mV 0) (mC (.int 5))) mNil))) mNil)) (mV 1))))))))
noncomputable def f__law_take : Fn := mDef 2 4 m__law_take
noncomputable def m__law_span : MS := (mRet (mOp addD (mV 1) (mCall f__law_take (mCons (mV 0) (mCons (mOp addD (mOp subD (mV 2) (mV 1)) (mC (.int 1))) mNil)))))
noncomputable def f__law_span : Fn := mDef 3 3 m__law_span
noncomputable def m__law_rare : MS := (mRet (mOp eqD (mCall f__law_take (mCons (mV 0) (mCons (mV 1) mNil))) (mOp subD (mV 1) (mC (.int 1)))))
noncomputable def f__law_rare : Fn := mDef 2 2 m__law_rare
noncomputable def m__law_pick : MS := (mRet (mOp ixD (mV 1) (mCall f__law_take (mCons (mV 0) (mCons (mCB lenD (mCons (mV 1) mNil)) mNil)))))
noncomputable def f__law_pick : Fn := mDef 2 2 m__law_pick
noncomputable def m__law_in_range : MS := (mSeq (mIf (mB (mOp eqD (mCall f__law_take (mCons (mV 0) (mCons (mC (.int 3)) mNil))) (mC (.int 2)))) (mRet (mCall f__law_pick (mCons (mV 0) (mCons (mLst (mCons (mV 1) (mCons (mV 2) mNil))) mNil)))) mSkip)
  (mRet (mCall f__law_span (mCons (mV 0) (mCons (mV 1) (mCons (mV 2) mNil))))))
noncomputable def f__law_in_range : Fn := mDef 3 3 m__law_in_range
noncomputable def m__law_out_of_range : MS := (mSeq (mAsg (gtN 3) (mLst (mCons (mOp subD (mV 1) (mC (.int 1))) (mCons (mOp addD (mV 2) (mC (.int 1))) (mCons (mOp subD (mOp subD (mV 1) (mC (.int 2))) (mCall f__law_take (mCons (mV 0) (mCons (mC (.int 9)) mNil)))) (mCons (mOp addD (mOp addD (mV 2) (mC (.int 2))) (mCall f__law_take (mCons (mV 0) (mCons (mC (.int 999)) mNil)))) mNil))))))
  (mRet (mCall f__law_pick (mCons (mV 0) (mCons (mOp addD (mV 3) (mLst (mCons (mOp subD (mOp powD (mC (.int 10)) (mC (.int 18))) (mC (.int 1))) (mCons (mOp subD (mC (.int 1)) (mOp powD (mC (.int 10)) (mC (.int 18)))) mNil)))) mNil)))))
noncomputable def f__law_out_of_range : Fn := mDef 3 4 m__law_out_of_range
noncomputable def m__law_letters : MS := (mSeq (mAsg (gtN 3) (mCall f__law_span (mCons (mV 0) (mCons (mV 1) (mCons (mV 2) mNil)))))
  (mSeq (mAsg (gtN 4) (mC (.str "abcdefghijklmnopqrstuvwxyz")))
  (mSeq (mIf (mB (mOp eqD (mCall f__law_take (mCons (mV 0) (mCons (mC (.int 3)) mNil))) (mC (.int 0)))) (mRet (mSl slD (mV 4) mNoP (mP (mV 3)))) mSkip)
  (mSeq (mAsg (gtN 5) (mC (.str "")))
  (mSeq (mFor (mRng1 (mCons (mV 3) mNil)) (gtN 6) (mSeq (mAsg (gtN 7) (mCall f__law_take (mCons (mV 0) (mCons (mCB lenD (mCons (mV 4) mNil)) mNil))))
  (mSeq (mAsg (gtN 5) (mOp addD (mV 5) (mOp ixD (mV 4) (mV 7))))
  (mAsg (gtN 4) (mOp addD (mSl slD (mV 4) mNoP (mP (mV 7))) (mSl slD (mV 4) (mP (mOp addD (mV 7) (mC (.int 1)))) mNoP))))))
  (mRet (mV 5)))))))
noncomputable def f__law_letters : Fn := mDef 3 8 m__law_letters
noncomputable def m__law_stranger : MS := (mRet (mCall f__law_pick (mCons (mV 0) (mCons (mLc [2] (mIt itA (mC (.str "abcdefghijklmnopqrstuvwxyz"))) (gtN 2) (mB (mOp notInD (mV 2) (mV 1))) (mV 2)) mNil))))
noncomputable def f__law_stranger : Fn := mDef 2 3 m__law_stranger
noncomputable def m__law_bad_letters : MS := (mSeq (mAsg (gtN 1) (mCall f__law_take (mCons (mV 0) (mCons (mC (.int 5)) mNil))))
  (mSeq (mIf (mB (mOp eqD (mV 1) (mC (.int 0)))) (mRet (mC (.str ""))) mSkip)
  (mSeq (mIf (mB (mOp eqD (mV 1) (mC (.int 1)))) (mRet (mCall f__law_letters (mCons (mV 0) (mCons (mC (.int 7)) (mCons (mC (.int 8)) mNil))))) mSkip)
  (mSeq (mAsg (gtN 2) (mCall f__law_letters (mCons (mV 0) (mCons (mC (.int 1)) (mCons (mC (.int 6)) mNil)))))
  (mSeq (mAsg (gtN 3) (mCall f__law_take (mCons (mV 0) (mCons (mOp addD (mCB lenD (mCons (mV 2) mNil)) (mC (.int 1))) mNil))))
  (mSeq (mIf (mB (mOp eqD (mV 1) (mC (.int 2)))) (mRet (mOp addD (mOp addD (mSl slD (mV 2) mNoP (mP (mV 3))) (mCall f__law_pick (mCons (mV 0) (mCons (mV 2) mNil)))) (mSl slD (mV 2) (mP (mV 3)) mNoP))) mSkip)
  (mSeq (mIf (mB (mOp eqD (mV 1) (mC (.int 3)))) (mRet (mOp addD (mOp addD (mSl slD (mV 2) mNoP (mP (mV 3))) (mCall f__law_pick (mCons (mV 0) (mCons (mC (.str "AZ059 -_:~")) mNil)))) (mSl slD (mV 2) (mP (mV 3)) mNoP))) mSkip)
  (mSeq (mAsg (gtN 3) (mCall f__law_take (mCons (mV 0) (mCons (mCB lenD (mCons (mV 2) mNil)) mNil))))
  (mRet (mOp addD (mOp addD (mSl slD (mV 2) mNoP (mP (mV 3))) (mCall f__law_pick (mCons (mV 0) (mCons (mC (.str "AQZ1 .")) mNil)))) (mSl slD (mV 2) (mP (mOp addD (mV 3) (mC (.int 1)))) mNoP)))))))))))
noncomputable def f__law_bad_letters : Fn := mDef 1 4 m__law_bad_letters
noncomputable def m__law_heavy : MS := (mSeq (mAsg (gtN 2) (mCall f__law_take (mCons (mV 0) (mCons (mC (.int 4)) mNil))))
  (mSeq (mIf (mB (mOp ltD (mV 2) (mC (.int 2)))) (mRet (mLcL [3] (mRng1 (mCons (mV 1) mNil)) (gtN 3) mYes (mC (.int 1)))) mSkip)
  (mSeq (mIf (mB (mOp eqD (mV 2) (mC (.int 2)))) (mRet (mLcL [3] (mRng1 (mCons (mV 1) mNil)) (gtN 3) mYes (mCall f__law_span (mCons (mV 0) (mCons (mC (.int 1)) (mCons (mC (.int 3)) mNil)))))) mSkip)
  (mRet (mLcL [3] (mRng1 (mCons (mV 1) mNil)) (gtN 3) mYes (mCall f__law_in_range (mCons (mV 0) (mCons (mC (.int 1)) (mCons (mC (.int 99)) mNil)))))))))
noncomputable def f__law_heavy : Fn := mDef 2 4 m__law_heavy
noncomputable def m__law_bad_heavy : MS := (mSeq (mAsg (gtN 2) (mCall f__law_heavy (mCons (mV 0) (mCons (mV 1) mNil))))
  (mSeq (mAsg (gtN 3) (mCall f__law_take (mCons (mV 0) (mCons (mC (.int 5)) mNil))))
  (mSeq (mIf (mB (mOp eqD (mV 3) (mC (.int 0)))) (mRet (mSl slD (mV 2) mNoP (mP (mOp subD (mV 1) (mC (.int 1)))))) mSkip)
  (mSeq (mIf (mB (mOp eqD (mV 3) (mC (.int 1)))) (mRet (mOp addD (mV 2) (mLst (mCons (mCall f__law_in_range (mCons (mV 0) (mCons (mC (.int 1)) (mCons (mC (.int 99)) mNil)))) mNil)))) mSkip)
  (mSeq (mIf (mB (mOp eqD (mV 3) (mC (.int 2)))) (mRet (mLstL mNil)) mSkip)
  (mSeq (mSub setD (mCall f__law_out_of_range (mCons (mV 0) (mCons (mC (.int 1)) (mCons (mC (.int 99)) mNil)))) (mV 2) (mCall f__law_take (mCons (mV 0) (mCons (mV 1) mNil))))
  (mRet (mV 2))))))))
noncomputable def f__law_bad_heavy : Fn := mDef 2 4 m__law_bad_heavy
noncomputable def m__law_word : MS := (mSeq (mAsg (gtN 4) (mCall f__law_in_range (mCons (mV 0) (mCons (mV 2) (mCons (mV 3) mNil)))))
  (mSeq (mAsg (gtN 5) (mCall f__law_take (mCons (mV 0) (mCons (mC (.int 4)) mNil))))
  (mSeq (mIf (mB (mOp eqD (mV 5) (mC (.int 0)))) (mRet (mOp mulD (mCall f__law_pick (mCons (mV 0) (mCons (mV 1) mNil))) (mV 4))) mSkip)
  (mSeq (mIf (mB (mOp eqD (mV 5) (mC (.int 1)))) (mSeq (mAsg (gtN 6) (mOp addD (mCall f__law_pick (mCons (mV 0) (mCons (mV 1) mNil))) (mCall f__law_pick (mCons (mV 0) (mCons (mV 1) mNil)))))
  (mRet (mSl slD (mOp mulD (mV 6) (mV 4)) mNoP (mP (mV 4))))) mSkip)
  (mRet (mBM "str" joinD (mC (.str "")) (mCons (mLc [7] (mRng1 (mCons (mV 4) mNil)) (gtN 7) mYes (mCall f__law_pick (mCons (mV 0) (mCons (mV 1) mNil)))) mNil)))))))
noncomputable def f__law_word : Fn := mDef 4 8 m__law_word
noncomputable def m__law_bad_word : MS := (mSeq (mAsg (gtN 2) (mCall f__law_take (mCons (mV 0) (mCons (mC (.int 4)) mNil))))
  (mSeq (mAsg (gtN 3) (mCall f__law_take (mCons (mV 0) (mCons (mC (.int 7)) mNil))))
  (mSeq (mIf (mB (mOp gtD (mV 2) (mC (.int 1)))) (mAsg (gtN 3) (mOp addD (mC (.int 33)) (mCall f__law_take (mCons (mV 0) (mCons (mC (.int 8)) mNil))))) mSkip)
  (mSeq (mAsg (gtN 4) (mBM "str" joinD (mC (.str "")) (mCons (mLc [5] (mRng1 (mCons (mV 3) mNil)) (gtN 5) mYes (mCall f__law_pick (mCons (mV 0) (mCons (mV 1) mNil)))) mNil)))
  (mSeq (mIf (mB (mOp eqD (mV 2) (mC (.int 2)))) (mRet (mTup (mCons (mV 4) (mCons (mTup (mCons (mC (.str "TooLong")) mNil)) mNil)))) mSkip)
  (mSeq (mAsg (gtN 6) (mCall f__law_take (mCons (mV 0) (mCons (mOp addD (mV 3) (mC (.int 1))) mNil))))
  (mSeq (mAsg (gtN 7) (mCall f__law_pick (mCons (mV 0) (mCons (mC (.str " !\"#$&'()*+,-./0123456789:;<=>?@AMZ[\\]^_`{|}~")) mNil))))
  (mSeq (mAsg (gtN 4) (mOp addD (mOp addD (mSl slD (mV 4) mNoP (mP (mV 6))) (mCall f__law_pick (mCons (mV 0) (mCons (mLst (mCons (mCall f__law_stranger (mCons (mV 0) (mCons (mV 1) mNil))) (mCons (mV 7) mNil))) mNil)))) (mSl slD (mV 4) (mP (mV 6)) mNoP)))
  (mRet (mTup (mCons (mV 4) (mCons (mTup (mCons (mC (.str "BadWord")) (mCons (mV 4) mNil))) mNil))))))))))))
noncomputable def f__law_bad_word : Fn := mDef 2 8 m__law_bad_word
def m__law_same (fn_rec : Fn) : MS := (mSeq (mIf (mB (mOp isND (mV 1) (mC .non))) (mRet (mOp isND (mV 0) (mC .non))) mSkip)
  (mSeq (mIf (mB (mCB isiD (mCons (mV 1) (mCons (mC (.ty "bool")) mNil)))) (mRet (mAndV (mCB isiD (mCons (mV 0) (mCons (mC (.ty "bool")) mNil))) (mOp eqD (mV 0) (mV 1)))) mSkip)
  (mSeq (mIf (mB (mCB isiD (mCons (mV 1) (mCons (mC (.ty "int")) mNil)))) (mRet (mAndV (mCB isiD (mCons (mV 0) (mCons (mC (.ty "int")) mNil))) (mAndV (mNotV (mCB isiD (mCons (mV 0) (mCons (mC (.ty "bool")) mNil)))) (mOp eqD (mV 0) (mV 1))))) mSkip)
  (mSeq (mIf (mB (mCB isiD (mCons (mV 1) (mCons (mC (.ty "str")) mNil)))) (mRet (mAndV (mCB isiD (mCons (mV 0) (mCons (mC (.ty "str")) mNil))) (mOp eqD (mV 0) (mV 1)))) mSkip)
  (mSeq (mIf (mAnd (mB (mCB isiD (mCons (mV 1) (mCons (mC (.ty "tuple")) mNil)))) (mNot (mB (mCB isiD (mCons (mV 0) (mCons (mC (.ty "tuple")) mNil)))))) (mRet (mC (.bl false))) mSkip)
  (mSeq (mIf (mAnd (mB (mCB isiD (mCons (mV 1) (mCons (mC (.ty "list")) mNil)))) (mNot (mB (mCB isiD (mCons (mV 0) (mCons (mC (.ty "list")) mNil)))))) (mRet (mC (.bl false))) mSkip)
  (mSeq (mIf (mB (mOp neD (mCB lenD (mCons (mV 0) mNil)) (mCB lenD (mCons (mV 1) mNil)))) (mRet (mC (.bl false))) mSkip)
  (mSeq (mFor (mRng1 (mCons (mCB lenD (mCons (mV 1) mNil)) mNil)) (gtN 2) (mIf (mNot (mB (mCall (fn_rec) (mCons (mOp ixD (mV 0) (mV 2)) (mCons (mOp ixD (mV 1) (mV 2)) mNil))))) (mRet (mC (.bl false))) mSkip))
  (mRet (mC (.bl true)))))))))))
def f__law_same : Nat → Fn
  | 0 => fun _ _ => .bad
  | n + 1 => mDef 2 3 (m__law_same (f__law_same n))
noncomputable def m__law_word_fault : MS := (mSeq (mFor (mIt itA (mV 1)) (gtN 3) (mIf (mB (mOp notInD (mV 3) (mV 0))) (mRet (mTup (mCons (mC (.str "BadWord")) (mCons (mV 1) mNil)))) mSkip))
  (mSeq (mIf (mB (mOp gtD (mCB lenD (mCons (mV 1) mNil)) (mV 2))) (mRet (mTup (mCons (mC (.str "TooLong")) mNil))) mSkip)
  (mRet (mTup mNil))))
noncomputable def f__law_word_fault : Fn := mDef 3 4 m__law_word_fault
noncomputable def m__law_weigh : MS := (mRet (mCB sumD (mCons (mLc [3] (mIt itA (mV 2)) (gtN 3) mYes (mOp ixD (mV 1) (mBM "str" findD (mV 0) (mCons (mV 3) mNil)))) mNil)))
noncomputable def f__law_weigh : Fn := mDef 3 4 m__law_weigh
noncomputable def m__law_order : MS := (mSeq (mIf (mB (mOp eqD (mV 2) (mV 3))) (mRet (mC (.int 0))) mSkip)
  (mSeq (mAsg (gtN 4) (mOp subD (mCall f__law_weigh (mCons (mV 0) (mCons (mV 1) (mCons (mV 2) mNil)))) (mCall f__law_weigh (mCons (mV 0) (mCons (mV 1) (mCons (mV 3) mNil))))))
  (mSeq (mIf (mB (mOp eqD (mV 4) (mC (.int 0)))) (mFor (mRng1 (mCons (mCB lenD (mCons (mV 2) mNil)) mNil)) (gtN 5) (mIf (mB (mOp neD (mOp ixD (mV 2) (mV 5)) (mOp ixD (mV 3) (mV 5)))) (mSeq (mAsg (gtN 4) (mOp subD (mBM "str" findD (mV 0) (mCons (mOp ixD (mV 2) (mV 5)) mNil)) (mBM "str" findD (mV 0) (mCons (mOp ixD (mV 3) (mV 5)) mNil))))
  mBrk) mSkip)) mSkip)
  (mSeq (mIf (mB (mOp ltD (mV 4) (mC (.int 0)))) (mRet (mUn negD (mC (.int 1)))) mSkip)
  (mRet (mC (.int 1)))))))
noncomputable def f__law_order : Fn := mDef 4 6 m__law_order
noncomputable def m__law_sorted : MS := (mSeq (mAsg (gtN 3) (mLst mNil))
  (mSeq (mFor (mIt itA (mV 2)) (gtN 4) (mSeq (mAsg (gtN 5) (mCB lenD (mCons (mV 3) mNil)))
  (mSeq (mWhile whl (mAnd (mB (mOp gtD (mV 5) (mC (.int 0)))) (mB (mOp ltD (mCall f__law_order (mCons (mV 0) (mCons (mV 1) (mCons (mV 4) (mCons (mOp ixD (mV 3) (mOp subD (mV 5) (mC (.int 1)))) mNil))))) (mC (.int 0))))) (mAsg (gtN 5) (mOp subD (mV 5) (mC (.int 1)))))
  (mAsg (gtN 3) (mOp addD (mOp addD (mSl slD (mV 3) mNoP (mP (mV 5))) (mLst (mCons (mV 4) mNil))) (mSl slD (mV 3) (mP (mV 5)) mNoP))))))
  (mRet (mV 3))))
noncomputable def f__law_sorted : Fn := mDef 3 6 m__law_sorted
noncomputable def m__law_is_alphabet : MS := (mSeq (mIf (mOr (mB (mOp ltD (mCB lenD (mCons (mV 0) mNil)) (mC (.int 1)))) (mB (mOp gtD (mCB lenD (mCons (mV 0) mNil)) (mC (.int 6))))) (mRet (mC (.bl false))) mSkip)
  (mSeq (mFor (mRng1 (mCons (mCB lenD (mCons (mV 0) mNil)) mNil)) (gtN 1) (mIf (mOr (mB (mOp notInD (mOp ixD (mV 0) (mV 1)) (mC (.str "abcdefghijklmnopqrstuvwxyz")))) (mB (mOp inD (mOp ixD (mV 0) (mV 1)) (mSl slD (mV 0) mNoP (mP (mV 1)))))) (mRet (mC (.bl false))) mSkip))
  (mRet (mC (.bl true)))))
noncomputable def f__law_is_alphabet : Fn := mDef 1 2 m__law_is_alphabet
noncomputable def m__law_ask : MS := (mSeq (mTryAs 4 (tX.exm 24) (mSeq (mIf (mB (mOp eqD (mV 0) (mC (.int 0)))) (mRet (mTup (mCons (mC (.str "told")) (mCons (mCall f_compare_words (mCons (mV 1) (mCons (mV 2) (mCons (mOp ixD (mV 3) (mC (.int 0))) (mCons (mOp ixD (mV 3) (mC (.int 1))) mNil))))) mNil)))) mSkip)
  (mSeq (mIf (mB (mOp eqD (mV 0) (mC (.int 1)))) (mRet (mTup (mCons (mC (.str "told")) (mCons (mCall f_word_weight (mCons (mV 1) (mCons (mV 2) (mCons (mOp ixD (mV 3) (mC (.int 0))) mNil)))) mNil)))) mSkip)
  (mSeq (mIf (mB (mOp eqD (mV 0) (mC (.int 2)))) (mRet (mTup (mCons (mC (.str "told")) (mCons (mCall f_sort_words (mCons (mV 1) (mCons (mV 2) (mCons (mV 3) mNil)))) mNil)))) mSkip)
  (mSeq (mIf (mB (mOp eqD (mV 0) (mC (.int 3)))) (mRet (mTup (mCons (mC (.str "told")) (mCons (mCallK0 f_compare_words 4 [3, 2, 1, 0] (mCons (mOp ixD (mV 3) (mC (.int 1))) (mCons (mOp ixD (mV 3) (mC (.int 0))) (mCons (mV 2) (mCons (mV 1) mNil))))) mNil)))) mSkip)
  (mSeq (mIf (mB (mOp eqD (mV 0) (mC (.int 4)))) (mRet (mTup (mCons (mC (.str "told")) (mCons (mCallK0 f_word_weight 3 [2, 1, 0] (mCons (mOp ixD (mV 3) (mC (.int 0))) (mCons (mV 2) (mCons (mV 1) mNil)))) mNil)))) mSkip)
  (mRet (mTup (mCons (mC (.str "told")) (mCons (mCallK0 f_sort_words 3 [2, 1, 0] (mCons (mV 3) (mCons (mV 2) (mCons (mV 1) mNil)))) mNil))))))))) (fun a d y => (mSeq (mAsg (gtN 5) (mAndV (mCB (isxD a d (tX.isx (clsA y))) (mCons (mV 4) (mCons (mC (.ty "ValueError")) mNil))) (mNotV (mCB (isxD a d (tX.isx (clsA y))) (mCons (mV 4) (mCons (mC (.rf 61)) mNil))))))
  (mSeq (mAsg (gtN 6) (mLstL (mCons (mCB (isxD a d (tX.isx (clsA y))) (mCons (mV 4) (mCons (mC (.rf 92)) mNil))) (mCons (mCB (isxD a d (tX.isx (clsA y))) (mCons (mV 4) (mCons (mC (.rf 73)) mNil))) (mCons (mCB (isxD a d (tX.isx (clsA y))) (mCons (mV 4) (mCons (mC (.rf 111)) mNil))) (mCons (mCB (isxD a d (tX.isx (clsA y))) (mCons (mV 4) (mCons (mC (.rf 49)) mNil))) mNil))))))
  (mSeq (mExpr (mBM "list" appendD (mV 6) (mCons (mCB (isxD a d (tX.isx (clsA y))) (mCons (mV 4) (mCons (mC (.rf 37)) mNil))) mNil)))
  (mSeq (mIf (mAnd (mB (mV 5)) (mB (mOp eqD (mV 6) (mLst (mCons (mC (.bl true)) (mCons (mC (.bl false)) (mCons (mC (.bl false)) (mCons (mC (.bl false)) (mCons (mC (.bl false)) mNil))))))))) (mRet (mTup (mCons (mC (.str "BadLetters")) (mCons (mXf a d "text" (mV 4)) mNil)))) mSkip)
  (mSeq (mIf (mAnd (mB (mV 5)) (mB (mOp eqD (mV 6) (mLst (mCons (mC (.bl false)) (mCons (mC (.bl true)) (mCons (mC (.bl false)) (mCons (mC (.bl false)) (mCons (mC (.bl false)) mNil))))))))) (mRet (mTup (mCons (mC (.str "BadWeights")) mNil))) mSkip)
  (mSeq (mIf (mAnd (mB (mV 5)) (mB (mOp eqD (mV 6) (mLst (mCons (mC (.bl false)) (mCons (mC (.bl false)) (mCons (mC (.bl true)) (mCons (mC (.bl false)) (mCons (mC (.bl false)) mNil))))))))) (mRet (mTup (mCons (mC (.str "BadWord")) (mCons (mXf a d "text" (mV 4)) mNil)))) mSkip)
  (mIf (mAnd (mB (mV 5)) (mB (mOp eqD (mV 6) (mLst (mCons (mC (.bl false)) (mCons (mC (.bl false)) (mCons (mC (.bl false)) (mCons (mC (.bl true)) (mCons (mC (.bl true)) mNil))))))))) (mRet (mTup (mCons (mC (.str "TooLong")) mNil))) mSkip)))))))))
  (mRet (mTup (mCons (mC (.str "other")) mNil))))
noncomputable def f__law_ask : Fn := mDef 4 7 m__law_ask
noncomputable def m__law_due : MS := (mSeq (mIf (mNot (mB (mCall f__law_is_alphabet (mCons (mV 1) mNil)))) (mRet (mTup (mCons (mC (.str "BadLetters")) (mCons (mV 1) mNil)))) mSkip)
  (mSeq (mIf (mOr (mB (mOp neD (mCB lenD (mCons (mV 2) mNil)) (mCB lenD (mCons (mV 1) mNil)))) (mB (mOp gtD (mCB lenD (mCons (mLc [4] (mIt itA (mV 2)) (gtN 4) (mOr (mB (mOp ltD (mV 4) (mC (.int 1)))) (mB (mOp gtD (mV 4) (mC (.int 99))))) (mV 4)) mNil)) (mC (.int 0))))) (mRet (mTup (mCons (mC (.str "BadWeights")) mNil))) mSkip)
  (mSeq (mAsg (gtN 5) (mV 3))
  (mSeq (mIf (mB (mOp ltD (mV 0) (mC (.int 2)))) (mAsg (gtN 5) (mSl slD (mV 3) mNoP (mP (mOp subD (mC (.int 2)) (mV 0))))) mSkip)
  (mSeq (mFor (mIt itA (mV 5)) (gtN 6) (mSeq (mAsg (gtN 7) (mCall f__law_word_fault (mCons (mV 1) (mCons (mV 6) (mCons (mC (.int 32)) mNil)))))
  (mIf (mB (mOp gtD (mCB lenD (mCons (mV 7) mNil)) (mC (.int 0)))) (mRet (mV 7)) mSkip)))
  (mSeq (mIf (mB (mOp eqD (mV 0) (mC (.int 0)))) (mRet (mTup (mCons (mC (.str "told")) (mCons (mCall f__law_order (mCons (mV 1) (mCons (mV 2) (mCons (mOp ixD (mV 3) (mC (.int 0))) (mCons (mOp ixD (mV 3) (mC (.int 1))) mNil))))) mNil)))) mSkip)
  (mSeq (mIf (mB (mOp eqD (mV 0) (mC (.int 1)))) (mRet (mTup (mCons (mC (.str "told")) (mCons (mCall f__law_weigh (mCons (mV 1) (mCons (mV 2) (mCons (mOp ixD (mV 3) (mC (.int 0))) mNil)))) mNil)))) mSkip)
  (mRet (mTup (mCons (mC (.str "told")) (mCons (mCall f__law_sorted (mCons (mV 1) (mCons (mV 2) (mCons (mV 3) mNil)))) mNil)))))))))))
noncomputable def f__law_due : Fn := mDef 4 8 m__law_due
noncomputable def m__law_near : MS := (mSeq (mAsg (gtN 3) (mCall f__law_take (mCons (mV 0) (mCons (mC (.int 7)) mNil))))
  (mSeq (mAsg (gtN 4) (mCall f__law_take (mCons (mV 0) (mCons (mOp addD (mCB lenD (mCons (mV 2) mNil)) (mC (.int 1))) mNil))))
  (mSeq (mIf (mB (mOp eqD (mV 3) (mC (.int 0)))) (mRet (mV 2)) mSkip)
  (mSeq (mIf (mB (mOp eqD (mV 3) (mC (.int 1)))) (mRet (mSl slD (mV 2) mNoP (mP (mV 4)))) mSkip)
  (mSeq (mIf (mB (mOp eqD (mV 3) (mC (.int 2)))) (mRet (mOp addD (mSl slD (mV 2) (mP (mV 4)) mNoP) (mSl slD (mV 2) mNoP (mP (mV 4))))) mSkip)
  (mSeq (mIf (mB (mOp eqD (mV 3) (mC (.int 3)))) (mRet (mRev (mV 2))) mSkip)
  (mSeq (mIf (mB (mOp ltD (mV 3) (mC (.int 6)))) (mRet (mSl slD (mOp addD (mOp addD (mSl slD (mV 2) mNoP (mP (mV 4))) (mCall f__law_pick (mCons (mV 0) (mCons (mV 1) mNil)))) (mSl slD (mV 2) (mP (mOp addD (mV 4) (mC (.int 1)))) mNoP)) mNoP (mP (mC (.int 32))))) mSkip)
  (mRet (mCall f__law_word (mCons (mV 0) (mCons (mV 1) (mCons (mC (.int 0)) (mCons (mC (.int 32)) mNil)))))))))))))
noncomputable def f__law_near : Fn := mDef 3 5 m__law_near
noncomputable def m__law_words : MS := (mSeq (mAsg (gtN 2) (mOp addD (mC (.int 2)) (mCall f__law_take (mCons (mV 0) (mCons (mC (.int 7)) mNil)))))
  (mSeq (mIf (mB (mCall f__law_rare (mCons (mV 0) (mCons (mC (.int 10)) mNil)))) (mAsg (gtN 2) (mOp addD (mC (.int 20)) (mCall f__law_take (mCons (mV 0) (mCons (mC (.int 21)) mNil))))) mSkip)
  (mSeq (mAsg (gtN 3) (mLstL (mCons (mCall f__law_word (mCons (mV 0) (mCons (mV 1) (mCons (mC (.int 0)) (mCons (mCall f__law_pick (mCons (mV 0) (mCons (mLst (mCons (mC (.int 6)) (mCons (mC (.int 6)) (mCons (mC (.int 32)) mNil)))) mNil))) mNil))))) mNil)))
  (mSeq (mFor (mRng1 (mCons (mOp subD (mV 2) (mC (.int 1))) mNil)) (gtN 4) (mSeq (mAsg (gtN 5) (mCall f__law_pick (mCons (mV 0) (mCons (mV 3) mNil))))
  (mExpr (mBM "list" appendD (mV 3) (mCons (mCall f__law_near (mCons (mV 0) (mCons (mV 1) (mCons (mV 5) mNil)))) mNil)))))
  (mRet (mV 3))))))
noncomputable def f__law_words : Fn := mDef 2 6 m__law_words
noncomputable def m__law_all_right : MS := (mSeq (mFor (mIt itA (mLst (mCons (mC (.int 0)) (mCons (mC (.int 1)) (mCons (mC (.int 2)) mNil))))) (gtN 3) (mSeq (mAsg (gtN 4) (mCB listD (mCons (mV 1) mNil)))
  (mSeq (mAsg (gtN 5) (mCB listD (mCons (mV 2) mNil)))
  (mSeq (mAsg (gtN 6) (mCall f__law_due (mCons (mV 3) (mCons (mV 0) (mCons (mV 1) (mCons (mV 2) mNil))))))
  (mSeq (mAsg (gtN 7) (mCall f__law_ask (mCons (mV 3) (mCons (mV 0) (mCons (mV 4) (mCons (mV 5) mNil))))))
  (mSeq (mIf (mOr (mNot (mB (mCall (f__law_same 8) (mCons (mV 7) (mCons (mV 6) mNil))))) (mOr (mB (mOp neD (mV 4) (mV 1))) (mB (mOp neD (mV 5) (mV 2))))) (mRet (mC (.bl false))) mSkip)
  (mSeq (mIf (mAnd (mB (mOp eqD (mV 3) (mC (.int 2)))) (mB (mOp eqD (mOp ixD (mV 7) (mC (.int 0))) (mC (.str "told"))))) (mSeq (mExpr (mBM "list" appendD (mOp ixD (mV 7) (mC (.int 1))) (mCons (mC (.str "spoilt")) mNil)))
  (mSub setD (mC (.str "spoilt")) (mOp ixD (mV 7) (mC (.int 1))) (mC (.int 0)))) mSkip)
  (mSeq (mIf (mOr (mB (mOp neD (mV 5) (mV 2))) (mNot (mB (mCall (f__law_same 8) (mCons (mFrzT (mCall f__law_ask (mCons (mV 3) (mCons (mV 0) (mCons (mV 4) (mCons (mV 5) mNil)))))) (mCons (mV 6) mNil)))))) (mRet (mC (.bl false))) mSkip)
  (mIf (mOr (mNot (mB (mCall (f__law_same 8) (mCons (mFrzT (mCall f__law_ask (mCons (mOp addD (mV 3) (mC (.int 3))) (mCons (mV 0) (mCons (mV 4) (mCons (mV 5) mNil)))))) (mCons (mV 6) mNil))))) (mOr (mB (mOp neD (mV 4) (mV 1))) (mB (mOp neD (mV 5) (mV 2))))) (mRet (mC (.bl false))) mSkip)))))))))
  (mRet (mC (.bl true))))
noncomputable def f__law_all_right : Fn := mDef 3 8 m__law_all_right
noncomputable def m__law_large_right : MS := (mSeq (mAsg (gtN 4) (mSl slD (mV 3) mNoP (mP (mC (.int 5)))))
  (mSeq (mAsg (gtN 5) (mCall f__law_in_range (mCons (mV 0) (mCons (mOp addD (mOp fdivD (mC (.int 401)) (mCB lenD (mCons (mV 4) mNil))) (mC (.int 1))) (mCons (mOp fdivD (mC (.int 1000)) (mCB lenD (mCons (mV 4) mNil))) mNil)))))
  (mSeq (mAsg (gtN 6) (mLst mNil))
  (mSeq (mFor (mIt itA (mCall f__law_sorted (mCons (mV 1) (mCons (mV 2) (mCons (mV 4) mNil))))) (gtN 7) (mAsg (gtN 6) (mOp addD (mV 6) (mOp mulD (mLst (mCons (mV 7) mNil)) (mV 5)))))
  (mSeq (mAsg (gtN 8) (mOp mulD (mV 4) (mV 5)))
  (mSeq (mIf (mOr (mNot (mB (mCall (f__law_same 8) (mCons (mFrzT (mCall f__law_ask (mCons (mC (.int 2)) (mCons (mV 1) (mCons (mCB listD (mCons (mV 2) mNil)) (mCons (mV 8) mNil)))))) (mCons (mTup (mCons (mC (.str "told")) (mCons (mV 6) mNil))) mNil))))) (mB (mOp neD (mV 8) (mOp mulD (mV 4) (mV 5))))) (mRet (mC (.bl false))) mSkip)
  (mSeq (mAsg (gtN 9) (mCall f__law_in_range (mCons (mV 0) (mCons (mC (.int 33)) (mCons (mC (.int 4990)) mNil)))))
  (mSeq (mAsg (gtN 10) (mOp mulD (mSl slD (mV 1) mNoP (mP (mC (.int 1)))) (mV 9)))
  (mSeq (mAsg (gtN 11) (mCall f__law_take (mCons (mV 0) (mCons (mOp addD (mV 9) (mC (.int 1))) mNil))))
  (mSeq (mAsg (gtN 12) (mOp addD (mOp addD (mSl slD (mV 10) mNoP (mP (mV 11))) (mCall f__law_pick (mCons (mV 0) (mCons (mC (.str "?A 1-")) mNil)))) (mSl slD (mV 10) (mP (mV 11)) mNoP)))
  (mSeq (mFor (mIt itA (mLst (mCons (mLst (mCons (mV 10) (mCons (mOp ixD (mV 3) (mC (.int 0))) mNil))) (mCons (mLst (mCons (mOp ixD (mV 3) (mC (.int 0))) (mCons (mV 12) mNil))) (mCons (mLst (mCons (mV 12) (mCons (mV 10) mNil))) mNil))))) (gtN 13) (mIf (mNot (mB (mCall f__law_all_right (mCons (mV 1) (mCons (mV 2) (mCons (mV 13) mNil)))))) (mRet (mC (.bl false))) mSkip))
  (mRet (mCall f__law_all_right (mCons (mOp mulD (mV 1) (mC (.int 800))) (mCons (mV 2) (mCons (mLst (mCons (mOp ixD (mV 3) (mC (.int 0))) (mCons (mV 12) mNil))) mNil))))))))))))))))
noncomputable def f__law_large_right : Fn := mDef 4 14 m__law_large_right
noncomputable def m_law : MS := (mSeq (mAsg (gtN 1) (mCall f__law_draws (mCons (mV 0) mNil)))
  (mSeq (mAsg (gtN 2) (mCall f__law_letters (mCons (mV 1) (mCons (mC (.int 1)) (mCons (mC (.int 6)) mNil)))))
  (mSeq (mAsg (gtN 3) (mFrz (mCall f__law_heavy (mCons (mV 1) (mCons (mCB lenD (mCons (mV 2) mNil)) mNil)))))
  (mSeq (mAsg (gtN 4) (mFrz (mCall f__law_words (mCons (mV 1) (mCons (mV 2) mNil)))))
  (mSeq (mIf (mNot (mB (mCall f__law_all_right (mCons (mV 2) (mCons (mV 3) (mCons (mV 4) mNil)))))) (mRet (mC (.bl false))) mSkip)
  (mSeq (mFor (mIt itA (mLst (mCons (mLst (mCons (mOp ixD (mV 4) (mC (.int 1))) (mCons (mOp ixD (mV 4) (mC (.int 0))) mNil))) (mCons (mLst (mCons (mOp ixD (mV 4) (mC (.int 0))) (mCons (mOp ixD (mV 4) (mC (.int 0))) mNil))) (mCons (mLst (mCons (mOp ixD (mV 4) (mUn negD (mC (.int 1)))) (mCons (mOp ixD (mV 4) (mC (.int 0))) mNil))) mNil))))) (gtN 5) (mIf (mNot (mB (mCall f__law_all_right (mCons (mV 2) (mCons (mV 3) (mCons (mV 5) mNil)))))) (mRet (mC (.bl false))) mSkip))
  (mSeq (mIf (mNot (mB (mCall (f__law_same 8) (mCons (mFrzT (mCall f__law_ask (mCons (mC (.int 2)) (mCons (mV 2) (mCons (mCB listD (mCons (mV 3) mNil)) (mCons (mLst mNil) mNil)))))) (mCons (mTup (mCons (mC (.str "told")) (mCons (mLst mNil) mNil))) mNil))))) (mRet (mC (.bl false))) mSkip)
  (mSeq (mIf (mNot (mB (mCall f__law_all_right (mCons (mRev (mV 2)) (mCons (mRev (mV 3)) (mCons (mV 4) mNil)))))) (mRet (mC (.bl false))) mSkip)
  (mSeq (mAsg (gtN 6) (mV 2))
  (mSeq (mAsg (gtN 7) (mV 3))
  (mSeq (mAsg (gtN 8) (mCB listDL (mCons (mV 4) mNil)))
  (mSeq (mIf (mB (mOp eqD (mCall f__law_take (mCons (mV 1) (mCons (mC (.int 3)) mNil))) (mC (.int 0)))) (mAsg (gtN 6) (mCall f__law_bad_letters (mCons (mV 1) mNil))) mSkip)
  (mSeq (mIf (mB (mOp eqD (mCall f__law_take (mCons (mV 1) (mCons (mC (.int 3)) mNil))) (mC (.int 0)))) (mAsg (gtN 7) (mFrz (mCall f__law_bad_heavy (mCons (mV 1) (mCons (mCB lenD (mCons (mV 2) mNil)) mNil))))) mSkip)
  (mSeq (mFor (mRng1 (mCons (mOp addD (mC (.int 1)) (mCall f__law_take (mCons (mV 1) (mCons (mC (.int 2)) mNil)))) mNil)) (gtN 9) (mSeq (mAsg (gtN 10) (mCall f__law_pick (mCons (mV 1) (mCons (mLst (mCons (mC (.int 0)) (mCons (mC (.int 1)) (mCons (mCall f__law_take (mCons (mV 1) (mCons (mCB lenD (mCons (mV 4) mNil)) mNil))) mNil)))) mNil))))
  (mSub setD (mOp ixD (mCall f__law_bad_word (mCons (mV 1) (mCons (mV 2) mNil))) (mC (.int 0))) (mV 8) (mV 10))))
  (mSeq (mFrzV 8)
  (mSeq (mFor (mIt itA (mLst (mCons (mTup (mCons (mV 6) (mCons (mV 3) (mCons (mV 4) mNil)))) (mCons (mTup (mCons (mV 2) (mCons (mV 7) (mCons (mV 4) mNil)))) (mCons (mTup (mCons (mV 2) (mCons (mV 3) (mCons (mV 8) mNil)))) mNil))))) (gtN 11) (mIf (mNot (mB (mCall f__law_all_right (mCons (mOp ixD (mV 11) (mC (.int 0))) (mCons (mOp ixD (mV 11) (mC (.int 1))) (mCons (mOp ixD (mV 11) (mC (.int 2))) mNil)))))) (mRet (mC (.bl false))) mSkip))
  (mSeq (mIf (mNot (mB (mCall f__law_all_right (mCons (mV 6) (mCons (mV 7) (mCons (mV 8) mNil)))))) (mRet (mC (.bl false))) mSkip)
  (mSeq (mIf (mAnd (mB (mCall f__law_rare (mCons (mV 1) (mCons (mC (.int 4)) mNil)))) (mNot (mB (mCall f__law_large_right (mCons (mV 1) (mCons (mV 2) (mCons (mV 3) (mCons (mV 4) mNil)))))))) (mRet (mC (.bl false))) mSkip)
  (mRet (mCall f__law_all_right (mCons (mV 2) (mCons (mV 3) (mCons (mV 4) mNil)))))))))))))))))))))))
noncomputable def f_law : Fn := mDef 1 12 m_law
section
variable {P : Program} {w : World} {K : PySem.W.Frag} {mg : Str → Option Value} {base : Heap}
theorem oki_BadLetters (X : Xk K 92 [24]) (no : ∀ f ∈ (["text"] : List Str), PySem.W.findIn K (.ref 92) f = some none) {f : Addr} {fd : FuncData} (D : Dfi K 92 "BadLetters.__init__" s_BadLetters_i f fd P_BadLetters_i) :
    FnOk P w K mg base (L2.CX P w) 1 f fd P_BadLetters_i (iniSp K 92 ["text"]) :=
  ini_ok D.F sc_BadLetters_i rfl (by decide) (by decide) fun cdv A outer s H E hr => (by
    have e : defBody s_BadLetters_i = _ := rfl
    rw [e]
    exact (.cons (ps_ost (pv 0) (pv 1)) (no "text" (by decide)) .nil))
theorem oki_BadWord (X : Xk K 111 [24]) (no : ∀ f ∈ (["text"] : List Str), PySem.W.findIn K (.ref 111) f = some none) {f : Addr} {fd : FuncData} (D : Dfi K 111 "BadWord.__init__" s_BadWord_i f fd P_BadWord_i) :
    FnOk P w K mg base (L2.CX P w) 1 f fd P_BadWord_i (iniSp K 111 ["text"]) :=
  ini_ok D.F sc_BadWord_i rfl (by decide) (by decide) fun cdv A outer s H E hr => (by
    have e : defBody s_BadWord_i = _ := rfl
    rw [e]
    exact (.cons (ps_ost (pv 0) (pv 1)) (no "text" (by decide)) .nil))
theorem ok_is_alphabet (T : Bt K mg) {a_is_alphabet : Addr} {fd_is_alphabet : FuncData} (D_is_alphabet : Df K mg "is_alphabet" s_is_alphabet a_is_alphabet fd_is_alphabet P_is_alphabet)   :
    FnOk P w K mg base (L2.CX P w) 1 a_is_alphabet fd_is_alphabet P_is_alphabet (spF K f_is_alphabet) :=
  fn_ok D_is_alphabet.F sc_is_alphabet fun cdv A outer s H E hr => by
    have tk : Takes (cxOf (L2.CX P w) P w K mg base N_is_alphabet "is_alphabet" (defScope s_is_alphabet) a_is_alphabet cdv A outer s H E) (WD E) := takes_of rfl rfl rfl rfl
    have pw := passes_of (X := cxOf (L2.CX P w) P w K mg base N_is_alphabet "is_alphabet" (defScope s_is_alphabet) a_is_alphabet cdv A outer s H E) rfl
    exact (jb_cons (js_if (jt_not (jt_chain op_leD sp_le op_leD sp_le je_int (je_callB call_len cs_len (by rfl) T.z_len (by decide +kernel) (ja_cons (je_v 0) ja_nil)) (je_gint (by rfl) T.g_LETTERS))) (jb_one (js_ret je_bl)) jb_nil)
    (jb_cons (js_if (jt_cmp (op_neA hr.units) sp_ne (je_lenSet rfl (by rfl) T.z_len (by rfl) T.z_set (je_v 0)) (je_callB call_len cs_len (by rfl) T.z_len (by decide +kernel) (ja_cons (je_v 0) ja_nil)) (nomark _)) (jb_one (js_ret je_bl)) jb_nil)
    (jb_one (js_ret (je_callB (cr_all rfl) cs_all (by rfl) T.z_all (by decide +kernel) (ja_cons (je_lc (own := [("letter", 1)]) rfl sc_is_alphabet.nd (ji_any (je_v 0)) (blkOk_by (own := [("letter", 1)]) (N := N_is_alphabet) (sc := defScope s_is_alphabet) (by decide +kernel)) (fun _ _ _ _ _ => (pg_name (i := 1) sc_is_alphabet.nd rfl (Or.inl rfl))) (gt_name (by decide)) (fun _ _ _ _ _ => jts_nil) (fun _ _ _ _ _ => (je_chain op_leD sp_le op_leD sp_le je_str (je_v 1) je_str))) ja_nil))))))
theorem ok_check_letters (T : Bt K mg) {a_check_letters : Addr} {fd_check_letters : FuncData} (D_check_letters : Df K mg "check_letters" s_check_letters a_check_letters fd_check_letters P_check_letters) {a_is_alphabet : Addr} {fd_is_alphabet : FuncData} (D_is_alphabet : Df K mg "is_alphabet" s_is_alphabet a_is_alphabet fd_is_alphabet P_is_alphabet) (G_is_alphabet : FnOk P w K mg base (L2.CX P w) 1 a_is_alphabet fd_is_alphabet P_is_alphabet (spF K f_is_alphabet)) {a_BadLetters_i : Addr} {fd_BadLetters_i : FuncData} (Di_BadLetters : Dfi K 92 "BadLetters.__init__" s_BadLetters_i a_BadLetters_i fd_BadLetters_i P_BadLetters_i) (Gi_BadLetters : FnOk P w K mg base (L2.CX P w) 1 a_BadLetters_i fd_BadLetters_i P_BadLetters_i (iniSp K 92 ["text"])) :
    FnOk P w K mg base (L2.CX P w) 3 a_check_letters fd_check_letters P_check_letters (spF K f_check_letters) :=
  fn_ok D_check_letters.F sc_check_letters fun cdv A outer s H E hr => by
    have tk : Takes (cxOf (L2.CX P w) P w K mg base N_check_letters "check_letters" (defScope s_check_letters) a_check_letters cdv A outer s H E) (WD E) := takes_of rfl rfl rfl rfl
    have pw := passes_of (X := cxOf (L2.CX P w) P w K mg base N_check_letters "check_letters" (defScope s_check_letters) a_check_letters cdv A outer s H E) rfl
    exact (jb_one (js_if (jt_not (jt_val (je_call G_is_alphabet (hr.mono (by decide)) (by rfl) D_is_alphabet.g D_is_alphabet.k D_is_alphabet.b tk (ja_cons (je_v 0) ja_nil)))) (jb_one (js_raiseO (ns := ["text"]) rfl tk (T.xt.get (C := 92) rfl).oc Di_BadLetters.i Di_BadLetters.t Gi_BadLetters (hr.mono (by decide)) Di_BadLetters.b (by rfl) T.k_BadLetters (by decide) (ja_cons (je_v 0) ja_nil))) jb_nil))
theorem ok_are_weights (T : Bt K mg) {a_are_weights : Addr} {fd_are_weights : FuncData} (D_are_weights : Df K mg "are_weights" s_are_weights a_are_weights fd_are_weights P_are_weights)   :
    FnOk P w K mg base (L2.CX P w) 1 a_are_weights fd_are_weights P_are_weights (spF K f_are_weights) :=
  fn_ok D_are_weights.F sc_are_weights fun cdv A outer s H E hr => by
    have tk : Takes (cxOf (L2.CX P w) P w K mg base N_are_weights "are_weights" (defScope s_are_weights) a_are_weights cdv A outer s H E) (WD E) := takes_of rfl rfl rfl rfl
    have pw := passes_of (X := cxOf (L2.CX P w) P w K mg base N_are_weights "are_weights" (defScope s_are_weights) a_are_weights cdv A outer s H E) rfl
    exact (jb_one (js_ret (je_and (je_cmp (op_eqA hr.units) sp_eq (je_callB call_len cs_len (by rfl) T.z_len (by decide +kernel) (ja_cons (je_v 1) ja_nil)) (je_callB call_len cs_len (by rfl) T.z_len (by decide +kernel) (ja_cons (je_v 0) ja_nil)) (nomark _)) (je_one (je_callB (cr_all rfl) cs_all (by rfl) T.z_all (by decide +kernel) (ja_cons (je_lc (own := [("weight", 2)]) rfl sc_are_weights.nd (ji_any (je_v 1)) (blkOk_by (own := [("weight", 2)]) (N := N_are_weights) (sc := defScope s_are_weights) (by decide +kernel)) (fun _ _ _ _ _ => (pg_name (i := 2) sc_are_weights.nd rfl (Or.inl rfl))) (gt_name (by decide)) (fun _ _ _ _ _ => jts_nil) (fun _ _ _ _ _ => (je_chain op_leD sp_le op_leD sp_le je_int (je_v 2) (je_gint (by rfl) T.g_WEIGHT)))) ja_nil))))))
theorem ok_check_weights (T : Bt K mg) {a_check_weights : Addr} {fd_check_weights : FuncData} (D_check_weights : Df K mg "check_weights" s_check_weights a_check_weights fd_check_weights P_check_weights) {a_are_weights : Addr} {fd_are_weights : FuncData} (D_are_weights : Df K mg "are_weights" s_are_weights a_are_weights fd_are_weights P_are_weights) (G_are_weights : FnOk P w K mg base (L2.CX P w) 1 a_are_weights fd_are_weights P_are_weights (spF K f_are_weights))  :
    FnOk P w K mg base (L2.CX P w) 2 a_check_weights fd_check_weights P_check_weights (spF K f_check_weights) :=
  fn_ok D_check_weights.F sc_check_weights fun cdv A outer s H E hr => by
    have tk : Takes (cxOf (L2.CX P w) P w K mg base N_check_weights "check_weights" (defScope s_check_weights) a_check_weights cdv A outer s H E) (WD E) := takes_of rfl rfl rfl rfl
    have pw := passes_of (X := cxOf (L2.CX P w) P w K mg base N_check_weights "check_weights" (defScope s_check_weights) a_check_weights cdv A outer s H E) rfl
    exact (jb_one (js_if (jt_not (jt_val (je_call G_are_weights (hr.mono (by decide)) (by rfl) D_are_weights.g D_are_weights.k D_are_weights.b tk (ja_cons (je_v 0) (ja_cons (je_v 1) ja_nil))))) (jb_one (js_raise0 rfl tk PySem.F.excBase_ValueError T.q_BadWeights (T.xt.get (C := 73) rfl).xc T.k_BadWeights (by rfl))) jb_nil))
theorem ok_has_letters_only (T : Bt K mg) {a_has_letters_only : Addr} {fd_has_letters_only : FuncData} (D_has_letters_only : Df K mg "has_letters_only" s_has_letters_only a_has_letters_only fd_has_letters_only P_has_letters_only)   :
    FnOk P w K mg base (L2.CX P w) 1 a_has_letters_only fd_has_letters_only P_has_letters_only (spF K f_has_letters_only) :=
  fn_ok D_has_letters_only.F sc_has_letters_only fun cdv A outer s H E hr => by
    have tk : Takes (cxOf (L2.CX P w) P w K mg base N_has_letters_only "has_letters_only" (defScope s_has_letters_only) a_has_letters_only cdv A outer s H E) (WD E) := takes_of rfl rfl rfl rfl
    have pw := passes_of (X := cxOf (L2.CX P w) P w K mg base N_has_letters_only "has_letters_only" (defScope s_has_letters_only) a_has_letters_only cdv A outer s H E) rfl
    exact (jb_one (js_ret (je_callB (cr_all rfl) cs_all (by rfl) T.z_all (by decide +kernel) (ja_cons (je_lc (own := [("letter", 2)]) rfl sc_has_letters_only.nd (ji_any (je_v 1)) (blkOk_by (own := [("letter", 2)]) (N := N_has_letters_only) (sc := defScope s_has_letters_only) (by decide +kernel)) (fun _ _ _ _ _ => (pg_name (i := 2) sc_has_letters_only.nd rfl (Or.inl rfl))) (gt_name (by decide)) (fun _ _ _ _ _ => jts_nil) (fun _ _ _ _ _ => (je_cmp op_inA sp_in (je_v 2) (je_v 0) (by rfl)))) ja_nil))))
theorem ok_check_word (T : Bt K mg) {a_check_word : Addr} {fd_check_word : FuncData} (D_check_word : Df K mg "check_word" s_check_word a_check_word fd_check_word P_check_word) {a_has_letters_only : Addr} {fd_has_letters_only : FuncData} (D_has_letters_only : Df K mg "has_letters_only" s_has_letters_only a_has_letters_only fd_has_letters_only P_has_letters_only) (G_has_letters_only : FnOk P w K mg base (L2.CX P w) 1 a_has_letters_only fd_has_letters_only P_has_letters_only (spF K f_has_letters_only)) {a_BadWord_i : Addr} {fd_BadWord_i : FuncData} (Di_BadWord : Dfi K 111 "BadWord.__init__" s_BadWord_i a_BadWord_i fd_BadWord_i P_BadWord_i) (Gi_BadWord : FnOk P w K mg base (L2.CX P w) 1 a_BadWord_i fd_BadWord_i P_BadWord_i (iniSp K 111 ["text"])) :
    FnOk P w K mg base (L2.CX P w) 3 a_check_word fd_check_word P_check_word (spF K f_check_word) :=
  fn_ok D_check_word.F sc_check_word fun cdv A outer s H E hr => by
    have tk : Takes (cxOf (L2.CX P w) P w K mg base N_check_word "check_word" (defScope s_check_word) a_check_word cdv A outer s H E) (WD E) := takes_of rfl rfl rfl rfl
    have pw := passes_of (X := cxOf (L2.CX P w) P w K mg base N_check_word "check_word" (defScope s_check_word) a_check_word cdv A outer s H E) rfl
    exact (jb_cons (js_if (jt_not (jt_val (je_call G_has_letters_only (hr.mono (by decide)) (by rfl) D_has_letters_only.g D_has_letters_only.k D_has_letters_only.b tk (ja_cons (je_v 0) (ja_cons (je_v 1) ja_nil))))) (jb_one (js_raiseO (ns := ["text"]) rfl tk (T.xt.get (C := 111) rfl).oc Di_BadWord.i Di_BadWord.t Gi_BadWord (hr.mono (by decide)) Di_BadWord.b (by rfl) T.k_BadWord (by decide) (ja_cons (je_v 1) ja_nil))) jb_nil)
    (jb_one (js_if (jt_cmp op_gt sp_gt (je_callB call_len cs_len (by rfl) T.z_len (by decide +kernel) (ja_cons (je_v 1) ja_nil)) (je_gint (by rfl) T.g_WORD) (nomark _)) (jb_one (js_raise0 rfl tk PySem.F.excBase_ValueError T.q_TooLong (T.xt.get (C := 49) rfl).xc T.k_TooLong (by rfl))) jb_nil)))
theorem ok_order_key (T : Bt K mg) {a_order_key : Addr} {fd_order_key : FuncData} (D_order_key : Df K mg "order_key" s_order_key a_order_key fd_order_key P_order_key)   :
    FnOk P w K mg base (L2.CX P w) 1 a_order_key fd_order_key P_order_key (spF K f_order_key) :=
  fn_ok D_order_key.F sc_order_key fun cdv A outer s H E hr => by
    have tk : Takes (cxOf (L2.CX P w) P w K mg base N_order_key "order_key" (defScope s_order_key) a_order_key cdv A outer s H E) (WD E) := takes_of rfl rfl rfl rfl
    have pw := passes_of (X := cxOf (L2.CX P w) P w K mg base N_order_key "order_key" (defScope s_order_key) a_order_key cdv A outer s H E) rfl
    exact (jb_cons (js_setLc (own := [("letter", 4)]) (i := 3) rfl sc_order_key.nd rfl rfl (sw_true rfl rfl rfl (by decide +kernel)) (ji_any (je_v 2)) (blkOk_by (own := [("letter", 4)]) (N := N_order_key) (sc := defScope s_order_key) (by decide +kernel)) (fun _ _ _ _ _ => (pg_name (i := 4) sc_order_key.nd rfl (Or.inl rfl))) (gt_name (by decide)) (fun _ _ _ _ _ => jts_nil) (fun _ _ _ _ _ => (je_bm PySem.F.plainAttrs_str PySem.F.slot_str_index PySem.F.type_str_index mt_sindex ms_sindex (je_v 0) (ja_cons (je_v 4) ja_nil))))
    (jb_one (js_ret (je_tup (ja_cons (je_callB (cr_sum rfl) cs_sum (by rfl) T.z_sum (by decide +kernel) (ja_cons (je_lc (own := [("rank", 5)]) rfl sc_order_key.nd (ji_any (je_v 3)) (blkOk_by (own := [("rank", 5)]) (N := N_order_key) (sc := defScope s_order_key) (by decide +kernel)) (fun _ _ _ _ _ => (pg_name (i := 5) sc_order_key.nd rfl (Or.inl rfl))) (gt_name (by decide)) (fun _ _ _ _ _ => jts_nil) (fun _ _ _ _ _ => (je_ix ix_seq sp_ix (je_v 1) (je_v 5) (fun _ _ => rfl)))) ja_nil)) (ja_cons (je_v 3) ja_nil))))))
theorem ok_word_weight (T : Bt K mg) {a_word_weight : Addr} {fd_word_weight : FuncData} (D_word_weight : Df K mg "word_weight" s_word_weight a_word_weight fd_word_weight P_word_weight) {a_check_letters : Addr} {fd_check_letters : FuncData} (D_check_letters : Df K mg "check_letters" s_check_letters a_check_letters fd_check_letters P_check_letters) (G_check_letters : FnOk P w K mg base (L2.CX P w) 3 a_check_letters fd_check_letters P_check_letters (spF K f_check_letters)) {a_check_weights : Addr} {fd_check_weights : FuncData} (D_check_weights : Df K mg "check_weights" s_check_weights a_check_weights fd_check_weights P_check_weights) (G_check_weights : FnOk P w K mg base (L2.CX P w) 2 a_check_weights fd_check_weights P_check_weights (spF K f_check_weights)) {a_check_word : Addr} {fd_check_word : FuncData} (D_check_word : Df K mg "check_word" s_check_word a_check_word fd_check_word P_check_word) (G_check_word : FnOk P w K mg base (L2.CX P w) 3 a_check_word fd_check_word P_check_word (spF K f_check_word)) {a_order_key : Addr} {fd_order_key : FuncData} (D_order_key : Df K mg "order_key" s_order_key a_order_key fd_order_key P_order_key) (G_order_key : FnOk P w K mg base (L2.CX P w) 1 a_order_key fd_order_key P_order_key (spF K f_order_key))  :
    FnOk P w K mg base (L2.CX P w) 4 a_word_weight fd_word_weight P_word_weight (spF K f_word_weight) :=
  fn_ok D_word_weight.F sc_word_weight fun cdv A outer s H E hr => by
    have tk : Takes (cxOf (L2.CX P w) P w K mg base N_word_weight "word_weight" (defScope s_word_weight) a_word_weight cdv A outer s H E) (WD E) := takes_of rfl rfl rfl rfl
    have pw := passes_of (X := cxOf (L2.CX P w) P w K mg base N_word_weight "word_weight" (defScope s_word_weight) a_word_weight cdv A outer s H E) rfl
    exact (jb_cons (js_expr (je_call G_check_letters (hr.mono (by decide)) (by rfl) D_check_letters.g D_check_letters.k D_check_letters.b tk (ja_cons (je_v 0) ja_nil)))
    (jb_cons (js_expr (je_call G_check_weights (hr.mono (by decide)) (by rfl) D_check_weights.g D_check_weights.k D_check_weights.b tk (ja_cons (je_v 0) (ja_cons (je_v 1) ja_nil))))
    (jb_cons (js_expr (je_call G_check_word (hr.mono (by decide)) (by rfl) D_check_word.g D_check_word.k D_check_word.b tk (ja_cons (je_v 0) (ja_cons (je_v 2) ja_nil))))
    (jb_one (js_ret (je_ix ix_seq sp_ix (je_call G_order_key (hr.mono (by decide)) (by rfl) D_order_key.g D_order_key.k D_order_key.b tk (ja_cons (je_v 0) (ja_cons (je_v 1) (ja_cons (je_v 2) ja_nil)))) je_int (fun _ _ => rfl)))))))
theorem ok_compare_words (T : Bt K mg) {a_compare_words : Addr} {fd_compare_words : FuncData} (D_compare_words : Df K mg "compare_words" s_compare_words a_compare_words fd_compare_words P_compare_words) {a_check_letters : Addr} {fd_check_letters : FuncData} (D_check_letters : Df K mg "check_letters" s_check_letters a_check_letters fd_check_letters P_check_letters) (G_check_letters : FnOk P w K mg base (L2.CX P w) 3 a_check_letters fd_check_letters P_check_letters (spF K f_check_letters)) {a_check_weights : Addr} {fd_check_weights : FuncData} (D_check_weights : Df K mg "check_weights" s_check_weights a_check_weights fd_check_weights P_check_weights) (G_check_weights : FnOk P w K mg base (L2.CX P w) 2 a_check_weights fd_check_weights P_check_weights (spF K f_check_weights)) {a_check_word : Addr} {fd_check_word : FuncData} (D_check_word : Df K mg "check_word" s_check_word a_check_word fd_check_word P_check_word) (G_check_word : FnOk P w K mg base (L2.CX P w) 3 a_check_word fd_check_word P_check_word (spF K f_check_word)) {a_order_key : Addr} {fd_order_key : FuncData} (D_order_key : Df K mg "order_key" s_order_key a_order_key fd_order_key P_order_key) (G_order_key : FnOk P w K mg base (L2.CX P w) 1 a_order_key fd_order_key P_order_key (spF K f_order_key))  :
    FnOk P w K mg base (L2.CX P w) 4 a_compare_words fd_compare_words P_compare_words (spF K f_compare_words) :=
  fn_ok D_compare_words.F sc_compare_words fun cdv A outer s H E hr => by
    have tk : Takes (cxOf (L2.CX P w) P w K mg base N_compare_words "compare_words" (defScope s_compare_words) a_compare_words cdv A outer s H E) (WD E) := takes_of rfl rfl rfl rfl
    have pw := passes_of (X := cxOf (L2.CX P w) P w K mg base N_compare_words "compare_words" (defScope s_compare_words) a_compare_words cdv A outer s H E) rfl
    exact (jb_cons (js_expr (je_call G_check_letters (hr.mono (by decide)) (by rfl) D_check_letters.g D_check_letters.k D_check_letters.b tk (ja_cons (je_v 0) ja_nil)))
    (jb_cons (js_expr (je_call G_check_weights (hr.mono (by decide)) (by rfl) D_check_weights.g D_check_weights.k D_check_weights.b tk (ja_cons (je_v 0) (ja_cons (je_v 1) ja_nil))))
    (jb_cons (js_expr (je_call G_check_word (hr.mono (by decide)) (by rfl) D_check_word.g D_check_word.k D_check_word.b tk (ja_cons (je_v 0) (ja_cons (je_v 2) ja_nil))))
    (jb_cons (js_expr (je_call G_check_word (hr.mono (by decide)) (by rfl) D_check_word.g D_check_word.k D_check_word.b tk (ja_cons (je_v 0) (ja_cons (je_v 3) ja_nil))))
    (jb_cons (js_if (jt_cmp (op_eqA hr.units) sp_eq (je_v 2) (je_v 3) (nomark _)) (jb_one (js_ret je_int)) jb_nil)
    (jb_cons (js_if (jt_cmp (op_ltAll hr.units) sp_ltAll (je_call G_order_key (hr.mono (by decide)) (by rfl) D_order_key.g D_order_key.k D_order_key.b tk (ja_cons (je_v 0) (ja_cons (je_v 1) (ja_cons (je_v 2) ja_nil)))) (je_call G_order_key (hr.mono (by decide)) (by rfl) D_order_key.g D_order_key.k D_order_key.b tk (ja_cons (je_v 0) (ja_cons (je_v 1) (ja_cons (je_v 3) ja_nil)))) (nomark _)) (jb_one (js_ret (je_un un_neg sp_neg je_int))) jb_nil)
    (jb_one (js_ret je_int))))))))
theorem ok_sort_words (T : Bt K mg) {a_sort_words : Addr} {fd_sort_words : FuncData} (D_sort_words : Df K mg "sort_words" s_sort_words a_sort_words fd_sort_words P_sort_words) {a_check_letters : Addr} {fd_check_letters : FuncData} (D_check_letters : Df K mg "check_letters" s_check_letters a_check_letters fd_check_letters P_check_letters) (G_check_letters : FnOk P w K mg base (L2.CX P w) 3 a_check_letters fd_check_letters P_check_letters (spF K f_check_letters)) {a_check_weights : Addr} {fd_check_weights : FuncData} (D_check_weights : Df K mg "check_weights" s_check_weights a_check_weights fd_check_weights P_check_weights) (G_check_weights : FnOk P w K mg base (L2.CX P w) 2 a_check_weights fd_check_weights P_check_weights (spF K f_check_weights)) {a_check_word : Addr} {fd_check_word : FuncData} (D_check_word : Df K mg "check_word" s_check_word a_check_word fd_check_word P_check_word) (G_check_word : FnOk P w K mg base (L2.CX P w) 3 a_check_word fd_check_word P_check_word (spF K f_check_word)) {a_order_key : Addr} {fd_order_key : FuncData} (D_order_key : Df K mg "order_key" s_order_key a_order_key fd_order_key P_order_key) (G_order_key : FnOk P w K mg base (L2.CX P w) 1 a_order_key fd_order_key P_order_key (spF K f_order_key))  :
    FnOk P w K mg base (L2.CX P w) 4 a_sort_words fd_sort_words P_sort_words (spF K f_sort_words) :=
  fn_ok D_sort_words.F sc_sort_words fun cdv A outer s H E hr => by
    have tk : Takes (cxOf (L2.CX P w) P w K mg base N_sort_words "sort_words" (defScope s_sort_words) a_sort_words cdv A outer s H E) (WD E) := takes_of rfl rfl rfl rfl
    have pw := passes_of (X := cxOf (L2.CX P w) P w K mg base N_sort_words "sort_words" (defScope s_sort_words) a_sort_words cdv A outer s H E) rfl
    exact (jb_cons (js_expr (je_call G_check_letters (hr.mono (by decide)) (by rfl) D_check_letters.g D_check_letters.k D_check_letters.b tk (ja_cons (je_v 0) ja_nil)))
    (jb_cons (js_expr (je_call G_check_weights (hr.mono (by decide)) (by rfl) D_check_weights.g D_check_weights.k D_check_weights.b tk (ja_cons (je_v 0) (ja_cons (je_v 1) ja_nil))))
    (jb_cons (js_for (vs := [3]) pw rfl (ji_any (je_v 2)) (pg_name (i := 3) sc_sort_words.nd rfl (Or.inl rfl)) (gt_name (by decide)) (jb_one (js_expr (je_call G_check_word (hr.mono (by decide)) (by rfl) D_check_word.g D_check_word.k D_check_word.b tk (ja_cons (je_v 0) (ja_cons (je_v 3) ja_nil))))))
    (jb_cons (js_set (i := 4) sc_sort_words.nd rfl (Or.inl rfl) (je_callB (cr_sortedAll hr.units) cs_sortedAll (by rfl) T.z_sorted (by decide +kernel) (ja_cons (je_lc (own := [("word", 3)]) rfl sc_sort_words.nd (ji_any (je_v 2)) (blkOk_by (own := [("word", 3)]) (N := N_sort_words) (sc := defScope s_sort_words) (by decide +kernel)) (fun _ _ _ _ _ => (pg_name (i := 3) sc_sort_words.nd rfl (Or.inl rfl))) (gt_name (by decide)) (fun _ _ _ _ _ => jts_nil) (fun _ _ _ _ _ => (je_tup (ja_cons (je_call G_order_key (hr.mono (by decide)) (by rfl) D_order_key.g D_order_key.k D_order_key.b takes0 (ja_cons (je_v 0) (ja_cons (je_v 1) (ja_cons (je_v 3) ja_nil)))) (ja_cons (je_v 3) ja_nil))))) ja_nil)))
    (jb_one (js_ret (je_lcL (own := [("key", 5), ("word", 3)]) rfl sc_sort_words.nd (ji_any (je_v 4)) (blkOk_by (own := [("key", 5), ("word", 3)]) (N := N_sort_words) (sc := defScope s_sort_words) (by decide +kernel)) (fun _ _ _ _ _ => (pg_tup rfl (pgs_cons (pg_name (i := 5) sc_sort_words.nd rfl (Or.inl rfl)) (pgs_cons (pg_name (i := 3) sc_sort_words.nd rfl (Or.inl rfl)) pgs_nil)))) (gt_tup (gts_cons (gt_name (by decide)) (gts_cons (gt_name (by decide)) gts_nil))) (fun _ _ _ _ _ => jts_nil) (fun _ _ _ _ _ => (je_v 3)))))))))
theorem ok__law_draws (T : Bt K mg) {a__law_draws : Addr} {fd__law_draws : FuncData} (D__law_draws : Df K mg "_law_draws" s__law_draws a__law_draws fd__law_draws P__law_draws)   :
    FnOk P w K mg base (L2.CX P w) 1 a__law_draws fd__law_draws P__law_draws (spF K f__law_draws) :=
  fn_ok D__law_draws.F sc__law_draws fun cdv A outer s H E hr => by
    have tk : Takes (cxOf (L2.CX P w) P w K mg base N__law_draws "_law_draws" (defScope s__law_draws) a__law_draws cdv A outer s H E) (WD E) := takes_of rfl rfl rfl rfl
    have pw := passes_of (X := cxOf (L2.CX P w) P w K mg base N__law_draws "_law_draws" (defScope s__law_draws) a__law_draws cdv A outer s H E) rfl
    exact (jb_one (js_ret (je_lstL (ja_cons (je_lc (own := [("cell", 1)]) rfl sc__law_draws.nd (ji_any (je_v 0)) (blkOk_by (own := [("cell", 1)]) (N := N__law_draws) (sc := defScope s__law_draws) (by decide +kernel)) (fun _ _ _ _ _ => (pg_name (i := 1) sc__law_draws.nd rfl (Or.inl rfl))) (gt_name (by decide)) (fun _ _ _ _ _ => jts_nil) (fun _ _ _ _ _ => (je_callT call_int1 cs_int (by rfl) T.z_int (by decide +kernel) (ja_cons (je_v 1) ja_nil)))) (ja_cons je_int (ja_cons je_int (ja_cons je_int (ja_cons je_int (ja_cons je_int ja_nil)))))))))
theorem ok__law_mixed (T : Bt K mg) {a__law_mixed : Addr} {fd__law_mixed : FuncData} (D__law_mixed : Df K mg "_law_mixed" s__law_mixed a__law_mixed fd__law_mixed P__law_mixed)   :
    FnOk P w K mg base (L2.CX P w) 1 a__law_mixed fd__law_mixed P__law_mixed (spF K f__law_mixed) :=
  fn_ok D__law_mixed.F sc__law_mixed fun cdv A outer s H E hr => by
    have tk : Takes (cxOf (L2.CX P w) P w K mg base N__law_mixed "_law_mixed" (defScope s__law_mixed) a__law_mixed cdv A outer s H E) (WD E) := takes_of rfl rfl rfl rfl
    have pw := passes_of (X := cxOf (L2.CX P w) P w K mg base N__law_mixed "_law_mixed" (defScope s__law_mixed) a__law_mixed cdv A outer s H E) rfl
    exact (jb_cons (js_set (i := 2) sc__law_mixed.nd rfl (Or.inl rfl) (je_op op_modN sp_mod (je_callT call_int1 cs_int (by rfl) T.z_int (by decide +kernel) (ja_cons (je_op op_addD sp_add (je_op op_addD sp_add (je_op op_mulD sp_mul (je_v 0) je_int) (je_op op_mulD sp_mul (je_v 1) je_int)) je_int) ja_nil)) je_int))
    (jb_cons (js_set (i := 3) sc__law_mixed.nd rfl (Or.inl rfl) (je_op op_modN sp_mod (je_callT call_int1 cs_int (by rfl) T.z_int (by decide +kernel) (ja_cons (je_op op_addD sp_add (je_op op_addD sp_add (je_op op_mulD sp_mul (je_v 2) (je_v 2)) (je_op op_mulD sp_mul (je_v 1) je_int)) je_int) ja_nil)) je_int))
    (jb_one (js_ret (je_op op_modN sp_mod (je_callT call_int1 cs_int (by rfl) T.z_int (by decide +kernel) (ja_cons (je_op op_addD sp_add (je_op op_mulD sp_mul (je_v 3) (je_v 3)) (je_v 2)) ja_nil)) je_int)))))
theorem ok__law_take (T : Bt K mg) {a__law_take : Addr} {fd__law_take : FuncData} (D__law_take : Df K mg "_law_take" s__law_take a__law_take fd__law_take P__law_take) {a__law_mixed : Addr} {fd__law_mixed : FuncData} (D__law_mixed : Df K mg "_law_mixed" s__law_mixed a__law_mixed fd__law_mixed P__law_mixed) (G__law_mixed : FnOk P w K mg base (L2.CX P w) 1 a__law_mixed fd__law_mixed P__law_mixed (spF K f__law_mixed))  :
    FnOk P w K mg base (L2.CX P w) 2 a__law_take fd__law_take P__law_take (spF K f__law_take) :=
  fn_ok D__law_take.F sc__law_take fun cdv A outer s H E hr => by
    have tk : Takes (cxOf (L2.CX P w) P w K mg base N__law_take "_law_take" (defScope s__law_take) a__law_take cdv A outer s H E) (WD E) := takes_of rfl rfl rfl rfl
    have pw := passes_of (X := cxOf (L2.CX P w) P w K mg base N__law_take "_law_take" (defScope s__law_take) a__law_take cdv A outer s H E) rfl
    exact (jb_cons (js_if (jt_cmp op_ltD sp_lt (je_v 1) je_int (nomark _)) (jb_one (js_ret je_int)) jb_nil)
    (jb_cons (js_if (JW.jt (jw_and (jt_cmp (op_eqA hr.units) sp_eq (je_ix ix_seq sp_ix (je_v 0) je_int (fun _ _ => rfl)) je_int (nomark _)) (jw_and (jt_cmp (op_eqA hr.units) sp_eq (je_ix ix_seq sp_ix (je_v 0) je_int (fun _ _ => rfl)) je_int (nomark _)) (jw_and1 (jt_cmp op_ltD sp_lt (je_ix ix_seq sp_ix (je_v 0) je_int (fun _ _ => rfl)) (je_callB call_len cs_len (by rfl) T.z_len (by decide +kernel) (ja_cons (je_ix ix_seq sp_ix (je_v 0) je_int (fun _ _ => rfl)) ja_nil)) (nomark _)))))) (jb_cons (js_set (i := 2) sc__law_take.nd rfl (Or.inl rfl) (je_ix ix_seq sp_ix (je_ix ix_seq sp_ix (je_v 0) je_int (fun _ _ => rfl)) (je_ix ix_seq sp_ix (je_v 0) je_int (fun _ _ => rfl)) (fun _ _ => rfl)))
    (jb_cons (js_sub set_list sp_set (je_op op_addD sp_add (je_ix ix_seq sp_ix (je_v 0) je_int (fun _ _ => rfl)) je_int) (je_v 0) je_int)
    (jb_cons (js_sub set_list sp_set (je_op op_modN sp_mod (je_callT call_int1 cs_int (by rfl) T.z_int (by decide +kernel) (ja_cons (je_op op_addD sp_add (je_op op_mulD sp_mul (je_ix ix_seq sp_ix (je_v 0) je_int (fun _ _ => rfl)) je_int) (je_v 2)) ja_nil)) je_int) (je_v 0) je_int)
    (jb_one (js_if (JW.jt (jw_or (jt_cmp op_ge sp_ge (je_v 2) (je_op op_pow sp_pow je_int je_int) (nomark _)) (jw_or1 (jt_cmp op_ge sp_ge (je_un un_neg sp_neg (je_v 2)) (je_op op_pow sp_pow je_int je_int) (nomark _))))) (jb_one (js_sub set_list sp_set (je_callB call_abs cs_abs (by rfl) T.z_abs (by decide +kernel) (ja_cons (je_v 2) ja_nil)) (je_v 0) je_int)) (jb_one (js_sub set_list sp_set je_int (je_v 0) je_int))))))) jb_nil)
    (jb_cons (js_if (jt_cmp op_gt sp_gt (je_ix ix_seq sp_ix (je_v 0) je_int (fun _ _ => rfl)) je_int (nomark _)) (jb_cons (js_set (i := 3) sc__law_take.nd rfl (Or.inl rfl) (je_op op_modN sp_mod (je_callT call_int1 cs_int (by rfl) T.z_int (by decide +kernel) (ja_cons (je_ix ix_seq sp_ix (je_v 0) je_int (fun _ _ => rfl)) ja_nil)) (je_v 1)))
    (jb_cons (js_sub set_list sp_set (je_op op_fdivN sp_fdiv (je_ix ix_seq sp_ix (je_v 0) je_int (fun _ _ => rfl)) (je_v 1)) (je_v 0) je_int)
    (jb_one (js_ret (je_v 3))))) jb_nil)
    (jb_cons (js_if (jt_cmp op_gt sp_gt (je_ix ix_seq sp_ix (je_v 0) je_int (fun _ _ => rfl)) je_int (nomark _)) (jb_one (js_sub set_list sp_set (je_op op_sub sp_sub (je_ix ix_seq sp_ix (je_v 0) je_int (fun _ _ => rfl)) je_int) (je_v 0) je_int)) jb_nil)
    (jb_cons (js_sub set_list sp_set (je_op op_addD sp_add (je_ix ix_seq sp_ix (je_v 0) je_int (fun _ _ => rfl)) je_int) (je_v 0) je_int)
    (jb_one (js_ret (je_op op_modN sp_mod (je_callT call_int1 cs_int (by rfl) T.z_int (by decide +kernel) (ja_cons (je_call G__law_mixed (hr.mono (by decide)) (by rfl) D__law_mixed.g D__law_mixed.k D__law_mixed.b tk (ja_cons (je_ix ix_seq sp_ix (je_v 0) je_int (fun _ _ => rfl)) (ja_cons (je_ix ix_seq sp_ix (je_v 0) je_int (fun _ _ => rfl)) ja_nil))) ja_nil)) (je_v 1)))))))))
theorem ok__law_span (T : Bt K mg) {a__law_span : Addr} {fd__law_span : FuncData} (D__law_span : Df K mg "_law_span" s__law_span a__law_span fd__law_span P__law_span) {a__law_take : Addr} {fd__law_take : FuncData} (D__law_take : Df K mg "_law_take" s__law_take a__law_take fd__law_take P__law_take) (G__law_take : FnOk P w K mg base (L2.CX P w) 2 a__law_take fd__law_take P__law_take (spF K f__law_take))  :
    FnOk P w K mg base (L2.CX P w) 3 a__law_span fd__law_span P__law_span (spF K f__law_span) :=
  fn_ok D__law_span.F sc__law_span fun cdv A outer s H E hr => by
    have tk : Takes (cxOf (L2.CX P w) P w K mg base N__law_span "_law_span" (defScope s__law_span) a__law_span cdv A outer s H E) (WD E) := takes_of rfl rfl rfl rfl
    have pw := passes_of (X := cxOf (L2.CX P w) P w K mg base N__law_span "_law_span" (defScope s__law_span) a__law_span cdv A outer s H E) rfl
    exact (jb_one (js_ret (je_op op_addD sp_add (je_v 1) (je_call G__law_take (hr.mono (by decide)) (by rfl) D__law_take.g D__law_take.k D__law_take.b tk (ja_cons (je_v 0) (ja_cons (je_op op_addD sp_add (je_op op_sub sp_sub (je_v 2) (je_v 1)) je_int) ja_nil))))))
theorem ok__law_rare (T : Bt K mg) {a__law_rare : Addr} {fd__law_rare : FuncData} (D__law_rare : Df K mg "_law_rare" s__law_rare a__law_rare fd__law_rare P__law_rare) {a__law_take : Addr} {fd__law_take : FuncData} (D__law_take : Df K mg "_law_take" s__law_take a__law_take fd__law_take P__law_take) (G__law_take : FnOk P w K mg base (L2.CX P w) 2 a__law_take fd__law_take P__law_take (spF K f__law_take))  :
    FnOk P w K mg base (L2.CX P w) 3 a__law_rare fd__law_rare P__law_rare (spF K f__law_rare) :=
  fn_ok D__law_rare.F sc__law_rare fun cdv A outer s H E hr => by
    have tk : Takes (cxOf (L2.CX P w) P w K mg base N__law_rare "_law_rare" (defScope s__law_rare) a__law_rare cdv A outer s H E) (WD E) := takes_of rfl rfl rfl rfl
    have pw := passes_of (X := cxOf (L2.CX P w) P w K mg base N__law_rare "_law_rare" (defScope s__law_rare) a__law_rare cdv A outer s H E) rfl
    exact (jb_one (js_ret (je_cmp (op_eqA hr.units) sp_eq (je_call G__law_take (hr.mono (by decide)) (by rfl) D__law_take.g D__law_take.k D__law_take.b tk (ja_cons (je_v 0) (ja_cons (je_v 1) ja_nil))) (je_op op_sub sp_sub (je_v 1) je_int) (nomark _))))
theorem ok__law_pick (T : Bt K mg) {a__law_pick : Addr} {fd__law_pick : FuncData} (D__law_pick : Df K mg "_law_pick" s__law_pick a__law_pick fd__law_pick P__law_pick) {a__law_take : Addr} {fd__law_take : FuncData} (D__law_take : Df K mg "_law_take" s__law_take a__law_take fd__law_take P__law_take) (G__law_take : FnOk P w K mg base (L2.CX P w) 2 a__law_take fd__law_take P__law_take (spF K f__law_take))  :
    FnOk P w K mg base (L2.CX P w) 3 a__law_pick fd__law_pick P__law_pick (spF K f__law_pick) :=
  fn_ok D__law_pick.F sc__law_pick fun cdv A outer s H E hr => by
    have tk : Takes (cxOf (L2.CX P w) P w K mg base N__law_pick "_law_pick" (defScope s__law_pick) a__law_pick cdv A outer s H E) (WD E) := takes_of rfl rfl rfl rfl
    have pw := passes_of (X := cxOf (L2.CX P w) P w K mg base N__law_pick "_law_pick" (defScope s__law_pick) a__law_pick cdv A outer s H E) rfl
    exact (jb_one (js_ret (je_ix ix_seq sp_ix (je_v 1) (je_call G__law_take (hr.mono (by decide)) (by rfl) D__law_take.g D__law_take.k D__law_take.b tk (ja_cons (je_v 0) (ja_cons (je_callB call_len cs_len (by rfl) T.z_len (by decide +kernel) (ja_cons (je_v 1) ja_nil)) ja_nil))) (fun _ _ => rfl))))
theorem ok__law_in_range (T : Bt K mg) {a__law_in_range : Addr} {fd__law_in_range : FuncData} (D__law_in_range : Df K mg "_law_in_range" s__law_in_range a__law_in_range fd__law_in_range P__law_in_range) {a__law_take : Addr} {fd__law_take : FuncData} (D__law_take : Df K mg "_law_take" s__law_take a__law_take fd__law_take P__law_take) (G__law_take : FnOk P w K mg base (L2.CX P w) 2 a__law_take fd__law_take P__law_take (spF K f__law_take)) {a__law_pick : Addr} {fd__law_pick : FuncData} (D__law_pick : Df K mg "_law_pick" s__law_pick a__law_pick fd__law_pick P__law_pick) (G__law_pick : FnOk P w K mg base (L2.CX P w) 3 a__law_pick fd__law_pick P__law_pick (spF K f__law_pick)) {a__law_span : Addr} {fd__law_span : FuncData} (D__law_span : Df K mg "_law_span" s__law_span a__law_span fd__law_span P__law_span) (G__law_span : FnOk P w K mg base (L2.CX P w) 3 a__law_span fd__law_span P__law_span (spF K f__law_span))  :
    FnOk P w K mg base (L2.CX P w) 4 a__law_in_range fd__law_in_range P__law_in_range (spF K f__law_in_range) :=
  fn_ok D__law_in_range.F sc__law_in_range fun cdv A outer s H E hr => by
    have tk : Takes (cxOf (L2.CX P w) P w K mg base N__law_in_range "_law_in_range" (defScope s__law_in_range) a__law_in_range cdv A outer s H E) (WD E) := takes_of rfl rfl rfl rfl
    have pw := passes_of (X := cxOf (L2.CX P w) P w K mg base N__law_in_range "_law_in_range" (defScope s__law_in_range) a__law_in_range cdv A outer s H E) rfl
    exact (jb_cons (js_if (jt_cmp (op_eqA hr.units) sp_eq (je_call G__law_take (hr.mono (by decide)) (by rfl) D__law_take.g D__law_take.k D__law_take.b tk (ja_cons (je_v 0) (ja_cons je_int ja_nil))) je_int (nomark _)) (jb_one (js_ret (je_call G__law_pick (hr.mono (by decide)) (by rfl) D__law_pick.g D__law_pick.k D__law_pick.b tk (ja_cons (je_v 0) (ja_cons (je_lst (ja_cons (je_v 1) (ja_cons (je_v 2) ja_nil))) ja_nil))))) jb_nil)
    (jb_one (js_ret (je_call G__law_span (hr.mono (by decide)) (by rfl) D__law_span.g D__law_span.k D__law_span.b tk (ja_cons (je_v 0) (ja_cons (je_v 1) (ja_cons (je_v 2) ja_nil)))))))
theorem ok__law_out_of_range (T : Bt K mg) {a__law_out_of_range : Addr} {fd__law_out_of_range : FuncData} (D__law_out_of_range : Df K mg "_law_out_of_range" s__law_out_of_range a__law_out_of_range fd__law_out_of_range P__law_out_of_range) {a__law_take : Addr} {fd__law_take : FuncData} (D__law_take : Df K mg "_law_take" s__law_take a__law_take fd__law_take P__law_take) (G__law_take : FnOk P w K mg base (L2.CX P w) 2 a__law_take fd__law_take P__law_take (spF K f__law_take)) {a__law_pick : Addr} {fd__law_pick : FuncData} (D__law_pick : Df K mg "_law_pick" s__law_pick a__law_pick fd__law_pick P__law_pick) (G__law_pick : FnOk P w K mg base (L2.CX P w) 3 a__law_pick fd__law_pick P__law_pick (spF K f__law_pick))  :
    FnOk P w K mg base (L2.CX P w) 4 a__law_out_of_range fd__law_out_of_range P__law_out_of_range (spF K f__law_out_of_range) :=
  fn_ok D__law_out_of_range.F sc__law_out_of_range fun cdv A outer s H E hr => by
    have tk : Takes (cxOf (L2.CX P w) P w K mg base N__law_out_of_range "_law_out_of_range" (defScope s__law_out_of_range) a__law_out_of_range cdv A outer s H E) (WD E) := takes_of rfl rfl rfl rfl
    have pw := passes_of (X := cxOf (L2.CX P w) P w K mg base N__law_out_of_range "_law_out_of_range" (defScope s__law_out_of_range) a__law_out_of_range cdv A outer s H E) rfl
    exact (jb_cons (js_set (i := 3) sc__law_out_of_range.nd rfl (Or.inl rfl) (je_lst (ja_cons (je_op op_sub sp_sub (je_v 1) je_int) (ja_cons (je_op op_addD sp_add (je_v 2) je_int) (ja_cons (je_op op_sub sp_sub (je_op op_sub sp_sub (je_v 1) je_int) (je_call G__law_take (hr.mono (by decide)) (by rfl) D__law_take.g D__law_take.k D__law_take.b tk (ja_cons (je_v 0) (ja_cons je_int ja_nil)))) (ja_cons (je_op op_addD sp_add (je_op op_addD sp_add (je_v 2) je_int) (je_call G__law_take (hr.mono (by decide)) (by rfl) D__law_take.g D__law_take.k D__law_take.b tk (ja_cons (je_v 0) (ja_cons je_int ja_nil)))) ja_nil))))))
    (jb_one (js_ret (je_call G__law_pick (hr.mono (by decide)) (by rfl) D__law_pick.g D__law_pick.k D__law_pick.b tk (ja_cons (je_v 0) (ja_cons (je_op op_addD sp_add (je_v 3) (je_lst (ja_cons (je_op op_sub sp_sub (je_op op_pow sp_pow je_int je_int) je_int) (ja_cons (je_op op_sub sp_sub je_int (je_op op_pow sp_pow je_int je_int)) ja_nil)))) ja_nil))))))
theorem ok__law_letters (T : Bt K mg) {a__law_letters : Addr} {fd__law_letters : FuncData} (D__law_letters : Df K mg "_law_letters" s__law_letters a__law_letters fd__law_letters P__law_letters) {a__law_span : Addr} {fd__law_span : FuncData} (D__law_span : Df K mg "_law_span" s__law_span a__law_span fd__law_span P__law_span) (G__law_span : FnOk P w K mg base (L2.CX P w) 3 a__law_span fd__law_span P__law_span (spF K f__law_span)) {a__law_take : Addr} {fd__law_take : FuncData} (D__law_take : Df K mg "_law_take" s__law_take a__law_take fd__law_take P__law_take) (G__law_take : FnOk P w K mg base (L2.CX P w) 2 a__law_take fd__law_take P__law_take (spF K f__law_take))  :
    FnOk P w K mg base (L2.CX P w) 4 a__law_letters fd__law_letters P__law_letters (spF K f__law_letters) :=
  fn_ok D__law_letters.F sc__law_letters fun cdv A outer s H E hr => by
    have tk : Takes (cxOf (L2.CX P w) P w K mg base N__law_letters "_law_letters" (defScope s__law_letters) a__law_letters cdv A outer s H E) (WD E) := takes_of rfl rfl rfl rfl
    have pw := passes_of (X := cxOf (L2.CX P w) P w K mg base N__law_letters "_law_letters" (defScope s__law_letters) a__law_letters cdv A outer s H E) rfl
    exact (jb_cons (js_set (i := 3) sc__law_letters.nd rfl (Or.inl rfl) (je_call G__law_span (hr.mono (by decide)) (by rfl) D__law_span.g D__law_span.k D__law_span.b tk (ja_cons (je_v 0) (ja_cons (je_v 1) (ja_cons (je_v 2) ja_nil)))))
    (jb_cons (js_set (i := 4) sc__law_letters.nd rfl (Or.inl rfl) je_str)
    (jb_cons (js_if (jt_cmp (op_eqA hr.units) sp_eq (je_call G__law_take (hr.mono (by decide)) (by rfl) D__law_take.g D__law_take.k D__law_take.b tk (ja_cons (je_v 0) (ja_cons je_int ja_nil))) je_int (nomark _)) (jb_one (js_ret (je_slice sl_any sp_sl (je_v 4) jo_none (jo_some (je_v 3))))) jb_nil)
    (jb_cons (js_set (i := 5) sc__law_letters.nd rfl (Or.inl rfl) je_str)
    (jb_cons (js_for (vs := [6]) pw rfl (piI (pi_range1 (by rfl) T.z_range (ja_cons (je_v 3) ja_nil)) t_rng1) (pg_name (i := 6) sc__law_letters.nd rfl (Or.inl rfl)) (gt_name (by decide)) (jb_cons (js_set (i := 7) sc__law_letters.nd rfl (Or.inl rfl) (je_call G__law_take (hr.mono (by decide)) (by rfl) D__law_take.g D__law_take.k D__law_take.b tk (ja_cons (je_v 0) (ja_cons (je_callB call_len cs_len (by rfl) T.z_len (by decide +kernel) (ja_cons (je_v 4) ja_nil)) ja_nil))))
    (jb_cons (js_set (i := 5) sc__law_letters.nd rfl (Or.inl rfl) (je_op op_addD sp_add (je_v 5) (je_ix ix_seq sp_ix (je_v 4) (je_v 7) (fun _ _ => rfl))))
    (jb_one (js_set (i := 4) sc__law_letters.nd rfl (Or.inl rfl) (je_op op_addD sp_add (je_slice sl_any sp_sl (je_v 4) jo_none (jo_some (je_v 7))) (je_slice sl_any sp_sl (je_v 4) (jo_some (je_op op_addD sp_add (je_v 7) je_int)) jo_none)))))))
    (jb_one (js_ret (je_v 5))))))))
theorem ok__law_stranger (T : Bt K mg) {a__law_stranger : Addr} {fd__law_stranger : FuncData} (D__law_stranger : Df K mg "_law_stranger" s__law_stranger a__law_stranger fd__law_stranger P__law_stranger) {a__law_pick : Addr} {fd__law_pick : FuncData} (D__law_pick : Df K mg "_law_pick" s__law_pick a__law_pick fd__law_pick P__law_pick) (G__law_pick : FnOk P w K mg base (L2.CX P w) 3 a__law_pick fd__law_pick P__law_pick (spF K f__law_pick))  :
    FnOk P w K mg base (L2.CX P w) 4 a__law_stranger fd__law_stranger P__law_stranger (spF K f__law_stranger) :=
  fn_ok D__law_stranger.F sc__law_stranger fun cdv A outer s H E hr => by
    have tk : Takes (cxOf (L2.CX P w) P w K mg base N__law_stranger "_law_stranger" (defScope s__law_stranger) a__law_stranger cdv A outer s H E) (WD E) := takes_of rfl rfl rfl rfl
    have pw := passes_of (X := cxOf (L2.CX P w) P w K mg base N__law_stranger "_law_stranger" (defScope s__law_stranger) a__law_stranger cdv A outer s H E) rfl
    exact (jb_one (js_ret (je_call G__law_pick (hr.mono (by decide)) (by rfl) D__law_pick.g D__law_pick.k D__law_pick.b tk (ja_cons (je_v 0) (ja_cons (je_lc (own := [("letter", 2)]) rfl sc__law_stranger.nd (ji_any je_str) (blkOk_by (own := [("letter", 2)]) (N := N__law_stranger) (sc := defScope s__law_stranger) (by decide +kernel)) (fun _ _ _ _ _ => (pg_name (i := 2) sc__law_stranger.nd rfl (Or.inl rfl))) (gt_name (by decide)) (fun _ _ _ _ _ => (jts_one (jt_cmp op_notInA sp_notIn (je_v 2) (je_v 1) (by rfl)))) (fun _ _ _ _ _ => (je_v 2))) ja_nil)))))
theorem ok__law_bad_letters (T : Bt K mg) {a__law_bad_letters : Addr} {fd__law_bad_letters : FuncData} (D__law_bad_letters : Df K mg "_law_bad_letters" s__law_bad_letters a__law_bad_letters fd__law_bad_letters P__law_bad_letters) {a__law_take : Addr} {fd__law_take : FuncData} (D__law_take : Df K mg "_law_take" s__law_take a__law_take fd__law_take P__law_take) (G__law_take : FnOk P w K mg base (L2.CX P w) 2 a__law_take fd__law_take P__law_take (spF K f__law_take)) {a__law_letters : Addr} {fd__law_letters : FuncData} (D__law_letters : Df K mg "_law_letters" s__law_letters a__law_letters fd__law_letters P__law_letters) (G__law_letters : FnOk P w K mg base (L2.CX P w) 4 a__law_letters fd__law_letters P__law_letters (spF K f__law_letters)) {a__law_pick : Addr} {fd__law_pick : FuncData} (D__law_pick : Df K mg "_law_pick" s__law_pick a__law_pick fd__law_pick P__law_pick) (G__law_pick : FnOk P w K mg base (L2.CX P w) 3 a__law_pick fd__law_pick P__law_pick (spF K f__law_pick))  :
    FnOk P w K mg base (L2.CX P w) 5 a__law_bad_letters fd__law_bad_letters P__law_bad_letters (spF K f__law_bad_letters) :=
  fn_ok D__law_bad_letters.F sc__law_bad_letters fun cdv A outer s H E hr => by
    have tk : Takes (cxOf (L2.CX P w) P w K mg base N__law_bad_letters "_law_bad_letters" (defScope s__law_bad_letters) a__law_bad_letters cdv A outer s H E) (WD E) := takes_of rfl rfl rfl rfl
    have pw := passes_of (X := cxOf (L2.CX P w) P w K mg base N__law_bad_letters "_law_bad_letters" (defScope s__law_bad_letters) a__law_bad_letters cdv A outer s H E) rfl
    exact (jb_cons (js_set (i := 1) sc__law_bad_letters.nd rfl (Or.inl rfl) (je_call G__law_take (hr.mono (by decide)) (by rfl) D__law_take.g D__law_take.k D__law_take.b tk (ja_cons (je_v 0) (ja_cons je_int ja_nil))))
    (jb_cons (js_if (jt_cmp (op_eqA hr.units) sp_eq (je_v 1) je_int (nomark _)) (jb_one (js_ret je_str)) jb_nil)
    (jb_cons (js_if (jt_cmp (op_eqA hr.units) sp_eq (je_v 1) je_int (nomark _)) (jb_one (js_ret (je_call G__law_letters (hr.mono (by decide)) (by rfl) D__law_letters.g D__law_letters.k D__law_letters.b tk (ja_cons (je_v 0) (ja_cons je_int (ja_cons je_int ja_nil)))))) jb_nil)
    (jb_cons (js_set (i := 2) sc__law_bad_letters.nd rfl (Or.inl rfl) (je_call G__law_letters (hr.mono (by decide)) (by rfl) D__law_letters.g D__law_letters.k D__law_letters.b tk (ja_cons (je_v 0) (ja_cons je_int (ja_cons je_int ja_nil)))))
    (jb_cons (js_set (i := 3) sc__law_bad_letters.nd rfl (Or.inl rfl) (je_call G__law_take (hr.mono (by decide)) (by rfl) D__law_take.g D__law_take.k D__law_take.b tk (ja_cons (je_v 0) (ja_cons (je_op op_addD sp_add (je_callB call_len cs_len (by rfl) T.z_len (by decide +kernel) (ja_cons (je_v 2) ja_nil)) je_int) ja_nil))))
    (jb_cons (js_if (jt_cmp (op_eqA hr.units) sp_eq (je_v 1) je_int (nomark _)) (jb_one (js_ret (je_op op_addD sp_add (je_op op_addD sp_add (je_slice sl_any sp_sl (je_v 2) jo_none (jo_some (je_v 3))) (je_call G__law_pick (hr.mono (by decide)) (by rfl) D__law_pick.g D__law_pick.k D__law_pick.b tk (ja_cons (je_v 0) (ja_cons (je_v 2) ja_nil)))) (je_slice sl_any sp_sl (je_v 2) (jo_some (je_v 3)) jo_none)))) jb_nil)
    (jb_cons (js_if (jt_cmp (op_eqA hr.units) sp_eq (je_v 1) je_int (nomark _)) (jb_one (js_ret (je_op op_addD sp_add (je_op op_addD sp_add (je_slice sl_any sp_sl (je_v 2) jo_none (jo_some (je_v 3))) (je_call G__law_pick (hr.mono (by decide)) (by rfl) D__law_pick.g D__law_pick.k D__law_pick.b tk (ja_cons (je_v 0) (ja_cons je_str ja_nil)))) (je_slice sl_any sp_sl (je_v 2) (jo_some (je_v 3)) jo_none)))) jb_nil)
    (jb_cons (js_set (i := 3) sc__law_bad_letters.nd rfl (Or.inl rfl) (je_call G__law_take (hr.mono (by decide)) (by rfl) D__law_take.g D__law_take.k D__law_take.b tk (ja_cons (je_v 0) (ja_cons (je_callB call_len cs_len (by rfl) T.z_len (by decide +kernel) (ja_cons (je_v 2) ja_nil)) ja_nil))))
    (jb_one (js_ret (je_op op_addD sp_add (je_op op_addD sp_add (je_slice sl_any sp_sl (je_v 2) jo_none (jo_some (je_v 3))) (je_call G__law_pick (hr.mono (by decide)) (by rfl) D__law_pick.g D__law_pick.k D__law_pick.b tk (ja_cons (je_v 0) (ja_cons je_str ja_nil)))) (je_slice sl_any sp_sl (je_v 2) (jo_some (je_op op_addD sp_add (je_v 3) je_int)) jo_none))))))))))))
theorem ok__law_heavy (T : Bt K mg) {a__law_heavy : Addr} {fd__law_heavy : FuncData} (D__law_heavy : Df K mg "_law_heavy" s__law_heavy a__law_heavy fd__law_heavy P__law_heavy) {a__law_take : Addr} {fd__law_take : FuncData} (D__law_take : Df K mg "_law_take" s__law_take a__law_take fd__law_take P__law_take) (G__law_take : FnOk P w K mg base (L2.CX P w) 2 a__law_take fd__law_take P__law_take (spF K f__law_take)) {a__law_span : Addr} {fd__law_span : FuncData} (D__law_span : Df K mg "_law_span" s__law_span a__law_span fd__law_span P__law_span) (G__law_span : FnOk P w K mg base (L2.CX P w) 3 a__law_span fd__law_span P__law_span (spF K f__law_span)) {a__law_in_range : Addr} {fd__law_in_range : FuncData} (D__law_in_range : Df K mg "_law_in_range" s__law_in_range a__law_in_range fd__law_in_range P__law_in_range) (G__law_in_range : FnOk P w K mg base (L2.CX P w) 4 a__law_in_range fd__law_in_range P__law_in_range (spF K f__law_in_range))  :
    FnOk P w K mg base (L2.CX P w) 5 a__law_heavy fd__law_heavy P__law_heavy (spF K f__law_heavy) :=
  fn_ok D__law_heavy.F sc__law_heavy fun cdv A outer s H E hr => by
    have tk : Takes (cxOf (L2.CX P w) P w K mg base N__law_heavy "_law_heavy" (defScope s__law_heavy) a__law_heavy cdv A outer s H E) (WD E) := takes_of rfl rfl rfl rfl
    have pw := passes_of (X := cxOf (L2.CX P w) P w K mg base N__law_heavy "_law_heavy" (defScope s__law_heavy) a__law_heavy cdv A outer s H E) rfl
    exact (jb_cons (js_set (i := 2) sc__law_heavy.nd rfl (Or.inl rfl) (je_call G__law_take (hr.mono (by decide)) (by rfl) D__law_take.g D__law_take.k D__law_take.b tk (ja_cons (je_v 0) (ja_cons je_int ja_nil))))
    (jb_cons (js_if (jt_cmp op_ltD sp_lt (je_v 2) je_int (nomark _)) (jb_one (js_ret (je_lcL (own := [("k", 3)]) rfl sc__law_heavy.nd (piI (pi_range1 (by rfl) T.z_range (ja_cons (je_v 1) ja_nil)) t_rng1) (blkOk_by (own := [("k", 3)]) (N := N__law_heavy) (sc := defScope s__law_heavy) (by decide +kernel)) (fun _ _ _ _ _ => (pg_name (i := 3) sc__law_heavy.nd rfl (Or.inl rfl))) (gt_name (by decide)) (fun _ _ _ _ _ => jts_nil) (fun _ _ _ _ _ => je_int)))) jb_nil)
    (jb_cons (js_if (jt_cmp (op_eqA hr.units) sp_eq (je_v 2) je_int (nomark _)) (jb_one (js_ret (je_lcL (own := [("k", 3)]) rfl sc__law_heavy.nd (piI (pi_range1 (by rfl) T.z_range (ja_cons (je_v 1) ja_nil)) t_rng1) (blkOk_by (own := [("k", 3)]) (N := N__law_heavy) (sc := defScope s__law_heavy) (by decide +kernel)) (fun _ _ _ _ _ => (pg_name (i := 3) sc__law_heavy.nd rfl (Or.inl rfl))) (gt_name (by decide)) (fun _ _ _ _ _ => jts_nil) (fun _ _ _ _ _ => (je_call G__law_span (hr.mono (by decide)) (by rfl) D__law_span.g D__law_span.k D__law_span.b takes0 (ja_cons (je_v 0) (ja_cons je_int (ja_cons je_int ja_nil)))))))) jb_nil)
    (jb_one (js_ret (je_lcL (own := [("k", 3)]) rfl sc__law_heavy.nd (piI (pi_range1 (by rfl) T.z_range (ja_cons (je_v 1) ja_nil)) t_rng1) (blkOk_by (own := [("k", 3)]) (N := N__law_heavy) (sc := defScope s__law_heavy) (by decide +kernel)) (fun _ _ _ _ _ => (pg_name (i := 3) sc__law_heavy.nd rfl (Or.inl rfl))) (gt_name (by decide)) (fun _ _ _ _ _ => jts_nil) (fun _ _ _ _ _ => (je_call G__law_in_range (hr.mono (by decide)) (by rfl) D__law_in_range.g D__law_in_range.k D__law_in_range.b takes0 (ja_cons (je_v 0) (ja_cons je_int (ja_cons je_int ja_nil)))))))))))
theorem ok__law_bad_heavy (T : Bt K mg) {a__law_bad_heavy : Addr} {fd__law_bad_heavy : FuncData} (D__law_bad_heavy : Df K mg "_law_bad_heavy" s__law_bad_heavy a__law_bad_heavy fd__law_bad_heavy P__law_bad_heavy) {a__law_heavy : Addr} {fd__law_heavy : FuncData} (D__law_heavy : Df K mg "_law_heavy" s__law_heavy a__law_heavy fd__law_heavy P__law_heavy) (G__law_heavy : FnOk P w K mg base (L2.CX P w) 5 a__law_heavy fd__law_heavy P__law_heavy (spF K f__law_heavy)) {a__law_take : Addr} {fd__law_take : FuncData} (D__law_take : Df K mg "_law_take" s__law_take a__law_take fd__law_take P__law_take) (G__law_take : FnOk P w K mg base (L2.CX P w) 2 a__law_take fd__law_take P__law_take (spF K f__law_take)) {a__law_in_range : Addr} {fd__law_in_range : FuncData} (D__law_in_range : Df K mg "_law_in_range" s__law_in_range a__law_in_range fd__law_in_range P__law_in_range) (G__law_in_range : FnOk P w K mg base (L2.CX P w) 4 a__law_in_range fd__law_in_range P__law_in_range (spF K f__law_in_range)) {a__law_out_of_range : Addr} {fd__law_out_of_range : FuncData} (D__law_out_of_range : Df K mg "_law_out_of_range" s__law_out_of_range a__law_out_of_range fd__law_out_of_range P__law_out_of_range) (G__law_out_of_range : FnOk P w K mg base (L2.CX P w) 4 a__law_out_of_range fd__law_out_of_range P__law_out_of_range (spF K f__law_out_of_range))  :
    FnOk P w K mg base (L2.CX P w) 6 a__law_bad_heavy fd__law_bad_heavy P__law_bad_heavy (spF K f__law_bad_heavy) :=
  fn_ok D__law_bad_heavy.F sc__law_bad_heavy fun cdv A outer s H E hr => by
    have tk : Takes (cxOf (L2.CX P w) P w K mg base N__law_bad_heavy "_law_bad_heavy" (defScope s__law_bad_heavy) a__law_bad_heavy cdv A outer s H E) (WD E) := takes_of rfl rfl rfl rfl
    have pw := passes_of (X := cxOf (L2.CX P w) P w K mg base N__law_bad_heavy "_law_bad_heavy" (defScope s__law_bad_heavy) a__law_bad_heavy cdv A outer s H E) rfl
    exact (jb_cons (js_set (i := 2) sc__law_bad_heavy.nd rfl (Or.inl rfl) (je_call G__law_heavy (hr.mono (by decide)) (by rfl) D__law_heavy.g D__law_heavy.k D__law_heavy.b tk (ja_cons (je_v 0) (ja_cons (je_v 1) ja_nil))))
    (jb_cons (js_set (i := 3) sc__law_bad_heavy.nd rfl (Or.inl rfl) (je_call G__law_take (hr.mono (by decide)) (by rfl) D__law_take.g D__law_take.k D__law_take.b tk (ja_cons (je_v 0) (ja_cons je_int ja_nil))))
    (jb_cons (js_if (jt_cmp (op_eqA hr.units) sp_eq (je_v 3) je_int (nomark _)) (jb_one (js_ret (je_slice sl_any sp_sl (je_v 2) jo_none (jo_some (je_op op_sub sp_sub (je_v 1) je_int))))) jb_nil)
    (jb_cons (js_if (jt_cmp (op_eqA hr.units) sp_eq (je_v 3) je_int (nomark _)) (jb_one (js_ret (je_op op_addD sp_add (je_v 2) (je_lst (ja_cons (je_call G__law_in_range (hr.mono (by decide)) (by rfl) D__law_in_range.g D__law_in_range.k D__law_in_range.b tk (ja_cons (je_v 0) (ja_cons je_int (ja_cons je_int ja_nil)))) ja_nil))))) jb_nil)
    (jb_cons (js_if (jt_cmp (op_eqA hr.units) sp_eq (je_v 3) je_int (nomark _)) (jb_one (js_ret (je_lstL ja_nil))) jb_nil)
    (jb_cons (js_sub set_list sp_set (je_call G__law_out_of_range (hr.mono (by decide)) (by rfl) D__law_out_of_range.g D__law_out_of_range.k D__law_out_of_range.b tk (ja_cons (je_v 0) (ja_cons je_int (ja_cons je_int ja_nil)))) (je_v 2) (je_call G__law_take (hr.mono (by decide)) (by rfl) D__law_take.g D__law_take.k D__law_take.b tk (ja_cons (je_v 0) (ja_cons (je_v 1) ja_nil))))
    (jb_one (js_ret (je_v 2)))))))))
theorem ok__law_word (T : Bt K mg) {a__law_word : Addr} {fd__law_word : FuncData} (D__law_word : Df K mg "_law_word" s__law_word a__law_word fd__law_word P__law_word) {a__law_in_range : Addr} {fd__law_in_range : FuncData} (D__law_in_range : Df K mg "_law_in_range" s__law_in_range a__law_in_range fd__law_in_range P__law_in_range) (G__law_in_range : FnOk P w K mg base (L2.CX P w) 4 a__law_in_range fd__law_in_range P__law_in_range (spF K f__law_in_range)) {a__law_take : Addr} {fd__law_take : FuncData} (D__law_take : Df K mg "_law_take" s__law_take a__law_take fd__law_take P__law_take) (G__law_take : FnOk P w K mg base (L2.CX P w) 2 a__law_take fd__law_take P__law_take (spF K f__law_take)) {a__law_pick : Addr} {fd__law_pick : FuncData} (D__law_pick : Df K mg "_law_pick" s__law_pick a__law_pick fd__law_pick P__law_pick) (G__law_pick : FnOk P w K mg base (L2.CX P w) 3 a__law_pick fd__law_pick P__law_pick (spF K f__law_pick))  :
    FnOk P w K mg base (L2.CX P w) 5 a__law_word fd__law_word P__law_word (spF K f__law_word) :=
  fn_ok D__law_word.F sc__law_word fun cdv A outer s H E hr => by
    have tk : Takes (cxOf (L2.CX P w) P w K mg base N__law_word "_law_word" (defScope s__law_word) a__law_word cdv A outer s H E) (WD E) := takes_of rfl rfl rfl rfl
    have pw := passes_of (X := cxOf (L2.CX P w) P w K mg base N__law_word "_law_word" (defScope s__law_word) a__law_word cdv A outer s H E) rfl
    exact (jb_cons (js_set (i := 4) sc__law_word.nd rfl (Or.inl rfl) (je_call G__law_in_range (hr.mono (by decide)) (by rfl) D__law_in_range.g D__law_in_range.k D__law_in_range.b tk (ja_cons (je_v 0) (ja_cons (je_v 2) (ja_cons (je_v 3) ja_nil)))))
    (jb_cons (js_set (i := 5) sc__law_word.nd rfl (Or.inl rfl) (je_call G__law_take (hr.mono (by decide)) (by rfl) D__law_take.g D__law_take.k D__law_take.b tk (ja_cons (je_v 0) (ja_cons je_int ja_nil))))
    (jb_cons (js_if (jt_cmp (op_eqA hr.units) sp_eq (je_v 5) je_int (nomark _)) (jb_one (js_ret (je_op op_mulD sp_mul (je_call G__law_pick (hr.mono (by decide)) (by rfl) D__law_pick.g D__law_pick.k D__law_pick.b tk (ja_cons (je_v 0) (ja_cons (je_v 1) ja_nil))) (je_v 4)))) jb_nil)
    (jb_cons (js_if (jt_cmp (op_eqA hr.units) sp_eq (je_v 5) je_int (nomark _)) (jb_cons (js_set (i := 6) sc__law_word.nd rfl (Or.inl rfl) (je_op op_addD sp_add (je_call G__law_pick (hr.mono (by decide)) (by rfl) D__law_pick.g D__law_pick.k D__law_pick.b tk (ja_cons (je_v 0) (ja_cons (je_v 1) ja_nil))) (je_call G__law_pick (hr.mono (by decide)) (by rfl) D__law_pick.g D__law_pick.k D__law_pick.b tk (ja_cons (je_v 0) (ja_cons (je_v 1) ja_nil)))))
    (jb_one (js_ret (je_slice sl_any sp_sl (je_op op_mulD sp_mul (je_v 6) (je_v 4)) jo_none (jo_some (je_v 4)))))) jb_nil)
    (jb_one (js_ret (je_bm PySem.F.plainAttrs_str PySem.F.slot_str_join PySem.F.type_str_join mt_join ms_join je_str (ja_cons (je_lc (own := [("k", 7)]) rfl sc__law_word.nd (piI (pi_range1 (by rfl) T.z_range (ja_cons (je_v 4) ja_nil)) t_rng1) (blkOk_by (own := [("k", 7)]) (N := N__law_word) (sc := defScope s__law_word) (by decide +kernel)) (fun _ _ _ _ _ => (pg_name (i := 7) sc__law_word.nd rfl (Or.inl rfl))) (gt_name (by decide)) (fun _ _ _ _ _ => jts_nil) (fun _ _ _ _ _ => (je_call G__law_pick (hr.mono (by decide)) (by rfl) D__law_pick.g D__law_pick.k D__law_pick.b takes0 (ja_cons (je_v 0) (ja_cons (je_v 1) ja_nil))))) ja_nil))))))))
theorem ok__law_bad_word (T : Bt K mg) {a__law_bad_word : Addr} {fd__law_bad_word : FuncData} (D__law_bad_word : Df K mg "_law_bad_word" s__law_bad_word a__law_bad_word fd__law_bad_word P__law_bad_word) {a__law_take : Addr} {fd__law_take : FuncData} (D__law_take : Df K mg "_law_take" s__law_take a__law_take fd__law_take P__law_take) (G__law_take : FnOk P w K mg base (L2.CX P w) 2 a__law_take fd__law_take P__law_take (spF K f__law_take)) {a__law_pick : Addr} {fd__law_pick : FuncData} (D__law_pick : Df K mg "_law_pick" s__law_pick a__law_pick fd__law_pick P__law_pick) (G__law_pick : FnOk P w K mg base (L2.CX P w) 3 a__law_pick fd__law_pick P__law_pick (spF K f__law_pick)) {a__law_stranger : Addr} {fd__law_stranger : FuncData} (D__law_stranger : Df K mg "_law_stranger" s__law_stranger a__law_stranger fd__law_stranger P__law_stranger) (G__law_stranger : FnOk P w K mg base (L2.CX P w) 4 a__law_stranger fd__law_stranger P__law_stranger (spF K f__law_stranger))  :
    FnOk P w K mg base (L2.CX P w) 5 a__law_bad_word fd__law_bad_word P__law_bad_word (spF K f__law_bad_word) :=
  fn_ok D__law_bad_word.F sc__law_bad_word fun cdv A outer s H E hr => by
    have tk : Takes (cxOf (L2.CX P w) P w K mg base N__law_bad_word "_law_bad_word" (defScope s__law_bad_word) a__law_bad_word cdv A outer s H E) (WD E) := takes_of rfl rfl rfl rfl
    have pw := passes_of (X := cxOf (L2.CX P w) P w K mg base N__law_bad_word "_law_bad_word" (defScope s__law_bad_word) a__law_bad_word cdv A outer s H E) rfl
    exact (jb_cons (js_set (i := 2) sc__law_bad_word.nd rfl (Or.inl rfl) (je_call G__law_take (hr.mono (by decide)) (by rfl) D__law_take.g D__law_take.k D__law_take.b tk (ja_cons (je_v 0) (ja_cons je_int ja_nil))))
    (jb_cons (js_set (i := 3) sc__law_bad_word.nd rfl (Or.inl rfl) (je_call G__law_take (hr.mono (by decide)) (by rfl) D__law_take.g D__law_take.k D__law_take.b tk (ja_cons (je_v 0) (ja_cons je_int ja_nil))))
    (jb_cons (js_if (jt_cmp op_gt sp_gt (je_v 2) je_int (nomark _)) (jb_one (js_set (i := 3) sc__law_bad_word.nd rfl (Or.inl rfl) (je_op op_addD sp_add je_int (je_call G__law_take (hr.mono (by decide)) (by rfl) D__law_take.g D__law_take.k D__law_take.b tk (ja_cons (je_v 0) (ja_cons je_int ja_nil)))))) jb_nil)
    (jb_cons (js_set (i := 4) sc__law_bad_word.nd rfl (Or.inl rfl) (je_bm PySem.F.plainAttrs_str PySem.F.slot_str_join PySem.F.type_str_join mt_join ms_join je_str (ja_cons (je_lc (own := [("k", 5)]) rfl sc__law_bad_word.nd (piI (pi_range1 (by rfl) T.z_range (ja_cons (je_v 3) ja_nil)) t_rng1) (blkOk_by (own := [("k", 5)]) (N := N__law_bad_word) (sc := defScope s__law_bad_word) (by decide +kernel)) (fun _ _ _ _ _ => (pg_name (i := 5) sc__law_bad_word.nd rfl (Or.inl rfl))) (gt_name (by decide)) (fun _ _ _ _ _ => jts_nil) (fun _ _ _ _ _ => (je_call G__law_pick (hr.mono (by decide)) (by rfl) D__law_pick.g D__law_pick.k D__law_pick.b takes0 (ja_cons (je_v 0) (ja_cons (je_v 1) ja_nil))))) ja_nil)))
    (jb_cons (js_if (jt_cmp (op_eqA hr.units) sp_eq (je_v 2) je_int (nomark _)) (jb_one (js_ret (je_tup (ja_cons (je_v 4) (ja_cons (je_tup (ja_cons je_str ja_nil)) ja_nil))))) jb_nil)
    (jb_cons (js_set (i := 6) sc__law_bad_word.nd rfl (Or.inl rfl) (je_call G__law_take (hr.mono (by decide)) (by rfl) D__law_take.g D__law_take.k D__law_take.b tk (ja_cons (je_v 0) (ja_cons (je_op op_addD sp_add (je_v 3) je_int) ja_nil))))
    (jb_cons (js_set (i := 7) sc__law_bad_word.nd rfl (Or.inl rfl) (je_call G__law_pick (hr.mono (by decide)) (by rfl) D__law_pick.g D__law_pick.k D__law_pick.b tk (ja_cons (je_v 0) (ja_cons je_str ja_nil))))
    (jb_cons (js_set (i := 4) sc__law_bad_word.nd rfl (Or.inl rfl) (je_op op_addD sp_add (je_op op_addD sp_add (je_slice sl_any sp_sl (je_v 4) jo_none (jo_some (je_v 6))) (je_call G__law_pick (hr.mono (by decide)) (by rfl) D__law_pick.g D__law_pick.k D__law_pick.b tk (ja_cons (je_v 0) (ja_cons (je_lst (ja_cons (je_call G__law_stranger (hr.mono (by decide)) (by rfl) D__law_stranger.g D__law_stranger.k D__law_stranger.b tk (ja_cons (je_v 0) (ja_cons (je_v 1) ja_nil))) (ja_cons (je_v 7) ja_nil))) ja_nil)))) (je_slice sl_any sp_sl (je_v 4) (jo_some (je_v 6)) jo_none)))
    (jb_one (js_ret (je_tup (ja_cons (je_v 4) (ja_cons (je_tup (ja_cons je_str (ja_cons (je_v 4) ja_nil))) ja_nil)))))))))))))
theorem ok__law_same (T : Bt K mg) {a__law_same : Addr} {fd__law_same : FuncData} (D__law_same : Df K mg "_law_same" s__law_same a__law_same fd__law_same P__law_same)   : ∀ n : Nat,
    FnOk P w K mg base (L2.CX P w) (0 + n) a__law_same fd__law_same P__law_same (spF K (f__law_same n))
  | 0 => ⟨fun _ _ _ _ ⟨_, _, _, _, _, _, h⟩ => h.elim, fun _ _ _ _ _ _ _ _ _ _ _ _ _ ⟨_, _, _, _, _, _, h⟩ => h.elim⟩
  | n + 1 => by
    have ih := ok__law_same T D__law_same   n
    exact fn_ok D__law_same.F sc__law_same fun cdv A outer s H E hr => by
      have tk : Takes (cxOf (L2.CX P w) P w K mg base N__law_same "_law_same" (defScope s__law_same) a__law_same cdv A outer s H E) (WD E) := takes_of rfl rfl rfl rfl
      have pw := passes_of (X := cxOf (L2.CX P w) P w K mg base N__law_same "_law_same" (defScope s__law_same) a__law_same cdv A outer s H E) rfl
      exact (jb_cons (js_if (jt_cmp op_isN sp_isN (je_v 1) je_non (nomark _)) (jb_one (js_ret (je_cmp op_isN sp_isN (je_v 0) je_non (nomark _)))) jb_nil)
    (jb_cons (js_if (jt_val (je_callB call_isi cs_isi (by rfl) T.z_isinstance (by decide +kernel) (ja_cons (je_v 1) (ja_cons (je_ty (by rfl) T.z_bool (by decide +kernel)) ja_nil)))) (jb_one (js_ret (je_and (je_callB call_isi cs_isi (by rfl) T.z_isinstance (by decide +kernel) (ja_cons (je_v 0) (ja_cons (je_ty (by rfl) T.z_bool (by decide +kernel)) ja_nil))) (je_one (je_cmp (op_eqA hr.units) sp_eq (je_v 0) (je_v 1) (nomark _)))))) jb_nil)
    (jb_cons (js_if (jt_val (je_callB call_isi cs_isi (by rfl) T.z_isinstance (by decide +kernel) (ja_cons (je_v 1) (ja_cons (je_ty (by rfl) T.z_int (by decide +kernel)) ja_nil)))) (jb_one (js_ret (je_and (je_callB call_isi cs_isi (by rfl) T.z_isinstance (by decide +kernel) (ja_cons (je_v 0) (ja_cons (je_ty (by rfl) T.z_int (by decide +kernel)) ja_nil))) (je_and (je_not (je_callB call_isi cs_isi (by rfl) T.z_isinstance (by decide +kernel) (ja_cons (je_v 0) (ja_cons (je_ty (by rfl) T.z_bool (by decide +kernel)) ja_nil)))) (je_one (je_cmp (op_eqA hr.units) sp_eq (je_v 0) (je_v 1) (nomark _))))))) jb_nil)
    (jb_cons (js_if (jt_val (je_callB call_isi cs_isi (by rfl) T.z_isinstance (by decide +kernel) (ja_cons (je_v 1) (ja_cons (je_ty (by rfl) T.z_str (by decide +kernel)) ja_nil)))) (jb_one (js_ret (je_and (je_callB call_isi cs_isi (by rfl) T.z_isinstance (by decide +kernel) (ja_cons (je_v 0) (ja_cons (je_ty (by rfl) T.z_str (by decide +kernel)) ja_nil))) (je_one (je_cmp (op_eqA hr.units) sp_eq (je_v 0) (je_v 1) (nomark _)))))) jb_nil)
    (jb_cons (js_if (JW.jt (jw_and (jt_val (je_callB call_isi cs_isi (by rfl) T.z_isinstance (by decide +kernel) (ja_cons (je_v 1) (ja_cons (je_ty (by rfl) T.z_tuple (by decide +kernel)) ja_nil)))) (jw_and1 (jt_not (jt_val (je_callB call_isi cs_isi (by rfl) T.z_isinstance (by decide +kernel) (ja_cons (je_v 0) (ja_cons (je_ty (by rfl) T.z_tuple (by decide +kernel)) ja_nil)))))))) (jb_one (js_ret je_bl)) jb_nil)
    (jb_cons (js_if (JW.jt (jw_and (jt_val (je_callB call_isi cs_isi (by rfl) T.z_isinstance (by decide +kernel) (ja_cons (je_v 1) (ja_cons (je_ty (by rfl) T.z_list (by decide +kernel)) ja_nil)))) (jw_and1 (jt_not (jt_val (je_callB call_isi cs_isi (by rfl) T.z_isinstance (by decide +kernel) (ja_cons (je_v 0) (ja_cons (je_ty (by rfl) T.z_list (by decide +kernel)) ja_nil)))))))) (jb_one (js_ret je_bl)) jb_nil)
    (jb_cons (js_if (jt_cmp (op_neA hr.units) sp_ne (je_callB call_len cs_len (by rfl) T.z_len (by decide +kernel) (ja_cons (je_v 0) ja_nil)) (je_callB call_len cs_len (by rfl) T.z_len (by decide +kernel) (ja_cons (je_v 1) ja_nil)) (nomark _)) (jb_one (js_ret je_bl)) jb_nil)
    (jb_cons (js_for (vs := [2]) pw rfl (piI (pi_range1 (by rfl) T.z_range (ja_cons (je_callB call_len cs_len (by rfl) T.z_len (by decide +kernel) (ja_cons (je_v 1) ja_nil)) ja_nil)) t_rng1) (pg_name (i := 2) sc__law_same.nd rfl (Or.inl rfl)) (gt_name (by decide)) (jb_one (js_if (jt_not (jt_val (je_call ih (hr.mono (Nat.le_refl _)) (by rfl) D__law_same.g D__law_same.k D__law_same.b tk (ja_cons (je_ix ix_seq sp_ix (je_v 0) (je_v 2) (fun _ _ => rfl)) (ja_cons (je_ix ix_seq sp_ix (je_v 1) (je_v 2) (fun _ _ => rfl)) ja_nil))))) (jb_one (js_ret je_bl)) jb_nil)))
    (jb_one (js_ret je_bl))))))))))
theorem ok__law_word_fault (T : Bt K mg) {a__law_word_fault : Addr} {fd__law_word_fault : FuncData} (D__law_word_fault : Df K mg "_law_word_fault" s__law_word_fault a__law_word_fault fd__law_word_fault P__law_word_fault)   :
    FnOk P w K mg base (L2.CX P w) 1 a__law_word_fault fd__law_word_fault P__law_word_fault (spF K f__law_word_fault) :=
  fn_ok D__law_word_fault.F sc__law_word_fault fun cdv A outer s H E hr => by
    have tk : Takes (cxOf (L2.CX P w) P w K mg base N__law_word_fault "_law_word_fault" (defScope s__law_word_fault) a__law_word_fault cdv A outer s H E) (WD E) := takes_of rfl rfl rfl rfl
    have pw := passes_of (X := cxOf (L2.CX P w) P w K mg base N__law_word_fault "_law_word_fault" (defScope s__law_word_fault) a__law_word_fault cdv A outer s H E) rfl
    exact (jb_cons (js_for (vs := [3]) pw rfl (ji_any (je_v 1)) (pg_name (i := 3) sc__law_word_fault.nd rfl (Or.inl rfl)) (gt_name (by decide)) (jb_one (js_if (jt_cmp op_notInA sp_notIn (je_v 3) (je_v 0) (by rfl)) (jb_one (js_ret (je_tup (ja_cons je_str (ja_cons (je_v 1) ja_nil))))) jb_nil)))
    (jb_cons (js_if (jt_cmp op_gt sp_gt (je_callB call_len cs_len (by rfl) T.z_len (by decide +kernel) (ja_cons (je_v 1) ja_nil)) (je_v 2) (nomark _)) (jb_one (js_ret (je_tup (ja_cons je_str ja_nil)))) jb_nil)
    (jb_one (js_ret (je_tup ja_nil)))))
theorem ok__law_weigh (T : Bt K mg) {a__law_weigh : Addr} {fd__law_weigh : FuncData} (D__law_weigh : Df K mg "_law_weigh" s__law_weigh a__law_weigh fd__law_weigh P__law_weigh)   :
    FnOk P w K mg base (L2.CX P w) 1 a__law_weigh fd__law_weigh P__law_weigh (spF K f__law_weigh) :=
  fn_ok D__law_weigh.F sc__law_weigh fun cdv A outer s H E hr => by
    have tk : Takes (cxOf (L2.CX P w) P w K mg base N__law_weigh "_law_weigh" (defScope s__law_weigh) a__law_weigh cdv A outer s H E) (WD E) := takes_of rfl rfl rfl rfl
    have pw := passes_of (X := cxOf (L2.CX P w) P w K mg base N__law_weigh "_law_weigh" (defScope s__law_weigh) a__law_weigh cdv A outer s H E) rfl
    exact (jb_one (js_ret (je_callB (cr_sum rfl) cs_sum (by rfl) T.z_sum (by decide +kernel) (ja_cons (je_lc (own := [("char", 3)]) rfl sc__law_weigh.nd (ji_any (je_v 2)) (blkOk_by (own := [("char", 3)]) (N := N__law_weigh) (sc := defScope s__law_weigh) (by decide +kernel)) (fun _ _ _ _ _ => (pg_name (i := 3) sc__law_weigh.nd rfl (Or.inl rfl))) (gt_name (by decide)) (fun _ _ _ _ _ => jts_nil) (fun _ _ _ _ _ => (je_ix ix_seq sp_ix (je_v 1) (je_bm PySem.F.plainAttrs_str PySem.F.slot_str_find PySem.F.type_str_find mt_find ms_find (je_v 0) (ja_cons (je_v 3) ja_nil)) (fun _ _ => rfl)))) ja_nil))))
theorem ok__law_order (T : Bt K mg) {a__law_order : Addr} {fd__law_order : FuncData} (D__law_order : Df K mg "_law_order" s__law_order a__law_order fd__law_order P__law_order) {a__law_weigh : Addr} {fd__law_weigh : FuncData} (D__law_weigh : Df K mg "_law_weigh" s__law_weigh a__law_weigh fd__law_weigh P__law_weigh) (G__law_weigh : FnOk P w K mg base (L2.CX P w) 1 a__law_weigh fd__law_weigh P__law_weigh (spF K f__law_weigh))  :
    FnOk P w K mg base (L2.CX P w) 2 a__law_order fd__law_order P__law_order (spF K f__law_order) :=
  fn_ok D__law_order.F sc__law_order fun cdv A outer s H E hr => by
    have tk : Takes (cxOf (L2.CX P w) P w K mg base N__law_order "_law_order" (defScope s__law_order) a__law_order cdv A outer s H E) (WD E) := takes_of rfl rfl rfl rfl
    have pw := passes_of (X := cxOf (L2.CX P w) P w K mg base N__law_order "_law_order" (defScope s__law_order) a__law_order cdv A outer s H E) rfl
    exact (jb_cons (js_if (jt_cmp (op_eqA hr.units) sp_eq (je_v 2) (je_v 3) (nomark _)) (jb_one (js_ret je_int)) jb_nil)
    (jb_cons (js_set (i := 4) sc__law_order.nd rfl (Or.inl rfl) (je_op op_sub sp_sub (je_call G__law_weigh (hr.mono (by decide)) (by rfl) D__law_weigh.g D__law_weigh.k D__law_weigh.b tk (ja_cons (je_v 0) (ja_cons (je_v 1) (ja_cons (je_v 2) ja_nil)))) (je_call G__law_weigh (hr.mono (by decide)) (by rfl) D__law_weigh.g D__law_weigh.k D__law_weigh.b tk (ja_cons (je_v 0) (ja_cons (je_v 1) (ja_cons (je_v 3) ja_nil))))))
    (jb_cons (js_if (jt_cmp (op_eqA hr.units) sp_eq (je_v 4) je_int (nomark _)) (jb_one (js_for (vs := [5]) pw rfl (piI (pi_range1 (by rfl) T.z_range (ja_cons (je_callB call_len cs_len (by rfl) T.z_len (by decide +kernel) (ja_cons (je_v 2) ja_nil)) ja_nil)) t_rng1) (pg_name (i := 5) sc__law_order.nd rfl (Or.inl rfl)) (gt_name (by decide)) (jb_one (js_if (jt_cmp (op_neA hr.units) sp_ne (je_ix ix_seq sp_ix (je_v 2) (je_v 5) (fun _ _ => rfl)) (je_ix ix_seq sp_ix (je_v 3) (je_v 5) (fun _ _ => rfl)) (nomark _)) (jb_cons (js_set (i := 4) sc__law_order.nd rfl (Or.inl rfl) (je_op op_sub sp_sub (je_bm PySem.F.plainAttrs_str PySem.F.slot_str_find PySem.F.type_str_find mt_find ms_find (je_v 0) (ja_cons (je_ix ix_seq sp_ix (je_v 2) (je_v 5) (fun _ _ => rfl)) ja_nil)) (je_bm PySem.F.plainAttrs_str PySem.F.slot_str_find PySem.F.type_str_find mt_find ms_find (je_v 0) (ja_cons (je_ix ix_seq sp_ix (je_v 3) (je_v 5) (fun _ _ => rfl)) ja_nil))))
    (jb_one js_brk)) jb_nil)))) jb_nil)
    (jb_cons (js_if (jt_cmp op_ltD sp_lt (je_v 4) je_int (nomark _)) (jb_one (js_ret (je_un un_neg sp_neg je_int))) jb_nil)
    (jb_one (js_ret je_int))))))
theorem ok__law_sorted (T : Bt K mg) {a__law_sorted : Addr} {fd__law_sorted : FuncData} (D__law_sorted : Df K mg "_law_sorted" s__law_sorted a__law_sorted fd__law_sorted P__law_sorted) {a__law_order : Addr} {fd__law_order : FuncData} (D__law_order : Df K mg "_law_order" s__law_order a__law_order fd__law_order P__law_order) (G__law_order : FnOk P w K mg base (L2.CX P w) 2 a__law_order fd__law_order P__law_order (spF K f__law_order))  :
    FnOk P w K mg base (L2.CX P w) 3 a__law_sorted fd__law_sorted P__law_sorted (spF K f__law_sorted) :=
  fn_ok D__law_sorted.F sc__law_sorted fun cdv A outer s H E hr => by
    have tk : Takes (cxOf (L2.CX P w) P w K mg base N__law_sorted "_law_sorted" (defScope s__law_sorted) a__law_sorted cdv A outer s H E) (WD E) := takes_of rfl rfl rfl rfl
    have pw := passes_of (X := cxOf (L2.CX P w) P w K mg base N__law_sorted "_law_sorted" (defScope s__law_sorted) a__law_sorted cdv A outer s H E) rfl
    exact (jb_cons (js_set (i := 3) sc__law_sorted.nd rfl (Or.inl rfl) (je_lst ja_nil))
    (jb_cons (js_for (vs := [4]) pw rfl (ji_any (je_v 2)) (pg_name (i := 4) sc__law_sorted.nd rfl (Or.inl rfl)) (gt_name (by decide)) (jb_cons (js_set (i := 5) sc__law_sorted.nd rfl (Or.inl rfl) (je_callB call_len cs_len (by rfl) T.z_len (by decide +kernel) (ja_cons (je_v 3) ja_nil)))
    (jb_cons (js_while whl pw (JW.jt (jw_and (jt_cmp op_gt sp_gt (je_v 5) je_int (nomark _)) (jw_and1 (jt_cmp op_ltD sp_lt (je_call G__law_order (hr.mono (by decide)) (by rfl) D__law_order.g D__law_order.k D__law_order.b tk (ja_cons (je_v 0) (ja_cons (je_v 1) (ja_cons (je_v 4) (ja_cons (je_ix ix_seq sp_ix (je_v 3) (je_op op_sub sp_sub (je_v 5) je_int) (fun _ _ => rfl)) ja_nil))))) je_int (nomark _))))) (jb_one (js_set (i := 5) sc__law_sorted.nd rfl (Or.inl rfl) (je_op op_sub sp_sub (je_v 5) je_int))))
    (jb_one (js_set (i := 3) sc__law_sorted.nd rfl (Or.inl rfl) (je_op op_addD sp_add (je_op op_addD sp_add (je_slice sl_any sp_sl (je_v 3) jo_none (jo_some (je_v 5))) (je_lst (ja_cons (je_v 4) ja_nil))) (je_slice sl_any sp_sl (je_v 3) (jo_some (je_v 5)) jo_none)))))))
    (jb_one (js_ret (je_v 3)))))
theorem ok__law_is_alphabet (T : Bt K mg) {a__law_is_alphabet : Addr} {fd__law_is_alphabet : FuncData} (D__law_is_alphabet : Df K mg "_law_is_alphabet" s__law_is_alphabet a__law_is_alphabet fd__law_is_alphabet P__law_is_alphabet)   :
    FnOk P w K mg base (L2.CX P w) 1 a__law_is_alphabet fd__law_is_alphabet P__law_is_alphabet (spF K f__law_is_alphabet) :=
  fn_ok D__law_is_alphabet.F sc__law_is_alphabet fun cdv A outer s H E hr => by
    have tk : Takes (cxOf (L2.CX P w) P w K mg base N__law_is_alphabet "_law_is_alphabet" (defScope s__law_is_alphabet) a__law_is_alphabet cdv A outer s H E) (WD E) := takes_of rfl rfl rfl rfl
    have pw := passes_of (X := cxOf (L2.CX P w) P w K mg base N__law_is_alphabet "_law_is_alphabet" (defScope s__law_is_alphabet) a__law_is_alphabet cdv A outer s H E) rfl
    exact (jb_cons (js_if (JW.jt (jw_or (jt_cmp op_ltD sp_lt (je_callB call_len cs_len (by rfl) T.z_len (by decide +kernel) (ja_cons (je_v 0) ja_nil)) je_int (nomark _)) (jw_or1 (jt_cmp op_gt sp_gt (je_callB call_len cs_len (by rfl) T.z_len (by decide +kernel) (ja_cons (je_v 0) ja_nil)) je_int (nomark _))))) (jb_one (js_ret je_bl)) jb_nil)
    (jb_cons (js_for (vs := [1]) pw rfl (piI (pi_range1 (by rfl) T.z_range (ja_cons (je_callB call_len cs_len (by rfl) T.z_len (by decide +kernel) (ja_cons (je_v 0) ja_nil)) ja_nil)) t_rng1) (pg_name (i := 1) sc__law_is_alphabet.nd rfl (Or.inl rfl)) (gt_name (by decide)) (jb_one (js_if (JW.jt (jw_or (jt_cmp op_notInA sp_notIn (je_ix ix_seq sp_ix (je_v 0) (je_v 1) (fun _ _ => rfl)) je_str (by rfl)) (jw_or1 (jt_cmp op_inA sp_in (je_ix ix_seq sp_ix (je_v 0) (je_v 1) (fun _ _ => rfl)) (je_slice sl_any sp_sl (je_v 0) jo_none (jo_some (je_v 1))) (by rfl))))) (jb_one (js_ret je_bl)) jb_nil)))
    (jb_one (js_ret je_bl))))
theorem ok__law_ask (T : Bt K mg) {a__law_ask : Addr} {fd__law_ask : FuncData} (D__law_ask : Df K mg "_law_ask" s__law_ask a__law_ask fd__law_ask P__law_ask) {a_compare_words : Addr} {fd_compare_words : FuncData} (D_compare_words : Df K mg "compare_words" s_compare_words a_compare_words fd_compare_words P_compare_words) (G_compare_words : FnOk P w K mg base (L2.CX P w) 4 a_compare_words fd_compare_words P_compare_words (spF K f_compare_words)) {a_word_weight : Addr} {fd_word_weight : FuncData} (D_word_weight : Df K mg "word_weight" s_word_weight a_word_weight fd_word_weight P_word_weight) (G_word_weight : FnOk P w K mg base (L2.CX P w) 4 a_word_weight fd_word_weight P_word_weight (spF K f_word_weight)) {a_sort_words : Addr} {fd_sort_words : FuncData} (D_sort_words : Df K mg "sort_words" s_sort_words a_sort_words fd_sort_words P_sort_words) (G_sort_words : FnOk P w K mg base (L2.CX P w) 4 a_sort_words fd_sort_words P_sort_words (spF K f_sort_words))  :
    FnOk P w K mg base (L2.CX P w) 5 a__law_ask fd__law_ask P__law_ask (spF K f__law_ask) :=
  fn_ok D__law_ask.F sc__law_ask fun cdv A outer s H E hr => by
    have tk : Takes (cxOf (L2.CX P w) P w K mg base N__law_ask "_law_ask" (defScope s__law_ask) a__law_ask cdv A outer s H E) (WD E) := takes_of rfl rfl rfl rfl
    have pw := passes_of (X := cxOf (L2.CX P w) P w K mg base N__law_ask "_law_ask" (defScope s__law_ask) a__law_ask cdv A outer s H E) rfl
    exact (jb_cons (js_tryAs rfl rfl sc__law_ask.nd rfl rfl ⟨by rfl, by decide, .inl T.k_WayfillError⟩ tk T.xt.exm (fun W pn xe tk pw => (jb_cons (js_if (jt_cmp (op_eqA hr.units) sp_eq (je_v 0) je_int (nomark _)) (jb_one (js_ret (je_tup (ja_cons je_str (ja_cons (je_call G_compare_words (hr.mono (by decide)) (by rfl) D_compare_words.g D_compare_words.k D_compare_words.b tk (ja_cons (je_v 1) (ja_cons (je_v 2) (ja_cons (je_ix ix_seq sp_ix (je_v 3) je_int (fun _ _ => rfl)) (ja_cons (je_ix ix_seq sp_ix (je_v 3) je_int (fun _ _ => rfl)) ja_nil))))) ja_nil))))) jb_nil)
    (jb_cons (js_if (jt_cmp (op_eqA hr.units) sp_eq (je_v 0) je_int (nomark _)) (jb_one (js_ret (je_tup (ja_cons je_str (ja_cons (je_call G_word_weight (hr.mono (by decide)) (by rfl) D_word_weight.g D_word_weight.k D_word_weight.b tk (ja_cons (je_v 1) (ja_cons (je_v 2) (ja_cons (je_ix ix_seq sp_ix (je_v 3) je_int (fun _ _ => rfl)) ja_nil)))) ja_nil))))) jb_nil)
    (jb_cons (js_if (jt_cmp (op_eqA hr.units) sp_eq (je_v 0) je_int (nomark _)) (jb_one (js_ret (je_tup (ja_cons je_str (ja_cons (je_call G_sort_words (hr.mono (by decide)) (by rfl) D_sort_words.g D_sort_words.k D_sort_words.b tk (ja_cons (je_v 1) (ja_cons (je_v 2) (ja_cons (je_v 3) ja_nil)))) ja_nil))))) jb_nil)
    (jb_cons (js_if (jt_cmp (op_eqA hr.units) sp_eq (je_v 0) je_int (nomark _)) (jb_one (js_ret (je_tup (ja_cons je_str (ja_cons (je_callK0 (ks := ["other", "one", "weights", "letters"]) (ix := [3, 2, 1, 0]) G_compare_words (hr.mono (by decide)) (by rfl) D_compare_words.g D_compare_words.k (KB_compare_words_3_2_1_0 D_compare_words.F) tk (jk_cons (je_ix ix_seq sp_ix (je_v 3) je_int (fun _ _ => rfl)) (jk_cons (je_ix ix_seq sp_ix (je_v 3) je_int (fun _ _ => rfl)) (jk_cons (je_v 2) (jk_cons (je_v 1) jk_nil))))) ja_nil))))) jb_nil)
    (jb_cons (js_if (jt_cmp (op_eqA hr.units) sp_eq (je_v 0) je_int (nomark _)) (jb_one (js_ret (je_tup (ja_cons je_str (ja_cons (je_callK0 (ks := ["word", "weights", "letters"]) (ix := [2, 1, 0]) G_word_weight (hr.mono (by decide)) (by rfl) D_word_weight.g D_word_weight.k (KB_word_weight_2_1_0 D_word_weight.F) tk (jk_cons (je_ix ix_seq sp_ix (je_v 3) je_int (fun _ _ => rfl)) (jk_cons (je_v 2) (jk_cons (je_v 1) jk_nil)))) ja_nil))))) jb_nil)
    (jb_one (js_ret (je_tup (ja_cons je_str (ja_cons (je_callK0 (ks := ["words", "weights", "letters"]) (ix := [2, 1, 0]) G_sort_words (hr.mono (by decide)) (by rfl) D_sort_words.g D_sort_words.k (KB_sort_words_2_1_0 D_sort_words.F) tk (jk_cons (je_v 3) (jk_cons (je_v 2) (jk_cons (je_v 1) jk_nil)))) ja_nil))))))))))) (fun a oe cls d pn y hz hf hy hc => by
      obtain ⟨C, ns, vs, l, rfl, hm⟩ := exm_inv hy
      cases (show cls = .ref C from hc)
      have XC := T.xt.get hm
      exact (jb_cons (js_set (i := 5) sc__law_ask.nd rfl (Or.inl rfl) (je_and (je_callB (call_isX (cls := .ref C) XC.ec hz hf) (cs_isx T.xt.isx) (by rfl) T.z_isinstance (by decide +kernel) (ja_cons (je_v 4) (ja_cons (je_ty (by rfl) T.z_ValueError (by decide +kernel)) ja_nil))) (je_one (je_not (je_callB (call_isX (cls := .ref C) XC.ec hz hf) (cs_isx T.xt.isx) (by rfl) T.z_isinstance (by decide +kernel) (ja_cons (je_v 4) (ja_cons (je_glob (by rfl) T.k_TooMany) ja_nil)))))))
    (jb_cons (js_set (i := 6) sc__law_ask.nd rfl (Or.inl rfl) (je_lstL (ja_cons (je_callB (call_isX (cls := .ref C) XC.ec hz hf) (cs_isx T.xt.isx) (by rfl) T.z_isinstance (by decide +kernel) (ja_cons (je_v 4) (ja_cons (je_glob (by rfl) T.k_BadLetters) ja_nil))) (ja_cons (je_callB (call_isX (cls := .ref C) XC.ec hz hf) (cs_isx T.xt.isx) (by rfl) T.z_isinstance (by decide +kernel) (ja_cons (je_v 4) (ja_cons (je_glob (by rfl) T.k_BadWeights) ja_nil))) (ja_cons (je_callB (call_isX (cls := .ref C) XC.ec hz hf) (cs_isx T.xt.isx) (by rfl) T.z_isinstance (by decide +kernel) (ja_cons (je_v 4) (ja_cons (je_glob (by rfl) T.k_BadWord) ja_nil))) (ja_cons (je_callB (call_isX (cls := .ref C) XC.ec hz hf) (cs_isx T.xt.isx) (by rfl) T.z_isinstance (by decide +kernel) (ja_cons (je_v 4) (ja_cons (je_glob (by rfl) T.k_TooLong) ja_nil))) ja_nil))))))
    (jb_cons (js_expr (je_bm PySem.F.plainAttrs_list PySem.F.slot_list_append PySem.F.type_list_append mt_append ms_append (je_v 6) (ja_cons (je_callB (call_isX (cls := .ref C) XC.ec hz hf) (cs_isx T.xt.isx) (by rfl) T.z_isinstance (by decide +kernel) (ja_cons (je_v 4) (ja_cons (je_glob (by rfl) T.k_BoundError) ja_nil))) ja_nil)))
    (jb_cons (js_if (JW.jt (jw_and (jt_val (je_v 5)) (jw_and1 (jt_cmp (op_eqA hr.units) sp_eq (je_v 6) (je_lst (ja_cons je_bl (ja_cons je_bl (ja_cons je_bl (ja_cons je_bl (ja_cons je_bl ja_nil)))))) (nomark _))))) (jb_one (js_ret (je_tup (ja_cons je_str (ja_cons (je_xf XC.xf (T.no_text _ hm) hz hf (je_v 4)) ja_nil))))) jb_nil)
    (jb_cons (js_if (JW.jt (jw_and (jt_val (je_v 5)) (jw_and1 (jt_cmp (op_eqA hr.units) sp_eq (je_v 6) (je_lst (ja_cons je_bl (ja_cons je_bl (ja_cons je_bl (ja_cons je_bl (ja_cons je_bl ja_nil)))))) (nomark _))))) (jb_one (js_ret (je_tup (ja_cons je_str ja_nil)))) jb_nil)
    (jb_cons (js_if (JW.jt (jw_and (jt_val (je_v 5)) (jw_and1 (jt_cmp (op_eqA hr.units) sp_eq (je_v 6) (je_lst (ja_cons je_bl (ja_cons je_bl (ja_cons je_bl (ja_cons je_bl (ja_cons je_bl ja_nil)))))) (nomark _))))) (jb_one (js_ret (je_tup (ja_cons je_str (ja_cons (je_xf XC.xf (T.no_text _ hm) hz hf (je_v 4)) ja_nil))))) jb_nil)
    (jb_one (js_if (JW.jt (jw_and (jt_val (je_v 5)) (jw_and1 (jt_cmp (op_eqA hr.units) sp_eq (je_v 6) (je_lst (ja_cons je_bl (ja_cons je_bl (ja_cons je_bl (ja_cons je_bl (ja_cons je_bl ja_nil)))))) (nomark _))))) (jb_one (js_ret (je_tup (ja_cons je_str ja_nil)))) jb_nil))))))))))
    (jb_one (js_ret (je_tup (ja_cons je_str ja_nil)))))
theorem ok__law_due (T : Bt K mg) {a__law_due : Addr} {fd__law_due : FuncData} (D__law_due : Df K mg "_law_due" s__law_due a__law_due fd__law_due P__law_due) {a__law_is_alphabet : Addr} {fd__law_is_alphabet : FuncData} (D__law_is_alphabet : Df K mg "_law_is_alphabet" s__law_is_alphabet a__law_is_alphabet fd__law_is_alphabet P__law_is_alphabet) (G__law_is_alphabet : FnOk P w K mg base (L2.CX P w) 1 a__law_is_alphabet fd__law_is_alphabet P__law_is_alphabet (spF K f__law_is_alphabet)) {a__law_word_fault : Addr} {fd__law_word_fault : FuncData} (D__law_word_fault : Df K mg "_law_word_fault" s__law_word_fault a__law_word_fault fd__law_word_fault P__law_word_fault) (G__law_word_fault : FnOk P w K mg base (L2.CX P w) 1 a__law_word_fault fd__law_word_fault P__law_word_fault (spF K f__law_word_fault)) {a__law_order : Addr} {fd__law_order : FuncData} (D__law_order : Df K mg "_law_order" s__law_order a__law_order fd__law_order P__law_order) (G__law_order : FnOk P w K mg base (L2.CX P w) 2 a__law_order fd__law_order P__law_order (spF K f__law_order)) {a__law_weigh : Addr} {fd__law_weigh : FuncData} (D__law_weigh : Df K mg "_law_weigh" s__law_weigh a__law_weigh fd__law_weigh P__law_weigh) (G__law_weigh : FnOk P w K mg base (L2.CX P w) 1 a__law_weigh fd__law_weigh P__law_weigh (spF K f__law_weigh)) {a__law_sorted : Addr} {fd__law_sorted : FuncData} (D__law_sorted : Df K mg "_law_sorted" s__law_sorted a__law_sorted fd__law_sorted P__law_sorted) (G__law_sorted : FnOk P w K mg base (L2.CX P w) 3 a__law_sorted fd__law_sorted P__law_sorted (spF K f__law_sorted))  :
    FnOk P w K mg base (L2.CX P w) 4 a__law_due fd__law_due P__law_due (spF K f__law_due) :=
  fn_ok D__law_due.F sc__law_due fun cdv A outer s H E hr => by
    have tk : Takes (cxOf (L2.CX P w) P w K mg base N__law_due "_law_due" (defScope s__law_due) a__law_due cdv A outer s H E) (WD E) := takes_of rfl rfl rfl rfl
    have pw := passes_of (X := cxOf (L2.CX P w) P w K mg base N__law_due "_law_due" (defScope s__law_due) a__law_due cdv A outer s H E) rfl
    exact (jb_cons (js_if (jt_not (jt_val (je_call G__law_is_alphabet (hr.mono (by decide)) (by rfl) D__law_is_alphabet.g D__law_is_alphabet.k D__law_is_alphabet.b tk (ja_cons (je_v 1) ja_nil)))) (jb_one (js_ret (je_tup (ja_cons je_str (ja_cons (je_v 1) ja_nil))))) jb_nil)
    (jb_cons (js_if (JW.jt (jw_or (jt_cmp (op_neA hr.units) sp_ne (je_callB call_len cs_len (by rfl) T.z_len (by decide +kernel) (ja_cons (je_v 2) ja_nil)) (je_callB call_len cs_len (by rfl) T.z_len (by decide +kernel) (ja_cons (je_v 1) ja_nil)) (nomark _)) (jw_or1 (jt_cmp op_gt sp_gt (je_callB call_len cs_len (by rfl) T.z_len (by decide +kernel) (ja_cons (je_lc (own := [("x", 4)]) rfl sc__law_due.nd (ji_any (je_v 2)) (blkOk_by (own := [("x", 4)]) (N := N__law_due) (sc := defScope s__law_due) (by decide +kernel)) (fun _ _ _ _ _ => (pg_name (i := 4) sc__law_due.nd rfl (Or.inl rfl))) (gt_name (by decide)) (fun _ _ _ _ _ => (jts_one (JW.jt (jw_or (jt_cmp op_ltD sp_lt (je_v 4) je_int (nomark _)) (jw_or1 (jt_cmp op_gt sp_gt (je_v 4) je_int (nomark _))))))) (fun _ _ _ _ _ => (je_v 4))) ja_nil)) je_int (nomark _))))) (jb_one (js_ret (je_tup (ja_cons je_str ja_nil)))) jb_nil)
    (jb_cons (js_set (i := 5) sc__law_due.nd rfl (Or.inl rfl) (je_v 3))
    (jb_cons (js_if (jt_cmp op_ltD sp_lt (je_v 0) je_int (nomark _)) (jb_one (js_set (i := 5) sc__law_due.nd rfl (Or.inl rfl) (je_slice sl_any sp_sl (je_v 3) jo_none (jo_some (je_op op_sub sp_sub je_int (je_v 0)))))) jb_nil)
    (jb_cons (js_for (vs := [6]) pw rfl (ji_any (je_v 5)) (pg_name (i := 6) sc__law_due.nd rfl (Or.inl rfl)) (gt_name (by decide)) (jb_cons (js_set (i := 7) sc__law_due.nd rfl (Or.inl rfl) (je_call G__law_word_fault (hr.mono (by decide)) (by rfl) D__law_word_fault.g D__law_word_fault.k D__law_word_fault.b tk (ja_cons (je_v 1) (ja_cons (je_v 6) (ja_cons je_int ja_nil)))))
    (jb_one (js_if (jt_cmp op_gt sp_gt (je_callB call_len cs_len (by rfl) T.z_len (by decide +kernel) (ja_cons (je_v 7) ja_nil)) je_int (nomark _)) (jb_one (js_ret (je_v 7))) jb_nil))))
    (jb_cons (js_if (jt_cmp (op_eqA hr.units) sp_eq (je_v 0) je_int (nomark _)) (jb_one (js_ret (je_tup (ja_cons je_str (ja_cons (je_call G__law_order (hr.mono (by decide)) (by rfl) D__law_order.g D__law_order.k D__law_order.b tk (ja_cons (je_v 1) (ja_cons (je_v 2) (ja_cons (je_ix ix_seq sp_ix (je_v 3) je_int (fun _ _ => rfl)) (ja_cons (je_ix ix_seq sp_ix (je_v 3) je_int (fun _ _ => rfl)) ja_nil))))) ja_nil))))) jb_nil)
    (jb_cons (js_if (jt_cmp (op_eqA hr.units) sp_eq (je_v 0) je_int (nomark _)) (jb_one (js_ret (je_tup (ja_cons je_str (ja_cons (je_call G__law_weigh (hr.mono (by decide)) (by rfl) D__law_weigh.g D__law_weigh.k D__law_weigh.b tk (ja_cons (je_v 1) (ja_cons (je_v 2) (ja_cons (je_ix ix_seq sp_ix (je_v 3) je_int (fun _ _ => rfl)) ja_nil)))) ja_nil))))) jb_nil)
    (jb_one (js_ret (je_tup (ja_cons je_str (ja_cons (je_call G__law_sorted (hr.mono (by decide)) (by rfl) D__law_sorted.g D__law_sorted.k D__law_sorted.b tk (ja_cons (je_v 1) (ja_cons (je_v 2) (ja_cons (je_v 3) ja_nil)))) ja_nil))))))))))))
theorem ok__law_near (T : Bt K mg) {a__law_near : Addr} {fd__law_near : FuncData} (D__law_near : Df K mg "_law_near" s__law_near a__law_near fd__law_near P__law_near) {a__law_take : Addr} {fd__law_take : FuncData} (D__law_take : Df K mg "_law_take" s__law_take a__law_take fd__law_take P__law_take) (G__law_take : FnOk P w K mg base (L2.CX P w) 2 a__law_take fd__law_take P__law_take (spF K f__law_take)) {a__law_pick : Addr} {fd__law_pick : FuncData} (D__law_pick : Df K mg "_law_pick" s__law_pick a__law_pick fd__law_pick P__law_pick) (G__law_pick : FnOk P w K mg base (L2.CX P w) 3 a__law_pick fd__law_pick P__law_pick (spF K f__law_pick)) {a__law_word : Addr} {fd__law_word : FuncData} (D__law_word : Df K mg "_law_word" s__law_word a__law_word fd__law_word P__law_word) (G__law_word : FnOk P w K mg base (L2.CX P w) 5 a__law_word fd__law_word P__law_word (spF K f__law_word))  :
    FnOk P w K mg base (L2.CX P w) 6 a__law_near fd__law_near P__law_near (spF K f__law_near) :=
  fn_ok D__law_near.F sc__law_near fun cdv A outer s H E hr => by
    have tk : Takes (cxOf (L2.CX P w) P w K mg base N__law_near "_law_near" (defScope s__law_near) a__law_near cdv A outer s H E) (WD E) := takes_of rfl rfl rfl rfl
    have pw := passes_of (X := cxOf (L2.CX P w) P w K mg base N__law_near "_law_near" (defScope s__law_near) a__law_near cdv A outer s H E) rfl
    exact (jb_cons (js_set (i := 3) sc__law_near.nd rfl (Or.inl rfl) (je_call G__law_take (hr.mono (by decide)) (by rfl) D__law_take.g D__law_take.k D__law_take.b tk (ja_cons (je_v 0) (ja_cons je_int ja_nil))))
    (jb_cons (js_set (i := 4) sc__law_near.nd rfl (Or.inl rfl) (je_call G__law_take (hr.mono (by decide)) (by rfl) D__law_take.g D__law_take.k D__law_take.b tk (ja_cons (je_v 0) (ja_cons (je_op op_addD sp_add (je_callB call_len cs_len (by rfl) T.z_len (by decide +kernel) (ja_cons (je_v 2) ja_nil)) je_int) ja_nil))))
    (jb_cons (js_if (jt_cmp (op_eqA hr.units) sp_eq (je_v 3) je_int (nomark _)) (jb_one (js_ret (je_v 2))) jb_nil)
    (jb_cons (js_if (jt_cmp (op_eqA hr.units) sp_eq (je_v 3) je_int (nomark _)) (jb_one (js_ret (je_slice sl_any sp_sl (je_v 2) jo_none (jo_some (je_v 4))))) jb_nil)
    (jb_cons (js_if (jt_cmp (op_eqA hr.units) sp_eq (je_v 3) je_int (nomark _)) (jb_one (js_ret (je_op op_addD sp_add (je_slice sl_any sp_sl (je_v 2) (jo_some (je_v 4)) jo_none) (je_slice sl_any sp_sl (je_v 2) jo_none (jo_some (je_v 4)))))) jb_nil)
    (jb_cons (js_if (jt_cmp (op_eqA hr.units) sp_eq (je_v 3) je_int (nomark _)) (jb_one (js_ret (je_rev (je_v 2)))) jb_nil)
    (jb_cons (js_if (jt_cmp op_ltD sp_lt (je_v 3) je_int (nomark _)) (jb_one (js_ret (je_slice sl_any sp_sl (je_op op_addD sp_add (je_op op_addD sp_add (je_slice sl_any sp_sl (je_v 2) jo_none (jo_some (je_v 4))) (je_call G__law_pick (hr.mono (by decide)) (by rfl) D__law_pick.g D__law_pick.k D__law_pick.b tk (ja_cons (je_v 0) (ja_cons (je_v 1) ja_nil)))) (je_slice sl_any sp_sl (je_v 2) (jo_some (je_op op_addD sp_add (je_v 4) je_int)) jo_none)) jo_none (jo_some je_int)))) jb_nil)
    (jb_one (js_ret (je_call G__law_word (hr.mono (by decide)) (by rfl) D__law_word.g D__law_word.k D__law_word.b tk (ja_cons (je_v 0) (ja_cons (je_v 1) (ja_cons je_int (ja_cons je_int ja_nil))))))))))))))
theorem ok__law_words (T : Bt K mg) {a__law_words : Addr} {fd__law_words : FuncData} (D__law_words : Df K mg "_law_words" s__law_words a__law_words fd__law_words P__law_words) {a__law_take : Addr} {fd__law_take : FuncData} (D__law_take : Df K mg "_law_take" s__law_take a__law_take fd__law_take P__law_take) (G__law_take : FnOk P w K mg base (L2.CX P w) 2 a__law_take fd__law_take P__law_take (spF K f__law_take)) {a__law_rare : Addr} {fd__law_rare : FuncData} (D__law_rare : Df K mg "_law_rare" s__law_rare a__law_rare fd__law_rare P__law_rare) (G__law_rare : FnOk P w K mg base (L2.CX P w) 3 a__law_rare fd__law_rare P__law_rare (spF K f__law_rare)) {a__law_word : Addr} {fd__law_word : FuncData} (D__law_word : Df K mg "_law_word" s__law_word a__law_word fd__law_word P__law_word) (G__law_word : FnOk P w K mg base (L2.CX P w) 5 a__law_word fd__law_word P__law_word (spF K f__law_word)) {a__law_pick : Addr} {fd__law_pick : FuncData} (D__law_pick : Df K mg "_law_pick" s__law_pick a__law_pick fd__law_pick P__law_pick) (G__law_pick : FnOk P w K mg base (L2.CX P w) 3 a__law_pick fd__law_pick P__law_pick (spF K f__law_pick)) {a__law_near : Addr} {fd__law_near : FuncData} (D__law_near : Df K mg "_law_near" s__law_near a__law_near fd__law_near P__law_near) (G__law_near : FnOk P w K mg base (L2.CX P w) 6 a__law_near fd__law_near P__law_near (spF K f__law_near))  :
    FnOk P w K mg base (L2.CX P w) 7 a__law_words fd__law_words P__law_words (spF K f__law_words) :=
  fn_ok D__law_words.F sc__law_words fun cdv A outer s H E hr => by
    have tk : Takes (cxOf (L2.CX P w) P w K mg base N__law_words "_law_words" (defScope s__law_words) a__law_words cdv A outer s H E) (WD E) := takes_of rfl rfl rfl rfl
    have pw := passes_of (X := cxOf (L2.CX P w) P w K mg base N__law_words "_law_words" (defScope s__law_words) a__law_words cdv A outer s H E) rfl
    exact (jb_cons (js_set (i := 2) sc__law_words.nd rfl (Or.inl rfl) (je_op op_addD sp_add je_int (je_call G__law_take (hr.mono (by decide)) (by rfl) D__law_take.g D__law_take.k D__law_take.b tk (ja_cons (je_v 0) (ja_cons je_int ja_nil)))))
    (jb_cons (js_if (jt_val (je_call G__law_rare (hr.mono (by decide)) (by rfl) D__law_rare.g D__law_rare.k D__law_rare.b tk (ja_cons (je_v 0) (ja_cons je_int ja_nil)))) (jb_one (js_set (i := 2) sc__law_words.nd rfl (Or.inl rfl) (je_op op_addD sp_add je_int (je_call G__law_take (hr.mono (by decide)) (by rfl) D__law_take.g D__law_take.k D__law_take.b tk (ja_cons (je_v 0) (ja_cons je_int ja_nil)))))) jb_nil)
    (jb_cons (js_set (i := 3) sc__law_words.nd rfl (Or.inl rfl) (je_lstL (ja_cons (je_call G__law_word (hr.mono (by decide)) (by rfl) D__law_word.g D__law_word.k D__law_word.b tk (ja_cons (je_v 0) (ja_cons (je_v 1) (ja_cons je_int (ja_cons (je_call G__law_pick (hr.mono (by decide)) (by rfl) D__law_pick.g D__law_pick.k D__law_pick.b tk (ja_cons (je_v 0) (ja_cons (je_lst (ja_cons je_int (ja_cons je_int (ja_cons je_int ja_nil)))) ja_nil))) ja_nil))))) ja_nil)))
    (jb_cons (js_for (vs := [4]) pw rfl (piI (pi_range1 (by rfl) T.z_range (ja_cons (je_op op_sub sp_sub (je_v 2) je_int) ja_nil)) t_rng1) (pg_name (i := 4) sc__law_words.nd rfl (Or.inl rfl)) (gt_name (by decide)) (jb_cons (js_set (i := 5) sc__law_words.nd rfl (Or.inl rfl) (je_call G__law_pick (hr.mono (by decide)) (by rfl) D__law_pick.g D__law_pick.k D__law_pick.b tk (ja_cons (je_v 0) (ja_cons (je_v 3) ja_nil))))
    (jb_one (js_expr (je_bm PySem.F.plainAttrs_list PySem.F.slot_list_append PySem.F.type_list_append mt_append ms_append (je_v 3) (ja_cons (je_call G__law_near (hr.mono (by decide)) (by rfl) D__law_near.g D__law_near.k D__law_near.b tk (ja_cons (je_v 0) (ja_cons (je_v 1) (ja_cons (je_v 5) ja_nil)))) ja_nil))))))
    (jb_one (js_ret (je_v 3)))))))
theorem ok__law_all_right (T : Bt K mg) {a__law_all_right : Addr} {fd__law_all_right : FuncData} (D__law_all_right : Df K mg "_law_all_right" s__law_all_right a__law_all_right fd__law_all_right P__law_all_right) {a__law_due : Addr} {fd__law_due : FuncData} (D__law_due : Df K mg "_law_due" s__law_due a__law_due fd__law_due P__law_due) (G__law_due : FnOk P w K mg base (L2.CX P w) 4 a__law_due fd__law_due P__law_due (spF K f__law_due)) {a__law_ask : Addr} {fd__law_ask : FuncData} (D__law_ask : Df K mg "_law_ask" s__law_ask a__law_ask fd__law_ask P__law_ask) (G__law_ask : FnOk P w K mg base (L2.CX P w) 5 a__law_ask fd__law_ask P__law_ask (spF K f__law_ask)) {a__law_same : Addr} {fd__law_same : FuncData} (D__law_same : Df K mg "_law_same" s__law_same a__law_same fd__law_same P__law_same) (G__law_same : FnOk P w K mg base (L2.CX P w) 8 a__law_same fd__law_same P__law_same (spF K (f__law_same 8)))  :
    FnOk P w K mg base (L2.CX P w) 10 a__law_all_right fd__law_all_right P__law_all_right (spF K f__law_all_right) :=
  fn_ok D__law_all_right.F sc__law_all_right fun cdv A outer s H E hr => by
    have tk : Takes (cxOf (L2.CX P w) P w K mg base N__law_all_right "_law_all_right" (defScope s__law_all_right) a__law_all_right cdv A outer s H E) (WD E) := takes_of rfl rfl rfl rfl
    have pw := passes_of (X := cxOf (L2.CX P w) P w K mg base N__law_all_right "_law_all_right" (defScope s__law_all_right) a__law_all_right cdv A outer s H E) rfl
    exact (jb_cons (js_for (vs := [3]) pw rfl (ji_any (je_lst (ja_cons je_int (ja_cons je_int (ja_cons je_int ja_nil))))) (pg_name (i := 3) sc__law_all_right.nd rfl (Or.inl rfl)) (gt_name (by decide)) (jb_cons (js_set (i := 4) sc__law_all_right.nd rfl (Or.inl rfl) (je_callT call_listA cs_list (by rfl) T.z_list (by decide +kernel) (ja_cons (je_v 1) ja_nil)))
    (jb_cons (js_set (i := 5) sc__law_all_right.nd rfl (Or.inl rfl) (je_callT call_listA cs_list (by rfl) T.z_list (by decide +kernel) (ja_cons (je_v 2) ja_nil)))
    (jb_cons (js_set (i := 6) sc__law_all_right.nd rfl (Or.inl rfl) (je_call G__law_due (hr.mono (by decide)) (by rfl) D__law_due.g D__law_due.k D__law_due.b tk (ja_cons (je_v 3) (ja_cons (je_v 0) (ja_cons (je_v 1) (ja_cons (je_v 2) ja_nil))))))
    (jb_cons (js_set (i := 7) sc__law_all_right.nd rfl (Or.inl rfl) (je_call G__law_ask (hr.mono (by decide)) (by rfl) D__law_ask.g D__law_ask.k D__law_ask.b tk (ja_cons (je_v 3) (ja_cons (je_v 0) (ja_cons (je_v 4) (ja_cons (je_v 5) ja_nil))))))
    (jb_cons (js_if (JW.jt (jw_or (jt_not (jt_val (je_call G__law_same (hr.mono (by decide)) (by rfl) D__law_same.g D__law_same.k D__law_same.b tk (ja_cons (je_v 7) (ja_cons (je_v 6) ja_nil))))) (jw_or (jt_cmp (op_neA hr.units) sp_ne (je_v 4) (je_v 1) (nomark _)) (jw_or1 (jt_cmp (op_neA hr.units) sp_ne (je_v 5) (je_v 2) (nomark _)))))) (jb_one (js_ret je_bl)) jb_nil)
    (jb_cons (js_if (JW.jt (jw_and (jt_cmp (op_eqA hr.units) sp_eq (je_v 3) je_int (nomark _)) (jw_and1 (jt_cmp (op_eqA hr.units) sp_eq (je_ix ix_seq sp_ix (je_v 7) je_int (fun _ _ => rfl)) je_str (nomark _))))) (jb_cons (js_expr (je_bm PySem.F.plainAttrs_list PySem.F.slot_list_append PySem.F.type_list_append mt_append ms_append (je_ix ix_seq sp_ix (je_v 7) je_int (fun _ _ => rfl)) (ja_cons je_str ja_nil)))
    (jb_one (js_sub set_list sp_set je_str (je_ix ix_seq sp_ix (je_v 7) je_int (fun _ _ => rfl)) je_int))) jb_nil)
    (jb_cons (js_if (JW.jt (jw_or (jt_cmp (op_neA hr.units) sp_ne (je_v 5) (je_v 2) (nomark _)) (jw_or1 (jt_not (jt_val (je_call G__law_same (hr.mono (by decide)) (by rfl) D__law_same.g D__law_same.k D__law_same.b tk (ja_cons (je_frzT (je_call G__law_ask (hr.mono (by decide)) (by rfl) D__law_ask.g D__law_ask.k D__law_ask.b tk (ja_cons (je_v 3) (ja_cons (je_v 0) (ja_cons (je_v 4) (ja_cons (je_v 5) ja_nil)))))) (ja_cons (je_v 6) ja_nil)))))))) (jb_one (js_ret je_bl)) jb_nil)
    (jb_one (js_if (JW.jt (jw_or (jt_not (jt_val (je_call G__law_same (hr.mono (by decide)) (by rfl) D__law_same.g D__law_same.k D__law_same.b tk (ja_cons (je_frzT (je_call G__law_ask (hr.mono (by decide)) (by rfl) D__law_ask.g D__law_ask.k D__law_ask.b tk (ja_cons (je_op op_addD sp_add (je_v 3) je_int) (ja_cons (je_v 0) (ja_cons (je_v 4) (ja_cons (je_v 5) ja_nil)))))) (ja_cons (je_v 6) ja_nil))))) (jw_or (jt_cmp (op_neA hr.units) sp_ne (je_v 4) (je_v 1) (nomark _)) (jw_or1 (jt_cmp (op_neA hr.units) sp_ne (je_v 5) (je_v 2) (nomark _)))))) (jb_one (js_ret je_bl)) jb_nil))))))))))
    (jb_one (js_ret je_bl)))
theorem ok__law_large_right (T : Bt K mg) {a__law_large_right : Addr} {fd__law_large_right : FuncData} (D__law_large_right : Df K mg "_law_large_right" s__law_large_right a__law_large_right fd__law_large_right P__law_large_right) {a__law_in_range : Addr} {fd__law_in_range : FuncData} (D__law_in_range : Df K mg "_law_in_range" s__law_in_range a__law_in_range fd__law_in_range P__law_in_range) (G__law_in_range : FnOk P w K mg base (L2.CX P w) 4 a__law_in_range fd__law_in_range P__law_in_range (spF K f__law_in_range)) {a__law_sorted : Addr} {fd__law_sorted : FuncData} (D__law_sorted : Df K mg "_law_sorted" s__law_sorted a__law_sorted fd__law_sorted P__law_sorted) (G__law_sorted : FnOk P w K mg base (L2.CX P w) 3 a__law_sorted fd__law_sorted P__law_sorted (spF K f__law_sorted)) {a__law_same : Addr} {fd__law_same : FuncData} (D__law_same : Df K mg "_law_same" s__law_same a__law_same fd__law_same P__law_same) (G__law_same : FnOk P w K mg base (L2.CX P w) 8 a__law_same fd__law_same P__law_same (spF K (f__law_same 8))) {a__law_ask : Addr} {fd__law_ask : FuncData} (D__law_ask : Df K mg "_law_ask" s__law_ask a__law_ask fd__law_ask P__law_ask) (G__law_ask : FnOk P w K mg base (L2.CX P w) 5 a__law_ask fd__law_ask P__law_ask (spF K f__law_ask)) {a__law_take : Addr} {fd__law_take : FuncData} (D__law_take : Df K mg "_law_take" s__law_take a__law_take fd__law_take P__law_take) (G__law_take : FnOk P w K mg base (L2.CX P w) 2 a__law_take fd__law_take P__law_take (spF K f__law_take)) {a__law_pick : Addr} {fd__law_pick : FuncData} (D__law_pick : Df K mg "_law_pick" s__law_pick a__law_pick fd__law_pick P__law_pick) (G__law_pick : FnOk P w K mg base (L2.CX P w) 3 a__law_pick fd__law_pick P__law_pick (spF K f__law_pick)) {a__law_all_right : Addr} {fd__law_all_right : FuncData} (D__law_all_right : Df K mg "_law_all_right" s__law_all_right a__law_all_right fd__law_all_right P__law_all_right) (G__law_all_right : FnOk P w K mg base (L2.CX P w) 10 a__law_all_right fd__law_all_right P__law_all_right (spF K f__law_all_right))  :
    FnOk P w K mg base (L2.CX P w) 11 a__law_large_right fd__law_large_right P__law_large_right (spF K f__law_large_right) :=
  fn_ok D__law_large_right.F sc__law_large_right fun cdv A outer s H E hr => by
    have tk : Takes (cxOf (L2.CX P w) P w K mg base N__law_large_right "_law_large_right" (defScope s__law_large_right) a__law_large_right cdv A outer s H E) (WD E) := takes_of rfl rfl rfl rfl
    have pw := passes_of (X := cxOf (L2.CX P w) P w K mg base N__law_large_right "_law_large_right" (defScope s__law_large_right) a__law_large_right cdv A outer s H E) rfl
    exact (jb_cons (js_set (i := 4) sc__law_large_right.nd rfl (Or.inl rfl) (je_slice sl_any sp_sl (je_v 3) jo_none (jo_some je_int)))
    (jb_cons (js_set (i := 5) sc__law_large_right.nd rfl (Or.inl rfl) (je_call G__law_in_range (hr.mono (by decide)) (by rfl) D__law_in_range.g D__law_in_range.k D__law_in_range.b tk (ja_cons (je_v 0) (ja_cons (je_op op_addD sp_add (je_op op_fdivN sp_fdiv je_int (je_callB call_len cs_len (by rfl) T.z_len (by decide +kernel) (ja_cons (je_v 4) ja_nil))) je_int) (ja_cons (je_op op_fdivN sp_fdiv je_int (je_callB call_len cs_len (by rfl) T.z_len (by decide +kernel) (ja_cons (je_v 4) ja_nil))) ja_nil)))))
    (jb_cons (js_set (i := 6) sc__law_large_right.nd rfl (Or.inl rfl) (je_lst ja_nil))
    (jb_cons (js_for (vs := [7]) pw rfl (ji_any (je_call G__law_sorted (hr.mono (by decide)) (by rfl) D__law_sorted.g D__law_sorted.k D__law_sorted.b tk (ja_cons (je_v 1) (ja_cons (je_v 2) (ja_cons (je_v 4) ja_nil))))) (pg_name (i := 7) sc__law_large_right.nd rfl (Or.inl rfl)) (gt_name (by decide)) (jb_one (js_set (i := 6) sc__law_large_right.nd rfl (Or.inl rfl) (je_op op_addD sp_add (je_v 6) (je_op op_mulD sp_mul (je_lst (ja_cons (je_v 7) ja_nil)) (je_v 5))))))
    (jb_cons (js_set (i := 8) sc__law_large_right.nd rfl (Or.inl rfl) (je_op op_mulD sp_mul (je_v 4) (je_v 5)))
    (jb_cons (js_if (JW.jt (jw_or (jt_not (jt_val (je_call G__law_same (hr.mono (by decide)) (by rfl) D__law_same.g D__law_same.k D__law_same.b tk (ja_cons (je_frzT (je_call G__law_ask (hr.mono (by decide)) (by rfl) D__law_ask.g D__law_ask.k D__law_ask.b tk (ja_cons je_int (ja_cons (je_v 1) (ja_cons (je_callT call_listA cs_list (by rfl) T.z_list (by decide +kernel) (ja_cons (je_v 2) ja_nil)) (ja_cons (je_v 8) ja_nil)))))) (ja_cons (je_tup (ja_cons je_str (ja_cons (je_v 6) ja_nil))) ja_nil))))) (jw_or1 (jt_cmp (op_neA hr.units) sp_ne (je_v 8) (je_op op_mulD sp_mul (je_v 4) (je_v 5)) (nomark _))))) (jb_one (js_ret je_bl)) jb_nil)
    (jb_cons (js_set (i := 9) sc__law_large_right.nd rfl (Or.inl rfl) (je_call G__law_in_range (hr.mono (by decide)) (by rfl) D__law_in_range.g D__law_in_range.k D__law_in_range.b tk (ja_cons (je_v 0) (ja_cons je_int (ja_cons je_int ja_nil)))))
    (jb_cons (js_set (i := 10) sc__law_large_right.nd rfl (Or.inl rfl) (je_op op_mulD sp_mul (je_slice sl_any sp_sl (je_v 1) jo_none (jo_some je_int)) (je_v 9)))
    (jb_cons (js_set (i := 11) sc__law_large_right.nd rfl (Or.inl rfl) (je_call G__law_take (hr.mono (by decide)) (by rfl) D__law_take.g D__law_take.k D__law_take.b tk (ja_cons (je_v 0) (ja_cons (je_op op_addD sp_add (je_v 9) je_int) ja_nil))))
    (jb_cons (js_set (i := 12) sc__law_large_right.nd rfl (Or.inl rfl) (je_op op_addD sp_add (je_op op_addD sp_add (je_slice sl_any sp_sl (je_v 10) jo_none (jo_some (je_v 11))) (je_call G__law_pick (hr.mono (by decide)) (by rfl) D__law_pick.g D__law_pick.k D__law_pick.b tk (ja_cons (je_v 0) (ja_cons je_str ja_nil)))) (je_slice sl_any sp_sl (je_v 10) (jo_some (je_v 11)) jo_none)))
    (jb_cons (js_for (vs := [13]) pw rfl (ji_any (je_lst (ja_cons (je_lst (ja_cons (je_v 10) (ja_cons (je_ix ix_seq sp_ix (je_v 3) je_int (fun _ _ => rfl)) ja_nil))) (ja_cons (je_lst (ja_cons (je_ix ix_seq sp_ix (je_v 3) je_int (fun _ _ => rfl)) (ja_cons (je_v 12) ja_nil))) (ja_cons (je_lst (ja_cons (je_v 12) (ja_cons (je_v 10) ja_nil))) ja_nil))))) (pg_name (i := 13) sc__law_large_right.nd rfl (Or.inl rfl)) (gt_name (by decide)) (jb_one (js_if (jt_not (jt_val (je_call G__law_all_right (hr.mono (by decide)) (by rfl) D__law_all_right.g D__law_all_right.k D__law_all_right.b tk (ja_cons (je_v 1) (ja_cons (je_v 2) (ja_cons (je_v 13) ja_nil)))))) (jb_one (js_ret je_bl)) jb_nil)))
    (jb_one (js_ret (je_call G__law_all_right (hr.mono (by decide)) (by rfl) D__law_all_right.g D__law_all_right.k D__law_all_right.b tk (ja_cons (je_op op_mulD sp_mul (je_v 1) je_int) (ja_cons (je_v 2) (ja_cons (je_lst (ja_cons (je_ix ix_seq sp_ix (je_v 3) je_int (fun _ _ => rfl)) (ja_cons (je_v 12) ja_nil))) ja_nil)))))))))))))))))
theorem ok_law (T : Bt K mg) {a_law : Addr} {fd_law : FuncData} (D_law : Df K mg "law" s_law a_law fd_law P_law) {a__law_draws : Addr} {fd__law_draws : FuncData} (D__law_draws : Df K mg "_law_draws" s__law_draws a__law_draws fd__law_draws P__law_draws) (G__law_draws : FnOk P w K mg base (L2.CX P w) 1 a__law_draws fd__law_draws P__law_draws (spF K f__law_draws)) {a__law_letters : Addr} {fd__law_letters : FuncData} (D__law_letters : Df K mg "_law_letters" s__law_letters a__law_letters fd__law_letters P__law_letters) (G__law_letters : FnOk P w K mg base (L2.CX P w) 4 a__law_letters fd__law_letters P__law_letters (spF K f__law_letters)) {a__law_heavy : Addr} {fd__law_heavy : FuncData} (D__law_heavy : Df K mg "_law_heavy" s__law_heavy a__law_heavy fd__law_heavy P__law_heavy) (G__law_heavy : FnOk P w K mg base (L2.CX P w) 5 a__law_heavy fd__law_heavy P__law_heavy (spF K f__law_heavy)) {a__law_words : Addr} {fd__law_words : FuncData} (D__law_words : Df K mg "_law_words" s__law_words a__law_words fd__law_words P__law_words) (G__law_words : FnOk P w K mg base (L2.CX P w) 7 a__law_words fd__law_words P__law_words (spF K f__law_words)) {a__law_all_right : Addr} {fd__law_all_right : FuncData} (D__law_all_right : Df K mg "_law_all_right" s__law_all_right a__law_all_right fd__law_all_right P__law_all_right) (G__law_all_right : FnOk P w K mg base (L2.CX P w) 10 a__law_all_right fd__law_all_right P__law_all_right (spF K f__law_all_right)) {a__law_same : Addr} {fd__law_same : FuncData} (D__law_same : Df K mg "_law_same" s__law_same a__law_same fd__law_same P__law_same) (G__law_same : FnOk P w K mg base (L2.CX P w) 8 a__law_same fd__law_same P__law_same (spF K (f__law_same 8))) {a__law_ask : Addr} {fd__law_ask : FuncData} (D__law_ask : Df K mg "_law_ask" s__law_ask a__law_ask fd__law_ask P__law_ask) (G__law_ask : FnOk P w K mg base (L2.CX P w) 5 a__law_ask fd__law_ask P__law_ask (spF K f__law_ask)) {a__law_take : Addr} {fd__law_take : FuncData} (D__law_take : Df K mg "_law_take" s__law_take a__law_take fd__law_take P__law_take) (G__law_take : FnOk P w K mg base (L2.CX P w) 2 a__law_take fd__law_take P__law_take (spF K f__law_take)) {a__law_bad_letters : Addr} {fd__law_bad_letters : FuncData} (D__law_bad_letters : Df K mg "_law_bad_letters" s__law_bad_letters a__law_bad_letters fd__law_bad_letters P__law_bad_letters) (G__law_bad_letters : FnOk P w K mg base (L2.CX P w) 5 a__law_bad_letters fd__law_bad_letters P__law_bad_letters (spF K f__law_bad_letters)) {a__law_bad_heavy : Addr} {fd__law_bad_heavy : FuncData} (D__law_bad_heavy : Df K mg "_law_bad_heavy" s__law_bad_heavy a__law_bad_heavy fd__law_bad_heavy P__law_bad_heavy) (G__law_bad_heavy : FnOk P w K mg base (L2.CX P w) 6 a__law_bad_heavy fd__law_bad_heavy P__law_bad_heavy (spF K f__law_bad_heavy)) {a__law_pick : Addr} {fd__law_pick : FuncData} (D__law_pick : Df K mg "_law_pick" s__law_pick a__law_pick fd__law_pick P__law_pick) (G__law_pick : FnOk P w K mg base (L2.CX P w) 3 a__law_pick fd__law_pick P__law_pick (spF K f__law_pick)) {a__law_bad_word : Addr} {fd__law_bad_word : FuncData} (D__law_bad_word : Df K mg "_law_bad_word" s__law_bad_word a__law_bad_word fd__law_bad_word P__law_bad_word) (G__law_bad_word : FnOk P w K mg base (L2.CX P w) 5 a__law_bad_word fd__law_bad_word P__law_bad_word (spF K f__law_bad_word)) {a__law_rare : Addr} {fd__law_rare : FuncData} (D__law_rare : Df K mg "_law_rare" s__law_rare a__law_rare fd__law_rare P__law_rare) (G__law_rare : FnOk P w K mg base (L2.CX P w) 3 a__law_rare fd__law_rare P__law_rare (spF K f__law_rare)) {a__law_large_right : Addr} {fd__law_large_right : FuncData} (D__law_large_right : Df K mg "_law_large_right" s__law_large_right a__law_large_right fd__law_large_right P__law_large_right) (G__law_large_right : FnOk P w K mg base (L2.CX P w) 11 a__law_large_right fd__law_large_right P__law_large_right (spF K f__law_large_right))  :
    FnOk P w K mg base (L2.CX P w) 12 a_law fd_law P_law (spF K f_law) :=
  fn_ok D_law.F sc_law fun cdv A outer s H E hr => by
    have tk : Takes (cxOf (L2.CX P w) P w K mg base N_law "law" (defScope s_law) a_law cdv A outer s H E) (WD E) := takes_of rfl rfl rfl rfl
    have pw := passes_of (X := cxOf (L2.CX P w) P w K mg base N_law "law" (defScope s_law) a_law cdv A outer s H E) rfl
    exact (jb_cons (js_set (i := 1) sc_law.nd rfl (Or.inl rfl) (je_call G__law_draws (hr.mono (by decide)) (by rfl) D__law_draws.g D__law_draws.k D__law_draws.b tk (ja_cons (je_v 0) ja_nil)))
    (jb_cons (js_set (i := 2) sc_law.nd rfl (Or.inl rfl) (je_call G__law_letters (hr.mono (by decide)) (by rfl) D__law_letters.g D__law_letters.k D__law_letters.b tk (ja_cons (je_v 1) (ja_cons je_int (ja_cons je_int ja_nil)))))
    (jb_cons (js_set (i := 3) sc_law.nd rfl (Or.inl rfl) (je_frz (je_call G__law_heavy (hr.mono (by decide)) (by rfl) D__law_heavy.g D__law_heavy.k D__law_heavy.b tk (ja_cons (je_v 1) (ja_cons (je_callB call_len cs_len (by rfl) T.z_len (by decide +kernel) (ja_cons (je_v 2) ja_nil)) ja_nil)))))
    (jb_cons (js_set (i := 4) sc_law.nd rfl (Or.inl rfl) (je_frz (je_call G__law_words (hr.mono (by decide)) (by rfl) D__law_words.g D__law_words.k D__law_words.b tk (ja_cons (je_v 1) (ja_cons (je_v 2) ja_nil)))))
    (jb_cons (js_if (jt_not (jt_val (je_call G__law_all_right (hr.mono (by decide)) (by rfl) D__law_all_right.g D__law_all_right.k D__law_all_right.b tk (ja_cons (je_v 2) (ja_cons (je_v 3) (ja_cons (je_v 4) ja_nil)))))) (jb_one (js_ret je_bl)) jb_nil)
    (jb_cons (js_for (vs := [5]) pw rfl (ji_any (je_lst (ja_cons (je_lst (ja_cons (je_ix ix_seq sp_ix (je_v 4) je_int (fun _ _ => rfl)) (ja_cons (je_ix ix_seq sp_ix (je_v 4) je_int (fun _ _ => rfl)) ja_nil))) (ja_cons (je_lst (ja_cons (je_ix ix_seq sp_ix (je_v 4) je_int (fun _ _ => rfl)) (ja_cons (je_ix ix_seq sp_ix (je_v 4) je_int (fun _ _ => rfl)) ja_nil))) (ja_cons (je_lst (ja_cons (je_ix ix_seq sp_ix (je_v 4) (je_un un_neg sp_neg je_int) (fun _ _ => rfl)) (ja_cons (je_ix ix_seq sp_ix (je_v 4) je_int (fun _ _ => rfl)) ja_nil))) ja_nil))))) (pg_name (i := 5) sc_law.nd rfl (Or.inl rfl)) (gt_name (by decide)) (jb_one (js_if (jt_not (jt_val (je_call G__law_all_right (hr.mono (by decide)) (by rfl) D__law_all_right.g D__law_all_right.k D__law_all_right.b tk (ja_cons (je_v 2) (ja_cons (je_v 3) (ja_cons (je_v 5) ja_nil)))))) (jb_one (js_ret je_bl)) jb_nil)))
    (jb_cons (js_if (jt_not (jt_val (je_call G__law_same (hr.mono (by decide)) (by rfl) D__law_same.g D__law_same.k D__law_same.b tk (ja_cons (je_frzT (je_call G__law_ask (hr.mono (by decide)) (by rfl) D__law_ask.g D__law_ask.k D__law_ask.b tk (ja_cons je_int (ja_cons (je_v 2) (ja_cons (je_callT call_listA cs_list (by rfl) T.z_list (by decide +kernel) (ja_cons (je_v 3) ja_nil)) (ja_cons (je_lst ja_nil) ja_nil)))))) (ja_cons (je_tup (ja_cons je_str (ja_cons (je_lst ja_nil) ja_nil))) ja_nil))))) (jb_one (js_ret je_bl)) jb_nil)
    (jb_cons (js_if (jt_not (jt_val (je_call G__law_all_right (hr.mono (by decide)) (by rfl) D__law_all_right.g D__law_all_right.k D__law_all_right.b tk (ja_cons (je_rev (je_v 2)) (ja_cons (je_rev (je_v 3)) (ja_cons (je_v 4) ja_nil)))))) (jb_one (js_ret je_bl)) jb_nil)
    (jb_cons (js_set (i := 6) sc_law.nd rfl (Or.inl rfl) (je_v 2))
    (jb_cons (js_set (i := 7) sc_law.nd rfl (Or.inl rfl) (je_v 3))
    (jb_cons (js_set (i := 8) sc_law.nd rfl (Or.inl rfl) (je_callT call_listA cs_listL (by rfl) T.z_list (by decide +kernel) (ja_cons (je_v 4) ja_nil)))
    (jb_cons (js_if (jt_cmp (op_eqA hr.units) sp_eq (je_call G__law_take (hr.mono (by decide)) (by rfl) D__law_take.g D__law_take.k D__law_take.b tk (ja_cons (je_v 1) (ja_cons je_int ja_nil))) je_int (nomark _)) (jb_one (js_set (i := 6) sc_law.nd rfl (Or.inl rfl) (je_call G__law_bad_letters (hr.mono (by decide)) (by rfl) D__law_bad_letters.g D__law_bad_letters.k D__law_bad_letters.b tk (ja_cons (je_v 1) ja_nil)))) jb_nil)
    (jb_cons (js_if (jt_cmp (op_eqA hr.units) sp_eq (je_call G__law_take (hr.mono (by decide)) (by rfl) D__law_take.g D__law_take.k D__law_take.b tk (ja_cons (je_v 1) (ja_cons je_int ja_nil))) je_int (nomark _)) (jb_one (js_set (i := 7) sc_law.nd rfl (Or.inl rfl) (je_frz (je_call G__law_bad_heavy (hr.mono (by decide)) (by rfl) D__law_bad_heavy.g D__law_bad_heavy.k D__law_bad_heavy.b tk (ja_cons (je_v 1) (ja_cons (je_callB call_len cs_len (by rfl) T.z_len (by decide +kernel) (ja_cons (je_v 2) ja_nil)) ja_nil)))))) jb_nil)
    (jb_cons (js_for (vs := [9]) pw rfl (piI (pi_range1 (by rfl) T.z_range (ja_cons (je_op op_addD sp_add je_int (je_call G__law_take (hr.mono (by decide)) (by rfl) D__law_take.g D__law_take.k D__law_take.b tk (ja_cons (je_v 1) (ja_cons je_int ja_nil)))) ja_nil)) t_rng1) (pg_name (i := 9) sc_law.nd rfl (Or.inl rfl)) (gt_name (by decide)) (jb_cons (js_set (i := 10) sc_law.nd rfl (Or.inl rfl) (je_call G__law_pick (hr.mono (by decide)) (by rfl) D__law_pick.g D__law_pick.k D__law_pick.b tk (ja_cons (je_v 1) (ja_cons (je_lst (ja_cons je_int (ja_cons je_int (ja_cons (je_call G__law_take (hr.mono (by decide)) (by rfl) D__law_take.g D__law_take.k D__law_take.b tk (ja_cons (je_v 1) (ja_cons (je_callB call_len cs_len (by rfl) T.z_len (by decide +kernel) (ja_cons (je_v 4) ja_nil)) ja_nil))) ja_nil)))) ja_nil))))
    (jb_one (js_sub set_list sp_set (je_ix ix_seq sp_ix (je_call G__law_bad_word (hr.mono (by decide)) (by rfl) D__law_bad_word.g D__law_bad_word.k D__law_bad_word.b tk (ja_cons (je_v 1) (ja_cons (je_v 2) ja_nil))) je_int (fun _ _ => rfl)) (je_v 8) (je_v 10)))))
    (jb_frzV 8 (jb_cons (js_for (vs := [11]) pw rfl (ji_any (je_lst (ja_cons (je_tup (ja_cons (je_v 6) (ja_cons (je_v 3) (ja_cons (je_v 4) ja_nil)))) (ja_cons (je_tup (ja_cons (je_v 2) (ja_cons (je_v 7) (ja_cons (je_v 4) ja_nil)))) (ja_cons (je_tup (ja_cons (je_v 2) (ja_cons (je_v 3) (ja_cons (je_v 8) ja_nil)))) ja_nil))))) (pg_name (i := 11) sc_law.nd rfl (Or.inl rfl)) (gt_name (by decide)) (jb_one (js_if (jt_not (jt_val (je_call G__law_all_right (hr.mono (by decide)) (by rfl) D__law_all_right.g D__law_all_right.k D__law_all_right.b tk (ja_cons (je_ix ix_seq sp_ix (je_v 11) je_int (fun _ _ => rfl)) (ja_cons (je_ix ix_seq sp_ix (je_v 11) je_int (fun _ _ => rfl)) (ja_cons (je_ix ix_seq sp_ix (je_v 11) je_int (fun _ _ => rfl)) ja_nil)))))) (jb_one (js_ret je_bl)) jb_nil)))
    (jb_cons (js_if (jt_not (jt_val (je_call G__law_all_right (hr.mono (by decide)) (by rfl) D__law_all_right.g D__law_all_right.k D__law_all_right.b tk (ja_cons (je_v 6) (ja_cons (je_v 7) (ja_cons (je_v 8) ja_nil)))))) (jb_one (js_ret je_bl)) jb_nil)
    (jb_cons (js_if (JW.jt (jw_and (jt_val (je_call G__law_rare (hr.mono (by decide)) (by rfl) D__law_rare.g D__law_rare.k D__law_rare.b tk (ja_cons (je_v 1) (ja_cons je_int ja_nil)))) (jw_and1 (jt_not (jt_val (je_call G__law_large_right (hr.mono (by decide)) (by rfl) D__law_large_right.g D__law_large_right.k D__law_large_right.b tk (ja_cons (je_v 1) (ja_cons (je_v 2) (ja_cons (je_v 3) (ja_cons (je_v 4) ja_nil)))))))))) (jb_one (js_ret je_bl)) jb_nil)
    (jb_one (js_ret (je_call G__law_all_right (hr.mono (by decide)) (by rfl) D__law_all_right.g D__law_all_right.k D__law_all_right.b tk (ja_cons (je_v 2) (ja_cons (je_v 3) (ja_cons (je_v 4) ja_nil))))))))))))))))))))))))
end
/-! what the top has left -/
theorem all_mk {l : PySem.W.OpenLaw} {w : World} {K : PySem.W.Frag} {h : Heap} {mg : Str → Option Value} {fa : Addr} (X : K.In h) (G : h.Ns mainGlobals mg) (hfa : mg "law" = some (.ref fa))
    {od_is_alphabet an_is_alphabet : Option Addr} {sl_is_alphabet : Array (Option Value)} {oc_is_alphabet kV_is_alphabet dc_is_alphabet pm_is_alphabet cd_is_alphabet ct_is_alphabet : Value} {a_is_alphabet : Addr}
    (a0 : PySem.W.nsIn K mainGlobals "is_alphabet" = some (some (.ref a_is_alphabet))) (l0 : K.lookup a_is_alphabet = some ⟨oc_is_alphabet, od_is_alphabet, .func (PySem.W.fnOf "is_alphabet" "is_alphabet" (defArgs s_is_alphabet) (defBody s_is_alphabet) (defScope s_is_alphabet) .none kV_is_alphabet dc_is_alphabet pm_is_alphabet an_is_alphabet cd_is_alphabet ct_is_alphabet), sl_is_alphabet⟩) (c0 : PySem.W.codeIn K cd_is_alphabet "is_alphabet" = true) (k0 : PySem.W.keepIn K (.ref a_is_alphabet) = true)
    {od_check_letters an_check_letters : Option Addr} {sl_check_letters : Array (Option Value)} {oc_check_letters kV_check_letters dc_check_letters pm_check_letters cd_check_letters ct_check_letters : Value} {a_check_letters : Addr}
    (a1 : PySem.W.nsIn K mainGlobals "check_letters" = some (some (.ref a_check_letters))) (l1 : K.lookup a_check_letters = some ⟨oc_check_letters, od_check_letters, .func (PySem.W.fnOf "check_letters" "check_letters" (defArgs s_check_letters) (defBody s_check_letters) (defScope s_check_letters) .none kV_check_letters dc_check_letters pm_check_letters an_check_letters cd_check_letters ct_check_letters), sl_check_letters⟩) (c1 : PySem.W.codeIn K cd_check_letters "check_letters" = true) (k1 : PySem.W.keepIn K (.ref a_check_letters) = true)
    {od_are_weights an_are_weights : Option Addr} {sl_are_weights : Array (Option Value)} {oc_are_weights kV_are_weights dc_are_weights pm_are_weights cd_are_weights ct_are_weights : Value} {a_are_weights : Addr}
    (a2 : PySem.W.nsIn K mainGlobals "are_weights" = some (some (.ref a_are_weights))) (l2 : K.lookup a_are_weights = some ⟨oc_are_weights, od_are_weights, .func (PySem.W.fnOf "are_weights" "are_weights" (defArgs s_are_weights) (defBody s_are_weights) (defScope s_are_weights) .none kV_are_weights dc_are_weights pm_are_weights an_are_weights cd_are_weights ct_are_weights), sl_are_weights⟩) (c2 : PySem.W.codeIn K cd_are_weights "are_weights" = true) (k2 : PySem.W.keepIn K (.ref a_are_weights) = true)
    {od_check_weights an_check_weights : Option Addr} {sl_check_weights : Array (Option Value)} {oc_check_weights kV_check_weights dc_check_weights pm_check_weights cd_check_weights ct_check_weights : Value} {a_check_weights : Addr}
    (a3 : PySem.W.nsIn K mainGlobals "check_weights" = some (some (.ref a_check_weights))) (l3 : K.lookup a_check_weights = some ⟨oc_check_weights, od_check_weights, .func (PySem.W.fnOf "check_weights" "check_weights" (defArgs s_check_weights) (defBody s_check_weights) (defScope s_check_weights) .none kV_check_weights dc_check_weights pm_check_weights an_check_weights cd_check_weights ct_check_weights), sl_check_weights⟩) (c3 : PySem.W.codeIn K cd_check_weights "check_weights" = true) (k3 : PySem.W.keepIn K (.ref a_check_weights) = true)
    {od_has_letters_only an_has_letters_only : Option Addr} {sl_has_letters_only : Array (Option Value)} {oc_has_letters_only kV_has_letters_only dc_has_letters_only pm_has_letters_only cd_has_letters_only ct_has_letters_only : Value} {a_has_letters_only : Addr}
    (a4 : PySem.W.nsIn K mainGlobals "has_letters_only" = some (some (.ref a_has_letters_only))) (l4 : K.lookup a_has_letters_only = some ⟨oc_has_letters_only, od_has_letters_only, .func (PySem.W.fnOf "has_letters_only" "has_letters_only" (defArgs s_has_letters_only) (defBody s_has_letters_only) (defScope s_has_letters_only) .none kV_has_letters_only dc_has_letters_only pm_has_letters_only an_has_letters_only cd_has_letters_only ct_has_letters_only), sl_has_letters_only⟩) (c4 : PySem.W.codeIn K cd_has_letters_only "has_letters_only" = true) (k4 : PySem.W.keepIn K (.ref a_has_letters_only) = true)
    {od_check_word an_check_word : Option Addr} {sl_check_word : Array (Option Value)} {oc_check_word kV_check_word dc_check_word pm_check_word cd_check_word ct_check_word : Value} {a_check_word : Addr}
    (a5 : PySem.W.nsIn K mainGlobals "check_word" = some (some (.ref a_check_word))) (l5 : K.lookup a_check_word = some ⟨oc_check_word, od_check_word, .func (PySem.W.fnOf "check_word" "check_word" (defArgs s_check_word) (defBody s_check_word) (defScope s_check_word) .none kV_check_word dc_check_word pm_check_word an_check_word cd_check_word ct_check_word), sl_check_word⟩) (c5 : PySem.W.codeIn K cd_check_word "check_word" = true) (k5 : PySem.W.keepIn K (.ref a_check_word) = true)
    {od_order_key an_order_key : Option Addr} {sl_order_key : Array (Option Value)} {oc_order_key kV_order_key dc_order_key pm_order_key cd_order_key ct_order_key : Value} {a_order_key : Addr}
    (a6 : PySem.W.nsIn K mainGlobals "order_key" = some (some (.ref a_order_key))) (l6 : K.lookup a_order_key = some ⟨oc_order_key, od_order_key, .func (PySem.W.fnOf "order_key" "order_key" (defArgs s_order_key) (defBody s_order_key) (defScope s_order_key) .none kV_order_key dc_order_key pm_order_key an_order_key cd_order_key ct_order_key), sl_order_key⟩) (c6 : PySem.W.codeIn K cd_order_key "order_key" = true) (k6 : PySem.W.keepIn K (.ref a_order_key) = true)
    {od_word_weight an_word_weight : Option Addr} {sl_word_weight : Array (Option Value)} {oc_word_weight kV_word_weight dc_word_weight pm_word_weight cd_word_weight ct_word_weight : Value} {a_word_weight : Addr}
    (a7 : PySem.W.nsIn K mainGlobals "word_weight" = some (some (.ref a_word_weight))) (l7 : K.lookup a_word_weight = some ⟨oc_word_weight, od_word_weight, .func (PySem.W.fnOf "word_weight" "word_weight" (defArgs s_word_weight) (defBody s_word_weight) (defScope s_word_weight) .none kV_word_weight dc_word_weight pm_word_weight an_word_weight cd_word_weight ct_word_weight), sl_word_weight⟩) (c7 : PySem.W.codeIn K cd_word_weight "word_weight" = true) (k7 : PySem.W.keepIn K (.ref a_word_weight) = true)
    {od_compare_words an_compare_words : Option Addr} {sl_compare_words : Array (Option Value)} {oc_compare_words kV_compare_words dc_compare_words pm_compare_words cd_compare_words ct_compare_words : Value} {a_compare_words : Addr}
    (a8 : PySem.W.nsIn K mainGlobals "compare_words" = some (some (.ref a_compare_words))) (l8 : K.lookup a_compare_words = some ⟨oc_compare_words, od_compare_words, .func (PySem.W.fnOf "compare_words" "compare_words" (defArgs s_compare_words) (defBody s_compare_words) (defScope s_compare_words) .none kV_compare_words dc_compare_words pm_compare_words an_compare_words cd_compare_words ct_compare_words), sl_compare_words⟩) (c8 : PySem.W.codeIn K cd_compare_words "compare_words" = true) (k8 : PySem.W.keepIn K (.ref a_compare_words) = true)
    {od_sort_words an_sort_words : Option Addr} {sl_sort_words : Array (Option Value)} {oc_sort_words kV_sort_words dc_sort_words pm_sort_words cd_sort_words ct_sort_words : Value} {a_sort_words : Addr}
    (a9 : PySem.W.nsIn K mainGlobals "sort_words" = some (some (.ref a_sort_words))) (l9 : K.lookup a_sort_words = some ⟨oc_sort_words, od_sort_words, .func (PySem.W.fnOf "sort_words" "sort_words" (defArgs s_sort_words) (defBody s_sort_words) (defScope s_sort_words) .none kV_sort_words dc_sort_words pm_sort_words an_sort_words cd_sort_words ct_sort_words), sl_sort_words⟩) (c9 : PySem.W.codeIn K cd_sort_words "sort_words" = true) (k9 : PySem.W.keepIn K (.ref a_sort_words) = true)
    {od__law_draws an__law_draws : Option Addr} {sl__law_draws : Array (Option Value)} {oc__law_draws kV__law_draws dc__law_draws pm__law_draws cd__law_draws ct__law_draws : Value} {a__law_draws : Addr}
    (a10 : PySem.W.nsIn K mainGlobals "_law_draws" = some (some (.ref a__law_draws))) (l10 : K.lookup a__law_draws = some ⟨oc__law_draws, od__law_draws, .func (PySem.W.fnOf "_law_draws" "_law_draws" (defArgs s__law_draws) (defBody s__law_draws) (defScope s__law_draws) .none kV__law_draws dc__law_draws pm__law_draws an__law_draws cd__law_draws ct__law_draws), sl__law_draws⟩) (c10 : PySem.W.codeIn K cd__law_draws "_law_draws" = true) (k10 : PySem.W.keepIn K (.ref a__law_draws) = true)
    {od__law_mixed an__law_mixed : Option Addr} {sl__law_mixed : Array (Option Value)} {oc__law_mixed kV__law_mixed dc__law_mixed pm__law_mixed cd__law_mixed ct__law_mixed : Value} {a__law_mixed : Addr}
    (a11 : PySem.W.nsIn K mainGlobals "_law_mixed" = some (some (.ref a__law_mixed))) (l11 : K.lookup a__law_mixed = some ⟨oc__law_mixed, od__law_mixed, .func (PySem.W.fnOf "_law_mixed" "_law_mixed" (defArgs s__law_mixed) (defBody s__law_mixed) (defScope s__law_mixed) .none kV__law_mixed dc__law_mixed pm__law_mixed an__law_mixed cd__law_mixed ct__law_mixed), sl__law_mixed⟩) (c11 : PySem.W.codeIn K cd__law_mixed "_law_mixed" = true) (k11 : PySem.W.keepIn K (.ref a__law_mixed) = true)
    {od__law_take an__law_take : Option Addr} {sl__law_take : Array (Option Value)} {oc__law_take kV__law_take dc__law_take pm__law_take cd__law_take ct__law_take : Value} {a__law_take : Addr}
    (a12 : PySem.W.nsIn K mainGlobals "_law_take" = some (some (.ref a__law_take))) (l12 : K.lookup a__law_take = some ⟨oc__law_take, od__law_take, .func (PySem.W.fnOf "_law_take" "_law_take" (defArgs s__law_take) (defBody s__law_take) (defScope s__law_take) .none kV__law_take dc__law_take pm__law_take an__law_take cd__law_take ct__law_take), sl__law_take⟩) (c12 : PySem.W.codeIn K cd__law_take "_law_take" = true) (k12 : PySem.W.keepIn K (.ref a__law_take) = true)
    {od__law_span an__law_span : Option Addr} {sl__law_span : Array (Option Value)} {oc__law_span kV__law_span dc__law_span pm__law_span cd__law_span ct__law_span : Value} {a__law_span : Addr}
    (a13 : PySem.W.nsIn K mainGlobals "_law_span" = some (some (.ref a__law_span))) (l13 : K.lookup a__law_span = some ⟨oc__law_span, od__law_span, .func (PySem.W.fnOf "_law_span" "_law_span" (defArgs s__law_span) (defBody s__law_span) (defScope s__law_span) .none kV__law_span dc__law_span pm__law_span an__law_span cd__law_span ct__law_span), sl__law_span⟩) (c13 : PySem.W.codeIn K cd__law_span "_law_span" = true) (k13 : PySem.W.keepIn K (.ref a__law_span) = true)
    {od__law_rare an__law_rare : Option Addr} {sl__law_rare : Array (Option Value)} {oc__law_rare kV__law_rare dc__law_rare pm__law_rare cd__law_rare ct__law_rare : Value} {a__law_rare : Addr}
    (a14 : PySem.W.nsIn K mainGlobals "_law_rare" = some (some (.ref a__law_rare))) (l14 : K.lookup a__law_rare = some ⟨oc__law_rare, od__law_rare, .func (PySem.W.fnOf "_law_rare" "_law_rare" (defArgs s__law_rare) (defBody s__law_rare) (defScope s__law_rare) .none kV__law_rare dc__law_rare pm__law_rare an__law_rare cd__law_rare ct__law_rare), sl__law_rare⟩) (c14 : PySem.W.codeIn K cd__law_rare "_law_rare" = true) (k14 : PySem.W.keepIn K (.ref a__law_rare) = true)
    {od__law_pick an__law_pick : Option Addr} {sl__law_pick : Array (Option Value)} {oc__law_pick kV__law_pick dc__law_pick pm__law_pick cd__law_pick ct__law_pick : Value} {a__law_pick : Addr}
    (a15 : PySem.W.nsIn K mainGlobals "_law_pick" = some (some (.ref a__law_pick))) (l15 : K.lookup a__law_pick = some ⟨oc__law_pick, od__law_pick, .func (PySem.W.fnOf "_law_pick" "_law_pick" (defArgs s__law_pick) (defBody s__law_pick) (defScope s__law_pick) .none kV__law_pick dc__law_pick pm__law_pick an__law_pick cd__law_pick ct__law_pick), sl__law_pick⟩) (c15 : PySem.W.codeIn K cd__law_pick "_law_pick" = true) (k15 : PySem.W.keepIn K (.ref a__law_pick) = true)
    {od__law_in_range an__law_in_range : Option Addr} {sl__law_in_range : Array (Option Value)} {oc__law_in_range kV__law_in_range dc__law_in_range pm__law_in_range cd__law_in_range ct__law_in_range : Value} {a__law_in_range : Addr}
    (a16 : PySem.W.nsIn K mainGlobals "_law_in_range" = some (some (.ref a__law_in_range))) (l16 : K.lookup a__law_in_range = some ⟨oc__law_in_range, od__law_in_range, .func (PySem.W.fnOf "_law_in_range" "_law_in_range" (defArgs s__law_in_range) (defBody s__law_in_range) (defScope s__law_in_range) .none kV__law_in_range dc__law_in_range pm__law_in_range an__law_in_range cd__law_in_range ct__law_in_range), sl__law_in_range⟩) (c16 : PySem.W.codeIn K cd__law_in_range "_law_in_range" = true) (k16 : PySem.W.keepIn K (.ref a__law_in_range) = true)
    {od__law_out_of_range an__law_out_of_range : Option Addr} {sl__law_out_of_range : Array (Option Value)} {oc__law_out_of_range kV__law_out_of_range dc__law_out_of_range pm__law_out_of_range cd__law_out_of_range ct__law_out_of_range : Value} {a__law_out_of_range : Addr}
    (a17 : PySem.W.nsIn K mainGlobals "_law_out_of_range" = some (some (.ref a__law_out_of_range))) (l17 : K.lookup a__law_out_of_range = some ⟨oc__law_out_of_range, od__law_out_of_range, .func (PySem.W.fnOf "_law_out_of_range" "_law_out_of_range" (defArgs s__law_out_of_range) (defBody s__law_out_of_range) (defScope s__law_out_of_range) .none kV__law_out_of_range dc__law_out_of_range pm__law_out_of_range an__law_out_of_range cd__law_out_of_range ct__law_out_of_range), sl__law_out_of_range⟩) (c17 : PySem.W.codeIn K cd__law_out_of_range "_law_out_of_range" = true) (k17 : PySem.W.keepIn K (.ref a__law_out_of_range) = true)
    {od__law_letters an__law_letters : Option Addr} {sl__law_letters : Array (Option Value)} {oc__law_letters kV__law_letters dc__law_letters pm__law_letters cd__law_letters ct__law_letters : Value} {a__law_letters : Addr}
    (a18 : PySem.W.nsIn K mainGlobals "_law_letters" = some (some (.ref a__law_letters))) (l18 : K.lookup a__law_letters = some ⟨oc__law_letters, od__law_letters, .func (PySem.W.fnOf "_law_letters" "_law_letters" (defArgs s__law_letters) (defBody s__law_letters) (defScope s__law_letters) .none kV__law_letters dc__law_letters pm__law_letters an__law_letters cd__law_letters ct__law_letters), sl__law_letters⟩) (c18 : PySem.W.codeIn K cd__law_letters "_law_letters" = true) (k18 : PySem.W.keepIn K (.ref a__law_letters) = true)
    {od__law_stranger an__law_stranger : Option Addr} {sl__law_stranger : Array (Option Value)} {oc__law_stranger kV__law_stranger dc__law_stranger pm__law_stranger cd__law_stranger ct__law_stranger : Value} {a__law_stranger : Addr}
    (a19 : PySem.W.nsIn K mainGlobals "_law_stranger" = some (some (.ref a__law_stranger))) (l19 : K.lookup a__law_stranger = some ⟨oc__law_stranger, od__law_stranger, .func (PySem.W.fnOf "_law_stranger" "_law_stranger" (defArgs s__law_stranger) (defBody s__law_stranger) (defScope s__law_stranger) .none kV__law_stranger dc__law_stranger pm__law_stranger an__law_stranger cd__law_stranger ct__law_stranger), sl__law_stranger⟩) (c19 : PySem.W.codeIn K cd__law_stranger "_law_stranger" = true) (k19 : PySem.W.keepIn K (.ref a__law_stranger) = true)
    {od__law_bad_letters an__law_bad_letters : Option Addr} {sl__law_bad_letters : Array (Option Value)} {oc__law_bad_letters kV__law_bad_letters dc__law_bad_letters pm__law_bad_letters cd__law_bad_letters ct__law_bad_letters : Value} {a__law_bad_letters : Addr}
    (a20 : PySem.W.nsIn K mainGlobals "_law_bad_letters" = some (some (.ref a__law_bad_letters))) (l20 : K.lookup a__law_bad_letters = some ⟨oc__law_bad_letters, od__law_bad_letters, .func (PySem.W.fnOf "_law_bad_letters" "_law_bad_letters" (defArgs s__law_bad_letters) (defBody s__law_bad_letters) (defScope s__law_bad_letters) .none kV__law_bad_letters dc__law_bad_letters pm__law_bad_letters an__law_bad_letters cd__law_bad_letters ct__law_bad_letters), sl__law_bad_letters⟩) (c20 : PySem.W.codeIn K cd__law_bad_letters "_law_bad_letters" = true) (k20 : PySem.W.keepIn K (.ref a__law_bad_letters) = true)
    {od__law_heavy an__law_heavy : Option Addr} {sl__law_heavy : Array (Option Value)} {oc__law_heavy kV__law_heavy dc__law_heavy pm__law_heavy cd__law_heavy ct__law_heavy : Value} {a__law_heavy : Addr}
    (a21 : PySem.W.nsIn K mainGlobals "_law_heavy" = some (some (.ref a__law_heavy))) (l21 : K.lookup a__law_heavy = some ⟨oc__law_heavy, od__law_heavy, .func (PySem.W.fnOf "_law_heavy" "_law_heavy" (defArgs s__law_heavy) (defBody s__law_heavy) (defScope s__law_heavy) .none kV__law_heavy dc__law_heavy pm__law_heavy an__law_heavy cd__law_heavy ct__law_heavy), sl__law_heavy⟩) (c21 : PySem.W.codeIn K cd__law_heavy "_law_heavy" = true) (k21 : PySem.W.keepIn K (.ref a__law_heavy) = true)
    {od__law_bad_heavy an__law_bad_heavy : Option Addr} {sl__law_bad_heavy : Array (Option Value)} {oc__law_bad_heavy kV__law_bad_heavy dc__law_bad_heavy pm__law_bad_heavy cd__law_bad_heavy ct__law_bad_heavy : Value} {a__law_bad_heavy : Addr}
    (a22 : PySem.W.nsIn K mainGlobals "_law_bad_heavy" = some (some (.ref a__law_bad_heavy))) (l22 : K.lookup a__law_bad_heavy = some ⟨oc__law_bad_heavy, od__law_bad_heavy, .func (PySem.W.fnOf "_law_bad_heavy" "_law_bad_heavy" (defArgs s__law_bad_heavy) (defBody s__law_bad_heavy) (defScope s__law_bad_heavy) .none kV__law_bad_heavy dc__law_bad_heavy pm__law_bad_heavy an__law_bad_heavy cd__law_bad_heavy ct__law_bad_heavy), sl__law_bad_heavy⟩) (c22 : PySem.W.codeIn K cd__law_bad_heavy "_law_bad_heavy" = true) (k22 : PySem.W.keepIn K (.ref a__law_bad_heavy) = true)
    {od__law_word an__law_word : Option Addr} {sl__law_word : Array (Option Value)} {oc__law_word kV__law_word dc__law_word pm__law_word cd__law_word ct__law_word : Value} {a__law_word : Addr}
    (a23 : PySem.W.nsIn K mainGlobals "_law_word" = some (some (.ref a__law_word))) (l23 : K.lookup a__law_word = some ⟨oc__law_word, od__law_word, .func (PySem.W.fnOf "_law_word" "_law_word" (defArgs s__law_word) (defBody s__law_word) (defScope s__law_word) .none kV__law_word dc__law_word pm__law_word an__law_word cd__law_word ct__law_word), sl__law_word⟩) (c23 : PySem.W.codeIn K cd__law_word "_law_word" = true) (k23 : PySem.W.keepIn K (.ref a__law_word) = true)
    {od__law_bad_word an__law_bad_word : Option Addr} {sl__law_bad_word : Array (Option Value)} {oc__law_bad_word kV__law_bad_word dc__law_bad_word pm__law_bad_word cd__law_bad_word ct__law_bad_word : Value} {a__law_bad_word : Addr}
    (a24 : PySem.W.nsIn K mainGlobals "_law_bad_word" = some (some (.ref a__law_bad_word))) (l24 : K.lookup a__law_bad_word = some ⟨oc__law_bad_word, od__law_bad_word, .func (PySem.W.fnOf "_law_bad_word" "_law_bad_word" (defArgs s__law_bad_word) (defBody s__law_bad_word) (defScope s__law_bad_word) .none kV__law_bad_word dc__law_bad_word pm__law_bad_word an__law_bad_word cd__law_bad_word ct__law_bad_word), sl__law_bad_word⟩) (c24 : PySem.W.codeIn K cd__law_bad_word "_law_bad_word" = true) (k24 : PySem.W.keepIn K (.ref a__law_bad_word) = true)
    {od__law_same an__law_same : Option Addr} {sl__law_same : Array (Option Value)} {oc__law_same kV__law_same dc__law_same pm__law_same cd__law_same ct__law_same : Value} {a__law_same : Addr}
    (a25 : PySem.W.nsIn K mainGlobals "_law_same" = some (some (.ref a__law_same))) (l25 : K.lookup a__law_same = some ⟨oc__law_same, od__law_same, .func (PySem.W.fnOf "_law_same" "_law_same" (defArgs s__law_same) (defBody s__law_same) (defScope s__law_same) .none kV__law_same dc__law_same pm__law_same an__law_same cd__law_same ct__law_same), sl__law_same⟩) (c25 : PySem.W.codeIn K cd__law_same "_law_same" = true) (k25 : PySem.W.keepIn K (.ref a__law_same) = true)
    {od__law_word_fault an__law_word_fault : Option Addr} {sl__law_word_fault : Array (Option Value)} {oc__law_word_fault kV__law_word_fault dc__law_word_fault pm__law_word_fault cd__law_word_fault ct__law_word_fault : Value} {a__law_word_fault : Addr}
    (a26 : PySem.W.nsIn K mainGlobals "_law_word_fault" = some (some (.ref a__law_word_fault))) (l26 : K.lookup a__law_word_fault = some ⟨oc__law_word_fault, od__law_word_fault, .func (PySem.W.fnOf "_law_word_fault" "_law_word_fault" (defArgs s__law_word_fault) (defBody s__law_word_fault) (defScope s__law_word_fault) .none kV__law_word_fault dc__law_word_fault pm__law_word_fault an__law_word_fault cd__law_word_fault ct__law_word_fault), sl__law_word_fault⟩) (c26 : PySem.W.codeIn K cd__law_word_fault "_law_word_fault" = true) (k26 : PySem.W.keepIn K (.ref a__law_word_fault) = true)
    {od__law_weigh an__law_weigh : Option Addr} {sl__law_weigh : Array (Option Value)} {oc__law_weigh kV__law_weigh dc__law_weigh pm__law_weigh cd__law_weigh ct__law_weigh : Value} {a__law_weigh : Addr}
    (a27 : PySem.W.nsIn K mainGlobals "_law_weigh" = some (some (.ref a__law_weigh))) (l27 : K.lookup a__law_weigh = some ⟨oc__law_weigh, od__law_weigh, .func (PySem.W.fnOf "_law_weigh" "_law_weigh" (defArgs s__law_weigh) (defBody s__law_weigh) (defScope s__law_weigh) .none kV__law_weigh dc__law_weigh pm__law_weigh an__law_weigh cd__law_weigh ct__law_weigh), sl__law_weigh⟩) (c27 : PySem.W.codeIn K cd__law_weigh "_law_weigh" = true) (k27 : PySem.W.keepIn K (.ref a__law_weigh) = true)
    {od__law_order an__law_order : Option Addr} {sl__law_order : Array (Option Value)} {oc__law_order kV__law_order dc__law_order pm__law_order cd__law_order ct__law_order : Value} {a__law_order : Addr}
    (a28 : PySem.W.nsIn K mainGlobals "_law_order" = some (some (.ref a__law_order))) (l28 : K.lookup a__law_order = some ⟨oc__law_order, od__law_order, .func (PySem.W.fnOf "_law_order" "_law_order" (defArgs s__law_order) (defBody s__law_order) (defScope s__law_order) .none kV__law_order dc__law_order pm__law_order an__law_order cd__law_order ct__law_order), sl__law_order⟩) (c28 : PySem.W.codeIn K cd__law_order "_law_order" = true) (k28 : PySem.W.keepIn K (.ref a__law_order) = true)
    {od__law_sorted an__law_sorted : Option Addr} {sl__law_sorted : Array (Option Value)} {oc__law_sorted kV__law_sorted dc__law_sorted pm__law_sorted cd__law_sorted ct__law_sorted : Value} {a__law_sorted : Addr}
    (a29 : PySem.W.nsIn K mainGlobals "_law_sorted" = some (some (.ref a__law_sorted))) (l29 : K.lookup a__law_sorted = some ⟨oc__law_sorted, od__law_sorted, .func (PySem.W.fnOf "_law_sorted" "_law_sorted" (defArgs s__law_sorted) (defBody s__law_sorted) (defScope s__law_sorted) .none kV__law_sorted dc__law_sorted pm__law_sorted an__law_sorted cd__law_sorted ct__law_sorted), sl__law_sorted⟩) (c29 : PySem.W.codeIn K cd__law_sorted "_law_sorted" = true) (k29 : PySem.W.keepIn K (.ref a__law_sorted) = true)
    {od__law_is_alphabet an__law_is_alphabet : Option Addr} {sl__law_is_alphabet : Array (Option Value)} {oc__law_is_alphabet kV__law_is_alphabet dc__law_is_alphabet pm__law_is_alphabet cd__law_is_alphabet ct__law_is_alphabet : Value} {a__law_is_alphabet : Addr}
    (a30 : PySem.W.nsIn K mainGlobals "_law_is_alphabet" = some (some (.ref a__law_is_alphabet))) (l30 : K.lookup a__law_is_alphabet = some ⟨oc__law_is_alphabet, od__law_is_alphabet, .func (PySem.W.fnOf "_law_is_alphabet" "_law_is_alphabet" (defArgs s__law_is_alphabet) (defBody s__law_is_alphabet) (defScope s__law_is_alphabet) .none kV__law_is_alphabet dc__law_is_alphabet pm__law_is_alphabet an__law_is_alphabet cd__law_is_alphabet ct__law_is_alphabet), sl__law_is_alphabet⟩) (c30 : PySem.W.codeIn K cd__law_is_alphabet "_law_is_alphabet" = true) (k30 : PySem.W.keepIn K (.ref a__law_is_alphabet) = true)
    {od__law_ask an__law_ask : Option Addr} {sl__law_ask : Array (Option Value)} {oc__law_ask kV__law_ask dc__law_ask pm__law_ask cd__law_ask ct__law_ask : Value} {a__law_ask : Addr}
    (a31 : PySem.W.nsIn K mainGlobals "_law_ask" = some (some (.ref a__law_ask))) (l31 : K.lookup a__law_ask = some ⟨oc__law_ask, od__law_ask, .func (PySem.W.fnOf "_law_ask" "_law_ask" (defArgs s__law_ask) (defBody s__law_ask) (defScope s__law_ask) .none kV__law_ask dc__law_ask pm__law_ask an__law_ask cd__law_ask ct__law_ask), sl__law_ask⟩) (c31 : PySem.W.codeIn K cd__law_ask "_law_ask" = true) (k31 : PySem.W.keepIn K (.ref a__law_ask) = true)
    {od__law_due an__law_due : Option Addr} {sl__law_due : Array (Option Value)} {oc__law_due kV__law_due dc__law_due pm__law_due cd__law_due ct__law_due : Value} {a__law_due : Addr}
    (a32 : PySem.W.nsIn K mainGlobals "_law_due" = some (some (.ref a__law_due))) (l32 : K.lookup a__law_due = some ⟨oc__law_due, od__law_due, .func (PySem.W.fnOf "_law_due" "_law_due" (defArgs s__law_due) (defBody s__law_due) (defScope s__law_due) .none kV__law_due dc__law_due pm__law_due an__law_due cd__law_due ct__law_due), sl__law_due⟩) (c32 : PySem.W.codeIn K cd__law_due "_law_due" = true) (k32 : PySem.W.keepIn K (.ref a__law_due) = true)
    {od__law_near an__law_near : Option Addr} {sl__law_near : Array (Option Value)} {oc__law_near kV__law_near dc__law_near pm__law_near cd__law_near ct__law_near : Value} {a__law_near : Addr}
    (a33 : PySem.W.nsIn K mainGlobals "_law_near" = some (some (.ref a__law_near))) (l33 : K.lookup a__law_near = some ⟨oc__law_near, od__law_near, .func (PySem.W.fnOf "_law_near" "_law_near" (defArgs s__law_near) (defBody s__law_near) (defScope s__law_near) .none kV__law_near dc__law_near pm__law_near an__law_near cd__law_near ct__law_near), sl__law_near⟩) (c33 : PySem.W.codeIn K cd__law_near "_law_near" = true) (k33 : PySem.W.keepIn K (.ref a__law_near) = true)
    {od__law_words an__law_words : Option Addr} {sl__law_words : Array (Option Value)} {oc__law_words kV__law_words dc__law_words pm__law_words cd__law_words ct__law_words : Value} {a__law_words : Addr}
    (a34 : PySem.W.nsIn K mainGlobals "_law_words" = some (some (.ref a__law_words))) (l34 : K.lookup a__law_words = some ⟨oc__law_words, od__law_words, .func (PySem.W.fnOf "_law_words" "_law_words" (defArgs s__law_words) (defBody s__law_words) (defScope s__law_words) .none kV__law_words dc__law_words pm__law_words an__law_words cd__law_words ct__law_words), sl__law_words⟩) (c34 : PySem.W.codeIn K cd__law_words "_law_words" = true) (k34 : PySem.W.keepIn K (.ref a__law_words) = true)
    {od__law_all_right an__law_all_right : Option Addr} {sl__law_all_right : Array (Option Value)} {oc__law_all_right kV__law_all_right dc__law_all_right pm__law_all_right cd__law_all_right ct__law_all_right : Value} {a__law_all_right : Addr}
    (a35 : PySem.W.nsIn K mainGlobals "_law_all_right" = some (some (.ref a__law_all_right))) (l35 : K.lookup a__law_all_right = some ⟨oc__law_all_right, od__law_all_right, .func (PySem.W.fnOf "_law_all_right" "_law_all_right" (defArgs s__law_all_right) (defBody s__law_all_right) (defScope s__law_all_right) .none kV__law_all_right dc__law_all_right pm__law_all_right an__law_all_right cd__law_all_right ct__law_all_right), sl__law_all_right⟩) (c35 : PySem.W.codeIn K cd__law_all_right "_law_all_right" = true) (k35 : PySem.W.keepIn K (.ref a__law_all_right) = true)
    {od__law_large_right an__law_large_right : Option Addr} {sl__law_large_right : Array (Option Value)} {oc__law_large_right kV__law_large_right dc__law_large_right pm__law_large_right cd__law_large_right ct__law_large_right : Value} {a__law_large_right : Addr}
    (a36 : PySem.W.nsIn K mainGlobals "_law_large_right" = some (some (.ref a__law_large_right))) (l36 : K.lookup a__law_large_right = some ⟨oc__law_large_right, od__law_large_right, .func (PySem.W.fnOf "_law_large_right" "_law_large_right" (defArgs s__law_large_right) (defBody s__law_large_right) (defScope s__law_large_right) .none kV__law_large_right dc__law_large_right pm__law_large_right an__law_large_right cd__law_large_right ct__law_large_right), sl__law_large_right⟩) (c36 : PySem.W.codeIn K cd__law_large_right "_law_large_right" = true) (k36 : PySem.W.keepIn K (.ref a__law_large_right) = true)
    {od_law an_law : Option Addr} {sl_law : Array (Option Value)} {oc_law kV_law dc_law pm_law cd_law ct_law : Value} {a_law : Addr}
    (a37 : PySem.W.nsIn K mainGlobals "law" = some (some (.ref a_law))) (l37 : K.lookup a_law = some ⟨oc_law, od_law, .func (PySem.W.fnOf "law" "law" (defArgs s_law) (defBody s_law) (defScope s_law) .none kV_law dc_law pm_law an_law cd_law ct_law), sl_law⟩) (c37 : PySem.W.codeIn K cd_law "law" = true) (k37 : PySem.W.keepIn K (.ref a_law) = true)
    (z_ValueError : PySem.W.nsIn K mainGlobals "ValueError" = some none)
    (z_abs : PySem.W.nsIn K mainGlobals "abs" = some none)
    (z_all : PySem.W.nsIn K mainGlobals "all" = some none)
    (z_bool : PySem.W.nsIn K mainGlobals "bool" = some none)
    (z_int : PySem.W.nsIn K mainGlobals "int" = some none)
    (z_isinstance : PySem.W.nsIn K mainGlobals "isinstance" = some none)
    (z_len : PySem.W.nsIn K mainGlobals "len" = some none)
    (z_list : PySem.W.nsIn K mainGlobals "list" = some none)
    (z_range : PySem.W.nsIn K mainGlobals "range" = some none)
    (z_set : PySem.W.nsIn K mainGlobals "set" = some none)
    (z_sorted : PySem.W.nsIn K mainGlobals "sorted" = some none)
    (z_str : PySem.W.nsIn K mainGlobals "str" = some none)
    (z_sum : PySem.W.nsIn K mainGlobals "sum" = some none)
    (z_tuple : PySem.W.nsIn K mainGlobals "tuple" = some none)
    {t_LETTERS : Tok} (g_LETTERS : PySem.W.nsIn K mainGlobals "LETTERS" = some (some (.int 6 t_LETTERS)))
    {t_WEIGHT : Tok} (g_WEIGHT : PySem.W.nsIn K mainGlobals "WEIGHT" = some (some (.int 99 t_WEIGHT)))
    {t_WORD : Tok} (g_WORD : PySem.W.nsIn K mainGlobals "WORD" = some (some (.int 32 t_WORD)))
    (k_BadLetters : PySem.W.nsIn K mainGlobals "BadLetters" = some (some (.ref 92)))
    (k_BadWeights : PySem.W.nsIn K mainGlobals "BadWeights" = some (some (.ref 73)))
    (k_BadWord : PySem.W.nsIn K mainGlobals "BadWord" = some (some (.ref 111)))
    (k_BoundError : PySem.W.nsIn K mainGlobals "BoundError" = some (some (.ref 37)))
    (k_TooLong : PySem.W.nsIn K mainGlobals "TooLong" = some (some (.ref 49)))
    (k_TooMany : PySem.W.nsIn K mainGlobals "TooMany" = some (some (.ref 61)))
    (k_WayfillError : PySem.W.nsIn K mainGlobals "WayfillError" = some (some (.ref 24)))
    (sg : PySem.W.specialIn K (.builtin "object.__class__") "__get__" = some (some (.builtin "getset_descriptor.__get__"))) (tk : PySem.W.takesIn K (.builtin "object.__class__") = some true)
    {nm_WayfillError q_WayfillError : Str} {N_WayfillError : Addr} {bs_WayfillError : List Value} {sn_WayfillError : List Str} {sub_WayfillError : List Value} {ab_WayfillError : Bool} {col_WayfillError : Option Bool} {dd_WayfillError : Option Addr} {k0_WayfillError k1_WayfillError k2_WayfillError k3_WayfillError k5_WayfillError : Option Value} (L_WayfillError : K.lookup 24 = some (excClassObj nm_WayfillError q_WayfillError 24 N_WayfillError bs_WayfillError [.type "ValueError", .type "Exception", .type "BaseException", .type "object"] true sn_WayfillError sub_WayfillError ab_WayfillError col_WayfillError dd_WayfillError k0_WayfillError k1_WayfillError k2_WayfillError k3_WayfillError k5_WayfillError "ValueError.__new__"))
    (ke_WayfillError : PySem.W.keepIn K (.ref 24) = true) (ga_WayfillError : PySem.W.findIn K (.ref 24) "__getattribute__" = some (some (.builtin "BaseException.__getattribute__"))) (gg_WayfillError : PySem.W.findIn K (.ref 24) "__getattr__" = some none) (gc_WayfillError : PySem.W.findIn K (.ref 24) "__class__" = some (some (.builtin "object.__class__"))) (sa_WayfillError : PySem.W.findIn K (.ref 24) "__setattr__" = some (some (.builtin "object.__setattr__")))
    (no_WayfillError_text : PySem.W.findIn K (.ref 24) "text" = some none)
    {nm_BoundError q_BoundError : Str} {N_BoundError : Addr} {bs_BoundError : List Value} {sn_BoundError : List Str} {sub_BoundError : List Value} {ab_BoundError : Bool} {col_BoundError : Option Bool} {dd_BoundError : Option Addr} {k0_BoundError k1_BoundError k2_BoundError k3_BoundError k5_BoundError : Option Value} (L_BoundError : K.lookup 37 = some (excClassObj nm_BoundError q_BoundError 37 N_BoundError bs_BoundError [.ref 24, .type "ValueError", .type "Exception", .type "BaseException", .type "object"] true sn_BoundError sub_BoundError ab_BoundError col_BoundError dd_BoundError k0_BoundError k1_BoundError k2_BoundError k3_BoundError k5_BoundError "ValueError.__new__"))
    (ke_BoundError : PySem.W.keepIn K (.ref 37) = true) (ga_BoundError : PySem.W.findIn K (.ref 37) "__getattribute__" = some (some (.builtin "BaseException.__getattribute__"))) (gg_BoundError : PySem.W.findIn K (.ref 37) "__getattr__" = some none) (gc_BoundError : PySem.W.findIn K (.ref 37) "__class__" = some (some (.builtin "object.__class__"))) (sa_BoundError : PySem.W.findIn K (.ref 37) "__setattr__" = some (some (.builtin "object.__setattr__")))
    (no_BoundError_text : PySem.W.findIn K (.ref 37) "text" = some none)
    {nm_TooLong q_TooLong : Str} {N_TooLong : Addr} {bs_TooLong : List Value} {sn_TooLong : List Str} {sub_TooLong : List Value} {ab_TooLong : Bool} {col_TooLong : Option Bool} {dd_TooLong : Option Addr} {k0_TooLong k1_TooLong k2_TooLong k3_TooLong k5_TooLong : Option Value} (L_TooLong : K.lookup 49 = some (excClassObj nm_TooLong q_TooLong 49 N_TooLong bs_TooLong [.ref 37, .ref 24, .type "ValueError", .type "Exception", .type "BaseException", .type "object"] true sn_TooLong sub_TooLong ab_TooLong col_TooLong dd_TooLong k0_TooLong k1_TooLong k2_TooLong k3_TooLong k5_TooLong "ValueError.__new__"))
    (ke_TooLong : PySem.W.keepIn K (.ref 49) = true) (ga_TooLong : PySem.W.findIn K (.ref 49) "__getattribute__" = some (some (.builtin "BaseException.__getattribute__"))) (gg_TooLong : PySem.W.findIn K (.ref 49) "__getattr__" = some none) (gc_TooLong : PySem.W.findIn K (.ref 49) "__class__" = some (some (.builtin "object.__class__"))) (sa_TooLong : PySem.W.findIn K (.ref 49) "__setattr__" = some (some (.builtin "object.__setattr__")))
    (no_TooLong_text : PySem.W.findIn K (.ref 49) "text" = some none)
    {nm_TooMany q_TooMany : Str} {N_TooMany : Addr} {bs_TooMany : List Value} {sn_TooMany : List Str} {sub_TooMany : List Value} {ab_TooMany : Bool} {col_TooMany : Option Bool} {dd_TooMany : Option Addr} {k0_TooMany k1_TooMany k2_TooMany k3_TooMany k5_TooMany : Option Value} (L_TooMany : K.lookup 61 = some (excClassObj nm_TooMany q_TooMany 61 N_TooMany bs_TooMany [.ref 37, .ref 24, .type "ValueError", .type "Exception", .type "BaseException", .type "object"] true sn_TooMany sub_TooMany ab_TooMany col_TooMany dd_TooMany k0_TooMany k1_TooMany k2_TooMany k3_TooMany k5_TooMany "ValueError.__new__"))
    (ke_TooMany : PySem.W.keepIn K (.ref 61) = true) (ga_TooMany : PySem.W.findIn K (.ref 61) "__getattribute__" = some (some (.builtin "BaseException.__getattribute__"))) (gg_TooMany : PySem.W.findIn K (.ref 61) "__getattr__" = some none) (gc_TooMany : PySem.W.findIn K (.ref 61) "__class__" = some (some (.builtin "object.__class__"))) (sa_TooMany : PySem.W.findIn K (.ref 61) "__setattr__" = some (some (.builtin "object.__setattr__")))
    (no_TooMany_text : PySem.W.findIn K (.ref 61) "text" = some none)
    {nm_BadWeights q_BadWeights : Str} {N_BadWeights : Addr} {bs_BadWeights : List Value} {sn_BadWeights : List Str} {sub_BadWeights : List Value} {ab_BadWeights : Bool} {col_BadWeights : Option Bool} {dd_BadWeights : Option Addr} {k0_BadWeights k1_BadWeights k2_BadWeights k3_BadWeights k5_BadWeights : Option Value} (L_BadWeights : K.lookup 73 = some (excClassObj nm_BadWeights q_BadWeights 73 N_BadWeights bs_BadWeights [.ref 24, .type "ValueError", .type "Exception", .type "BaseException", .type "object"] true sn_BadWeights sub_BadWeights ab_BadWeights col_BadWeights dd_BadWeights k0_BadWeights k1_BadWeights k2_BadWeights k3_BadWeights k5_BadWeights "ValueError.__new__"))
    (ke_BadWeights : PySem.W.keepIn K (.ref 73) = true) (ga_BadWeights : PySem.W.findIn K (.ref 73) "__getattribute__" = some (some (.builtin "BaseException.__getattribute__"))) (gg_BadWeights : PySem.W.findIn K (.ref 73) "__getattr__" = some none) (gc_BadWeights : PySem.W.findIn K (.ref 73) "__class__" = some (some (.builtin "object.__class__"))) (sa_BadWeights : PySem.W.findIn K (.ref 73) "__setattr__" = some (some (.builtin "object.__setattr__")))
    (no_BadWeights_text : PySem.W.findIn K (.ref 73) "text" = some none)
    {nm_BadLetters q_BadLetters : Str} {N_BadLetters : Addr} {bs_BadLetters : List Value} {sn_BadLetters : List Str} {sub_BadLetters : List Value} {ab_BadLetters : Bool} {col_BadLetters : Option Bool} {dd_BadLetters : Option Addr} {k0_BadLetters k1_BadLetters k2_BadLetters k3_BadLetters k5_BadLetters : Option Value} (L_BadLetters : K.lookup 92 = some (excClassObj nm_BadLetters q_BadLetters 92 N_BadLetters bs_BadLetters [.ref 24, .type "ValueError", .type "Exception", .type "BaseException", .type "object"] true sn_BadLetters sub_BadLetters ab_BadLetters col_BadLetters dd_BadLetters k0_BadLetters k1_BadLetters k2_BadLetters k3_BadLetters k5_BadLetters "ValueError.__new__"))
    (ke_BadLetters : PySem.W.keepIn K (.ref 92) = true) (ga_BadLetters : PySem.W.findIn K (.ref 92) "__getattribute__" = some (some (.builtin "BaseException.__getattribute__"))) (gg_BadLetters : PySem.W.findIn K (.ref 92) "__getattr__" = some none) (gc_BadLetters : PySem.W.findIn K (.ref 92) "__class__" = some (some (.builtin "object.__class__"))) (sa_BadLetters : PySem.W.findIn K (.ref 92) "__setattr__" = some (some (.builtin "object.__setattr__")))
    (no_BadLetters_text : PySem.W.findIn K (.ref 92) "text" = some none)
    {nm_BadWord q_BadWord : Str} {N_BadWord : Addr} {bs_BadWord : List Value} {sn_BadWord : List Str} {sub_BadWord : List Value} {ab_BadWord : Bool} {col_BadWord : Option Bool} {dd_BadWord : Option Addr} {k0_BadWord k1_BadWord k2_BadWord k3_BadWord k5_BadWord : Option Value} (L_BadWord : K.lookup 111 = some (excClassObj nm_BadWord q_BadWord 111 N_BadWord bs_BadWord [.ref 24, .type "ValueError", .type "Exception", .type "BaseException", .type "object"] true sn_BadWord sub_BadWord ab_BadWord col_BadWord dd_BadWord k0_BadWord k1_BadWord k2_BadWord k3_BadWord k5_BadWord "ValueError.__new__"))
    (ke_BadWord : PySem.W.keepIn K (.ref 111) = true) (ga_BadWord : PySem.W.findIn K (.ref 111) "__getattribute__" = some (some (.builtin "BaseException.__getattribute__"))) (gg_BadWord : PySem.W.findIn K (.ref 111) "__getattr__" = some none) (gc_BadWord : PySem.W.findIn K (.ref 111) "__class__" = some (some (.builtin "object.__class__"))) (sa_BadWord : PySem.W.findIn K (.ref 111) "__setattr__" = some (some (.builtin "object.__setattr__")))
    (no_BadWord_text : PySem.W.findIn K (.ref 111) "text" = some none)
    (q_BadWeights : PySem.W.excIn K 73 [.type "ValueError", .type "Exception", .type "BaseException", .type "object"] "ValueError.__new__" = true)
    (q_TooLong : PySem.W.excIn K 49 [.type "ValueError", .type "Exception", .type "BaseException", .type "object"] "ValueError.__new__" = true)
    {od_BadLetters_i an_BadLetters_i : Option Addr} {sl_BadLetters_i : Array (Option Value)} {oc_BadLetters_i kV_BadLetters_i dc_BadLetters_i pm_BadLetters_i cd_BadLetters_i ct_BadLetters_i : Value} {a_BadLetters_i : Addr}
    (i_BadLetters : PySem.W.findIn K (.ref 92) "__init__" = some (some (.ref a_BadLetters_i))) (t_BadLetters_i : PySem.W.typeIn K (.ref a_BadLetters_i) = some (.type "function")) (l_BadLetters_i : K.lookup a_BadLetters_i = some ⟨oc_BadLetters_i, od_BadLetters_i, .func (PySem.W.fnOf "__init__" "BadLetters.__init__" (defArgs s_BadLetters_i) (defBody s_BadLetters_i) (defScope s_BadLetters_i) .none kV_BadLetters_i dc_BadLetters_i pm_BadLetters_i an_BadLetters_i cd_BadLetters_i ct_BadLetters_i), sl_BadLetters_i⟩) (c_BadLetters_i : PySem.W.codeIn K cd_BadLetters_i "BadLetters.__init__" = true) (ki_BadLetters_i : PySem.W.keepIn K (.ref a_BadLetters_i) = true)
    {od_BadWord_i an_BadWord_i : Option Addr} {sl_BadWord_i : Array (Option Value)} {oc_BadWord_i kV_BadWord_i dc_BadWord_i pm_BadWord_i cd_BadWord_i ct_BadWord_i : Value} {a_BadWord_i : Addr}
    (i_BadWord : PySem.W.findIn K (.ref 111) "__init__" = some (some (.ref a_BadWord_i))) (t_BadWord_i : PySem.W.typeIn K (.ref a_BadWord_i) = some (.type "function")) (l_BadWord_i : K.lookup a_BadWord_i = some ⟨oc_BadWord_i, od_BadWord_i, .func (PySem.W.fnOf "__init__" "BadWord.__init__" (defArgs s_BadWord_i) (defBody s_BadWord_i) (defScope s_BadWord_i) .none kV_BadWord_i dc_BadWord_i pm_BadWord_i an_BadWord_i cd_BadWord_i ct_BadWord_i), sl_BadWord_i⟩) (c_BadWord_i : PySem.W.codeIn K cd_BadWord_i "BadWord.__init__" = true) (ki_BadWord_i : PySem.W.keepIn K (.ref a_BadWord_i) = true) :
    ∃ fd : FuncData, (∀ (s : Shared) (v : Value), BindsTo s fd ⟨[v], []⟩ [("script", v)]) ∧ ∀ base : Heap, K.In base → base.Ns mainGlobals mg → FnOk l.prog w K mg base (L2.CX l.prog w) 12 fa fd ["script"] (spF K f_law) := by
  have e := hfa.symm.trans (PySem.W.mg_of X G a37)
  obtain rfl : fa = a_law := by
    cases e
    rfl
  have X_WayfillError : Xk K 24 [] := ⟨⟨_, _, _, _, _, _, _, _, _, _, _, _, _, _, _, L_WayfillError, rfl⟩, ke_WayfillError, ga_WayfillError, gg_WayfillError, gc_WayfillError, sa_WayfillError, sg, tk⟩
  have X_BoundError : Xk K 37 [24] := ⟨⟨_, _, _, _, _, _, _, _, _, _, _, _, _, _, _, L_BoundError, rfl⟩, ke_BoundError, ga_BoundError, gg_BoundError, gc_BoundError, sa_BoundError, sg, tk⟩
  have X_TooLong : Xk K 49 [37, 24] := ⟨⟨_, _, _, _, _, _, _, _, _, _, _, _, _, _, _, L_TooLong, rfl⟩, ke_TooLong, ga_TooLong, gg_TooLong, gc_TooLong, sa_TooLong, sg, tk⟩
  have X_TooMany : Xk K 61 [37, 24] := ⟨⟨_, _, _, _, _, _, _, _, _, _, _, _, _, _, _, L_TooMany, rfl⟩, ke_TooMany, ga_TooMany, gg_TooMany, gc_TooMany, sa_TooMany, sg, tk⟩
  have X_BadWeights : Xk K 73 [24] := ⟨⟨_, _, _, _, _, _, _, _, _, _, _, _, _, _, _, L_BadWeights, rfl⟩, ke_BadWeights, ga_BadWeights, gg_BadWeights, gc_BadWeights, sa_BadWeights, sg, tk⟩
  have X_BadLetters : Xk K 92 [24] := ⟨⟨_, _, _, _, _, _, _, _, _, _, _, _, _, _, _, L_BadLetters, rfl⟩, ke_BadLetters, ga_BadLetters, gg_BadLetters, gc_BadLetters, sa_BadLetters, sg, tk⟩
  have X_BadWord : Xk K 111 [24] := ⟨⟨_, _, _, _, _, _, _, _, _, _, _, _, _, _, _, L_BadWord, rfl⟩, ke_BadWord, ga_BadWord, gg_BadWord, gc_BadWord, sa_BadWord, sg, tk⟩
  have xt : tX.Ok K := xall_of (.cons X_WayfillError (.cons X_BoundError (.cons X_TooLong (.cons X_TooMany (.cons X_BadWeights (.cons X_BadLetters (.cons X_BadWord .nil)))))))
  have T : Bt K mg := ⟨PySem.W.mg_none_of X G z_ValueError, PySem.W.mg_none_of X G z_abs, PySem.W.mg_none_of X G z_all, PySem.W.mg_none_of X G z_bool, PySem.W.mg_none_of X G z_int, PySem.W.mg_none_of X G z_isinstance, PySem.W.mg_none_of X G z_len, PySem.W.mg_none_of X G z_list, PySem.W.mg_none_of X G z_range, PySem.W.mg_none_of X G z_set, PySem.W.mg_none_of X G z_sorted, PySem.W.mg_none_of X G z_str, PySem.W.mg_none_of X G z_sum, PySem.W.mg_none_of X G z_tuple, ⟨_, PySem.W.mg_of X G g_LETTERS⟩, ⟨_, PySem.W.mg_of X G g_WEIGHT⟩, ⟨_, PySem.W.mg_of X G g_WORD⟩, PySem.W.mg_of X G k_BadLetters, PySem.W.mg_of X G k_BadWeights, PySem.W.mg_of X G k_BadWord, PySem.W.mg_of X G k_BoundError, PySem.W.mg_of X G k_TooLong, PySem.W.mg_of X G k_TooMany, PySem.W.mg_of X G k_WayfillError, xt, q_BadWeights, q_TooLong, fun C {l} hC => nall_of (P := fun C => PySem.W.findIn K (.ref C) "text" = some none) (t := tX) (.cons no_WayfillError_text (.cons no_BoundError_text (.cons no_TooLong_text (.cons no_TooMany_text (.cons no_BadWeights_text (.cons no_BadLetters_text (.cons no_BadWord_text .nil))))))) hC⟩
  have Fi_BadLetters := fun_mk (st := s_BadLetters_i) l_BadLetters_i c_BadLetters_i ki_BadLetters_i
  have Di_BadLetters : Dfi K 92 "BadLetters.__init__" s_BadLetters_i a_BadLetters_i _ P_BadLetters_i := ⟨Fi_BadLetters, i_BadLetters, t_BadLetters_i, Fi_BadLetters.binds (ps := P_BadLetters_i) fun _ _ _ _ _ _ us hl => match us, hl with | [_, _], _ => rfl⟩
  have Fi_BadWord := fun_mk (st := s_BadWord_i) l_BadWord_i c_BadWord_i ki_BadWord_i
  have Di_BadWord : Dfi K 111 "BadWord.__init__" s_BadWord_i a_BadWord_i _ P_BadWord_i := ⟨Fi_BadWord, i_BadWord, t_BadWord_i, Fi_BadWord.binds (ps := P_BadWord_i) fun _ _ _ _ _ _ us hl => match us, hl with | [_, _], _ => rfl⟩
  have F0 := fun_mk (st := s_is_alphabet) l0 c0 k0
  have D_is_alphabet : Df K mg "is_alphabet" s_is_alphabet a_is_alphabet _ P_is_alphabet := ⟨F0, PySem.W.mg_of X G a0, k0, F0.binds (ps := P_is_alphabet) fun _ _ _ _ _ _ us hl => match us, hl with | [_], _ => rfl⟩
  have F1 := fun_mk (st := s_check_letters) l1 c1 k1
  have D_check_letters : Df K mg "check_letters" s_check_letters a_check_letters _ P_check_letters := ⟨F1, PySem.W.mg_of X G a1, k1, F1.binds (ps := P_check_letters) fun _ _ _ _ _ _ us hl => match us, hl with | [_], _ => rfl⟩
  have F2 := fun_mk (st := s_are_weights) l2 c2 k2
  have D_are_weights : Df K mg "are_weights" s_are_weights a_are_weights _ P_are_weights := ⟨F2, PySem.W.mg_of X G a2, k2, F2.binds (ps := P_are_weights) fun _ _ _ _ _ _ us hl => match us, hl with | [_, _], _ => rfl⟩
  have F3 := fun_mk (st := s_check_weights) l3 c3 k3
  have D_check_weights : Df K mg "check_weights" s_check_weights a_check_weights _ P_check_weights := ⟨F3, PySem.W.mg_of X G a3, k3, F3.binds (ps := P_check_weights) fun _ _ _ _ _ _ us hl => match us, hl with | [_, _], _ => rfl⟩
  have F4 := fun_mk (st := s_has_letters_only) l4 c4 k4
  have D_has_letters_only : Df K mg "has_letters_only" s_has_letters_only a_has_letters_only _ P_has_letters_only := ⟨F4, PySem.W.mg_of X G a4, k4, F4.binds (ps := P_has_letters_only) fun _ _ _ _ _ _ us hl => match us, hl with | [_, _], _ => rfl⟩
  have F5 := fun_mk (st := s_check_word) l5 c5 k5
  have D_check_word : Df K mg "check_word" s_check_word a_check_word _ P_check_word := ⟨F5, PySem.W.mg_of X G a5, k5, F5.binds (ps := P_check_word) fun _ _ _ _ _ _ us hl => match us, hl with | [_, _], _ => rfl⟩
  have F6 := fun_mk (st := s_order_key) l6 c6 k6
  have D_order_key : Df K mg "order_key" s_order_key a_order_key _ P_order_key := ⟨F6, PySem.W.mg_of X G a6, k6, F6.binds (ps := P_order_key) fun _ _ _ _ _ _ us hl => match us, hl with | [_, _, _], _ => rfl⟩
  have F7 := fun_mk (st := s_word_weight) l7 c7 k7
  have D_word_weight : Df K mg "word_weight" s_word_weight a_word_weight _ P_word_weight := ⟨F7, PySem.W.mg_of X G a7, k7, F7.binds (ps := P_word_weight) fun _ _ _ _ _ _ us hl => match us, hl with | [_, _, _], _ => rfl⟩
  have F8 := fun_mk (st := s_compare_words) l8 c8 k8
  have D_compare_words : Df K mg "compare_words" s_compare_words a_compare_words _ P_compare_words := ⟨F8, PySem.W.mg_of X G a8, k8, F8.binds (ps := P_compare_words) fun _ _ _ _ _ _ us hl => match us, hl with | [_, _, _, _], _ => rfl⟩
  have F9 := fun_mk (st := s_sort_words) l9 c9 k9
  have D_sort_words : Df K mg "sort_words" s_sort_words a_sort_words _ P_sort_words := ⟨F9, PySem.W.mg_of X G a9, k9, F9.binds (ps := P_sort_words) fun _ _ _ _ _ _ us hl => match us, hl with | [_, _, _], _ => rfl⟩
  have F10 := fun_mk (st := s__law_draws) l10 c10 k10
  have D__law_draws : Df K mg "_law_draws" s__law_draws a__law_draws _ P__law_draws := ⟨F10, PySem.W.mg_of X G a10, k10, F10.binds (ps := P__law_draws) fun _ _ _ _ _ _ us hl => match us, hl with | [_], _ => rfl⟩
  have F11 := fun_mk (st := s__law_mixed) l11 c11 k11
  have D__law_mixed : Df K mg "_law_mixed" s__law_mixed a__law_mixed _ P__law_mixed := ⟨F11, PySem.W.mg_of X G a11, k11, F11.binds (ps := P__law_mixed) fun _ _ _ _ _ _ us hl => match us, hl with | [_, _], _ => rfl⟩
  have F12 := fun_mk (st := s__law_take) l12 c12 k12
  have D__law_take : Df K mg "_law_take" s__law_take a__law_take _ P__law_take := ⟨F12, PySem.W.mg_of X G a12, k12, F12.binds (ps := P__law_take) fun _ _ _ _ _ _ us hl => match us, hl with | [_, _], _ => rfl⟩
  have F13 := fun_mk (st := s__law_span) l13 c13 k13
  have D__law_span : Df K mg "_law_span" s__law_span a__law_span _ P__law_span := ⟨F13, PySem.W.mg_of X G a13, k13, F13.binds (ps := P__law_span) fun _ _ _ _ _ _ us hl => match us, hl with | [_, _, _], _ => rfl⟩
  have F14 := fun_mk (st := s__law_rare) l14 c14 k14
  have D__law_rare : Df K mg "_law_rare" s__law_rare a__law_rare _ P__law_rare := ⟨F14, PySem.W.mg_of X G a14, k14, F14.binds (ps := P__law_rare) fun _ _ _ _ _ _ us hl => match us, hl with | [_, _], _ => rfl⟩
  have F15 := fun_mk (st := s__law_pick) l15 c15 k15
  have D__law_pick : Df K mg "_law_pick" s__law_pick a__law_pick _ P__law_pick := ⟨F15, PySem.W.mg_of X G a15, k15, F15.binds (ps := P__law_pick) fun _ _ _ _ _ _ us hl => match us, hl with | [_, _], _ => rfl⟩
  have F16 := fun_mk (st := s__law_in_range) l16 c16 k16
  have D__law_in_range : Df K mg "_law_in_range" s__law_in_range a__law_in_range _ P__law_in_range := ⟨F16, PySem.W.mg_of X G a16, k16, F16.binds (ps := P__law_in_range) fun _ _ _ _ _ _ us hl => match us, hl with | [_, _, _], _ => rfl⟩
  have F17 := fun_mk (st := s__law_out_of_range) l17 c17 k17
  have D__law_out_of_range : Df K mg "_law_out_of_range" s__law_out_of_range a__law_out_of_range _ P__law_out_of_range := ⟨F17, PySem.W.mg_of X G a17, k17, F17.binds (ps := P__law_out_of_range) fun _ _ _ _ _ _ us hl => match us, hl with | [_, _, _], _ => rfl⟩
  have F18 := fun_mk (st := s__law_letters) l18 c18 k18
  have D__law_letters : Df K mg "_law_letters" s__law_letters a__law_letters _ P__law_letters := ⟨F18, PySem.W.mg_of X G a18, k18, F18.binds (ps := P__law_letters) fun _ _ _ _ _ _ us hl => match us, hl with | [_, _, _], _ => rfl⟩
  have F19 := fun_mk (st := s__law_stranger) l19 c19 k19
  have D__law_stranger : Df K mg "_law_stranger" s__law_stranger a__law_stranger _ P__law_stranger := ⟨F19, PySem.W.mg_of X G a19, k19, F19.binds (ps := P__law_stranger) fun _ _ _ _ _ _ us hl => match us, hl with | [_, _], _ => rfl⟩
  have F20 := fun_mk (st := s__law_bad_letters) l20 c20 k20
  have D__law_bad_letters : Df K mg "_law_bad_letters" s__law_bad_letters a__law_bad_letters _ P__law_bad_letters := ⟨F20, PySem.W.mg_of X G a20, k20, F20.binds (ps := P__law_bad_letters) fun _ _ _ _ _ _ us hl => match us, hl with | [_], _ => rfl⟩
  have F21 := fun_mk (st := s__law_heavy) l21 c21 k21
  have D__law_heavy : Df K mg "_law_heavy" s__law_heavy a__law_heavy _ P__law_heavy := ⟨F21, PySem.W.mg_of X G a21, k21, F21.binds (ps := P__law_heavy) fun _ _ _ _ _ _ us hl => match us, hl with | [_, _], _ => rfl⟩
  have F22 := fun_mk (st := s__law_bad_heavy) l22 c22 k22
  have D__law_bad_heavy : Df K mg "_law_bad_heavy" s__law_bad_heavy a__law_bad_heavy _ P__law_bad_heavy := ⟨F22, PySem.W.mg_of X G a22, k22, F22.binds (ps := P__law_bad_heavy) fun _ _ _ _ _ _ us hl => match us, hl with | [_, _], _ => rfl⟩
  have F23 := fun_mk (st := s__law_word) l23 c23 k23
  have D__law_word : Df K mg "_law_word" s__law_word a__law_word _ P__law_word := ⟨F23, PySem.W.mg_of X G a23, k23, F23.binds (ps := P__law_word) fun _ _ _ _ _ _ us hl => match us, hl with | [_, _, _, _], _ => rfl⟩
  have F24 := fun_mk (st := s__law_bad_word) l24 c24 k24
  have D__law_bad_word : Df K mg "_law_bad_word" s__law_bad_word a__law_bad_word _ P__law_bad_word := ⟨F24, PySem.W.mg_of X G a24, k24, F24.binds (ps := P__law_bad_word) fun _ _ _ _ _ _ us hl => match us, hl with | [_, _], _ => rfl⟩
  have F25 := fun_mk (st := s__law_same) l25 c25 k25
  have D__law_same : Df K mg "_law_same" s__law_same a__law_same _ P__law_same := ⟨F25, PySem.W.mg_of X G a25, k25, F25.binds (ps := P__law_same) fun _ _ _ _ _ _ us hl => match us, hl with | [_, _], _ => rfl⟩
  have F26 := fun_mk (st := s__law_word_fault) l26 c26 k26
  have D__law_word_fault : Df K mg "_law_word_fault" s__law_word_fault a__law_word_fault _ P__law_word_fault := ⟨F26, PySem.W.mg_of X G a26, k26, F26.binds (ps := P__law_word_fault) fun _ _ _ _ _ _ us hl => match us, hl with | [_, _, _], _ => rfl⟩
  have F27 := fun_mk (st := s__law_weigh) l27 c27 k27
  have D__law_weigh : Df K mg "_law_weigh" s__law_weigh a__law_weigh _ P__law_weigh := ⟨F27, PySem.W.mg_of X G a27, k27, F27.binds (ps := P__law_weigh) fun _ _ _ _ _ _ us hl => match us, hl with | [_, _, _], _ => rfl⟩
  have F28 := fun_mk (st := s__law_order) l28 c28 k28
  have D__law_order : Df K mg "_law_order" s__law_order a__law_order _ P__law_order := ⟨F28, PySem.W.mg_of X G a28, k28, F28.binds (ps := P__law_order) fun _ _ _ _ _ _ us hl => match us, hl with | [_, _, _, _], _ => rfl⟩
  have F29 := fun_mk (st := s__law_sorted) l29 c29 k29
  have D__law_sorted : Df K mg "_law_sorted" s__law_sorted a__law_sorted _ P__law_sorted := ⟨F29, PySem.W.mg_of X G a29, k29, F29.binds (ps := P__law_sorted) fun _ _ _ _ _ _ us hl => match us, hl with | [_, _, _], _ => rfl⟩
  have F30 := fun_mk (st := s__law_is_alphabet) l30 c30 k30
  have D__law_is_alphabet : Df K mg "_law_is_alphabet" s__law_is_alphabet a__law_is_alphabet _ P__law_is_alphabet := ⟨F30, PySem.W.mg_of X G a30, k30, F30.binds (ps := P__law_is_alphabet) fun _ _ _ _ _ _ us hl => match us, hl with | [_], _ => rfl⟩
  have F31 := fun_mk (st := s__law_ask) l31 c31 k31
  have D__law_ask : Df K mg "_law_ask" s__law_ask a__law_ask _ P__law_ask := ⟨F31, PySem.W.mg_of X G a31, k31, F31.binds (ps := P__law_ask) fun _ _ _ _ _ _ us hl => match us, hl with | [_, _, _, _], _ => rfl⟩
  have F32 := fun_mk (st := s__law_due) l32 c32 k32
  have D__law_due : Df K mg "_law_due" s__law_due a__law_due _ P__law_due := ⟨F32, PySem.W.mg_of X G a32, k32, F32.binds (ps := P__law_due) fun _ _ _ _ _ _ us hl => match us, hl with | [_, _, _, _], _ => rfl⟩
  have F33 := fun_mk (st := s__law_near) l33 c33 k33
  have D__law_near : Df K mg "_law_near" s__law_near a__law_near _ P__law_near := ⟨F33, PySem.W.mg_of X G a33, k33, F33.binds (ps := P__law_near) fun _ _ _ _ _ _ us hl => match us, hl with | [_, _, _], _ => rfl⟩
  have F34 := fun_mk (st := s__law_words) l34 c34 k34
  have D__law_words : Df K mg "_law_words" s__law_words a__law_words _ P__law_words := ⟨F34, PySem.W.mg_of X G a34, k34, F34.binds (ps := P__law_words) fun _ _ _ _ _ _ us hl => match us, hl with | [_, _], _ => rfl⟩
  have F35 := fun_mk (st := s__law_all_right) l35 c35 k35
  have D__law_all_right : Df K mg "_law_all_right" s__law_all_right a__law_all_right _ P__law_all_right := ⟨F35, PySem.W.mg_of X G a35, k35, F35.binds (ps := P__law_all_right) fun _ _ _ _ _ _ us hl => match us, hl with | [_, _, _], _ => rfl⟩
  have F36 := fun_mk (st := s__law_large_right) l36 c36 k36
  have D__law_large_right : Df K mg "_law_large_right" s__law_large_right a__law_large_right _ P__law_large_right := ⟨F36, PySem.W.mg_of X G a36, k36, F36.binds (ps := P__law_large_right) fun _ _ _ _ _ _ us hl => match us, hl with | [_, _, _, _], _ => rfl⟩
  have F37 := fun_mk (st := s_law) l37 c37 k37
  have D_law : Df K mg "law" s_law fa _ P_law := ⟨F37, PySem.W.mg_of X G a37, k37, F37.binds (ps := P_law) fun _ _ _ _ _ _ us hl => match us, hl with | [_], _ => rfl⟩
  refine ⟨PySem.W.fnOf "law" "law" (defArgs s_law) (defBody s_law) (defScope s_law) .none kV_law dc_law pm_law an_law cd_law ct_law, fun s v => .of_eq rfl, fun base _ _ => ?_⟩
  have Gi_BadLetters := oki_BadLetters (P := l.prog) (w := w) (mg := mg) (base := base) X_BadLetters (fun f hf => by
    rcases List.mem_cons.mp hf with rfl | hf
    · exact no_BadLetters_text
    cases hf) Di_BadLetters
  have Gi_BadWord := oki_BadWord (P := l.prog) (w := w) (mg := mg) (base := base) X_BadWord (fun f hf => by
    rcases List.mem_cons.mp hf with rfl | hf
    · exact no_BadWord_text
    cases hf) Di_BadWord
  have G_is_alphabet := ok_is_alphabet (P := l.prog) (w := w) (base := base) T D_is_alphabet  
  have G_check_letters := ok_check_letters (P := l.prog) (w := w) (base := base) T D_check_letters D_is_alphabet G_is_alphabet Di_BadLetters Gi_BadLetters
  have G_are_weights := ok_are_weights (P := l.prog) (w := w) (base := base) T D_are_weights  
  have G_check_weights := ok_check_weights (P := l.prog) (w := w) (base := base) T D_check_weights D_are_weights G_are_weights 
  have G_has_letters_only := ok_has_letters_only (P := l.prog) (w := w) (base := base) T D_has_letters_only  
  have G_check_word := ok_check_word (P := l.prog) (w := w) (base := base) T D_check_word D_has_letters_only G_has_letters_only Di_BadWord Gi_BadWord
  have G_order_key := ok_order_key (P := l.prog) (w := w) (base := base) T D_order_key  
  have G_word_weight := ok_word_weight (P := l.prog) (w := w) (base := base) T D_word_weight D_check_letters G_check_letters D_check_weights G_check_weights D_check_word G_check_word D_order_key G_order_key 
  have G_compare_words := ok_compare_words (P := l.prog) (w := w) (base := base) T D_compare_words D_check_letters G_check_letters D_check_weights G_check_weights D_check_word G_check_word D_order_key G_order_key 
  have G_sort_words := ok_sort_words (P := l.prog) (w := w) (base := base) T D_sort_words D_check_letters G_check_letters D_check_weights G_check_weights D_check_word G_check_word D_order_key G_order_key 
  have G__law_draws := ok__law_draws (P := l.prog) (w := w) (base := base) T D__law_draws  
  have G__law_mixed := ok__law_mixed (P := l.prog) (w := w) (base := base) T D__law_mixed  
  have G__law_take := ok__law_take (P := l.prog) (w := w) (base := base) T D__law_take D__law_mixed G__law_mixed 
  have G__law_span := ok__law_span (P := l.prog) (w := w) (base := base) T D__law_span D__law_take G__law_take 
  have G__law_rare := ok__law_rare (P := l.prog) (w := w) (base := base) T D__law_rare D__law_take G__law_take 
  have G__law_pick := ok__law_pick (P := l.prog) (w := w) (base := base) T D__law_pick D__law_take G__law_take 
  have G__law_in_range := ok__law_in_range (P := l.prog) (w := w) (base := base) T D__law_in_range D__law_take G__law_take D__law_pick G__law_pick D__law_span G__law_span 
  have G__law_out_of_range := ok__law_out_of_range (P := l.prog) (w := w) (base := base) T D__law_out_of_range D__law_take G__law_take D__law_pick G__law_pick 
  have G__law_letters := ok__law_letters (P := l.prog) (w := w) (base := base) T D__law_letters D__law_span G__law_span D__law_take G__law_take 
  have G__law_stranger := ok__law_stranger (P := l.prog) (w := w) (base := base) T D__law_stranger D__law_pick G__law_pick 
  have G__law_bad_letters := ok__law_bad_letters (P := l.prog) (w := w) (base := base) T D__law_bad_letters D__law_take G__law_take D__law_letters G__law_letters D__law_pick G__law_pick 
  have G__law_heavy := ok__law_heavy (P := l.prog) (w := w) (base := base) T D__law_heavy D__law_take G__law_take D__law_span G__law_span D__law_in_range G__law_in_range 
  have G__law_bad_heavy := ok__law_bad_heavy (P := l.prog) (w := w) (base := base) T D__law_bad_heavy D__law_heavy G__law_heavy D__law_take G__law_take D__law_in_range G__law_in_range D__law_out_of_range G__law_out_of_range 
  have G__law_word := ok__law_word (P := l.prog) (w := w) (base := base) T D__law_word D__law_in_range G__law_in_range D__law_take G__law_take D__law_pick G__law_pick 
  have G__law_bad_word := ok__law_bad_word (P := l.prog) (w := w) (base := base) T D__law_bad_word D__law_take G__law_take D__law_pick G__law_pick D__law_stranger G__law_stranger 
  have G__law_same := ok__law_same (P := l.prog) (w := w) (base := base) T D__law_same   8
  have G__law_word_fault := ok__law_word_fault (P := l.prog) (w := w) (base := base) T D__law_word_fault  
  have G__law_weigh := ok__law_weigh (P := l.prog) (w := w) (base := base) T D__law_weigh  
  have G__law_order := ok__law_order (P := l.prog) (w := w) (base := base) T D__law_order D__law_weigh G__law_weigh 
  have G__law_sorted := ok__law_sorted (P := l.prog) (w := w) (base := base) T D__law_sorted D__law_order G__law_order 
  have G__law_is_alphabet := ok__law_is_alphabet (P := l.prog) (w := w) (base := base) T D__law_is_alphabet  
  have G__law_ask := ok__law_ask (P := l.prog) (w := w) (base := base) T D__law_ask D_compare_words G_compare_words D_word_weight G_word_weight D_sort_words G_sort_words 
  have G__law_due := ok__law_due (P := l.prog) (w := w) (base := base) T D__law_due D__law_is_alphabet G__law_is_alphabet D__law_word_fault G__law_word_fault D__law_order G__law_order D__law_weigh G__law_weigh D__law_sorted G__law_sorted 
  have G__law_near := ok__law_near (P := l.prog) (w := w) (base := base) T D__law_near D__law_take G__law_take D__law_pick G__law_pick D__law_word G__law_word 
  have G__law_words := ok__law_words (P := l.prog) (w := w) (base := base) T D__law_words D__law_take G__law_take D__law_rare G__law_rare D__law_word G__law_word D__law_pick G__law_pick D__law_near G__law_near 
  have G__law_all_right := ok__law_all_right (P := l.prog) (w := w) (base := base) T D__law_all_right D__law_due G__law_due D__law_ask G__law_ask D__law_same G__law_same 
  have G__law_large_right := ok__law_large_right (P := l.prog) (w := w) (base := base) T D__law_large_right D__law_in_range G__law_in_range D__law_sorted G__law_sorted D__law_same G__law_same D__law_ask G__law_ask D__law_take G__law_take D__law_pick G__law_pick D__law_all_right G__law_all_right 
  have G_law := ok_law (P := l.prog) (w := w) (base := base) T D_law D__law_draws G__law_draws D__law_letters G__law_letters D__law_heavy G__law_heavy D__law_words G__law_words D__law_all_right G__law_all_right D__law_same G__law_same D__law_ask G__law_ask D__law_take G__law_take D__law_bad_letters G__law_bad_letters D__law_bad_heavy G__law_bad_heavy D__law_pick G__law_pick D__law_bad_word G__law_bad_word D__law_rare G__law_rare D__law_large_right G__law_large_right 
  exact G_law
end K00
set_option Elab.async false
set_option linter.all false
set_option maxRecDepth 100000
set_option maxHeartbeats 1000000
namespace K00
open PySem Wf L2
local macro_rules | `(tactic| walk_at "ev") => `(tactic| simp only [e_seq, k_seqN, k_seqR, k_seqB, k_seqC, e_skip, e_brk, e_ct, e_if, k_ifT, k_ifF, e_ifE, k_ifET, k_ifEF, e_op, k_op, e_un, e_B, k_B, e_chain, k_ch1, k_ch2, k_ch3T, k_ch3F, e_not, k_not, e_and, k_andT, k_andF, e_or, k_orT, k_orF, e_andV, k_andVT, k_andVF, e_orV, k_orVT, k_orVF, e_notV, k_notV, e_nil, e_cons, k_cons, k_cons2, e_tup, e_lst, e_lstL, k_tup, k_lst, k_lstL, e_sl, k_sl1, k_sl2, k_sl3, e_noP, e_P, k_P, e_CB, e_BM, k_BM, e_call, k_call, e_callK, k_callK, e_asg, k_asgN, e_sub, k_sub1, k_sub2, k_sub3, e_expr, k_expr, e_ret, k_ret, b_for, e_for, k_for, e_while, e_it, k_itL, k_itT, k_itW, k_itS, e_rng1, e_rng2, k_rng1, k_rng2, k_lcTT, k_lcTF, k_lcE, e_lcF, e_yes, e_lc, e_lcL, k_lc1, k_lc2, k_done, k_doneL, e_frz, k_frz, k_frzL, e_C, e_V0, e_V1, e_V2, e_V3, e_V4, e_V5, e_V6, e_V7, e_V8, e_V9,
  o_addI, o_addS, o_addL, o_sub, o_mulI, o_mulS, o_mod, o_fdiv, o_pow, o_neg, o_ltI, o_ltS, o_leI, o_leS, o_gt, o_ge, o_eqI, o_eqS, o_eqB, o_neI, o_neS, o_isN, o_notN, o_slS, o_slL, o_lenS, o_lenL, o_lenT, o_int, o_abs, o_min, o_max, o_list, o_find3, t_str,
  R.bind_ok, Ok_ok, Ok_bind, Ok_note, Ok_calm, env0, List.length_cons, List.length_nil, List.map_cons, List.map_nil, List.replicate, List.cons_append, List.nil_append, List.set_cons_zero, List.set_cons_succ, Nat.reduceAdd, Nat.reduceSub, Nat.reduceLeDiff, Nat.reduceLT, Nat.zero_add, sz, wipeD, Bool.not_true, Bool.not_false, decide_true, decide_false, true_and, and_true, if_true, if_false, isNon, f_int, f_bl, f_str, f_non, f_nx, f_new, take_self, n_ok, c_ok, f_new0, take_lft, len_one, n_cons, n_nil, n_str, n_int, n_bl, n_lst, n_tup, of_empty, pick01, pick10, len_empty, s_setA1, Bool.and_self, Bool.true_and, Bool.and_true, len_app, t_last1, o_appendA1, o_lenA1, f_new1, k_frz1, t_last2, o_appendA2, o_lenA2, f_new2, k_frz2, k_frzS, k_frzI, k_frzT, List.length_map, ne_eq, not_false_eq_true, List.take_succ_cons, List.take_length, st_get0, st_get1, st_sub1, st_get2, st_sub2, st_get3, st_sub3, st_get4, st_sub4, st_get5, st_sub5, i_non_bool, i_non_int, i_non_str, i_non_tuple, i_non_list, i_bl_bool, i_bl_int, i_bl_str, i_bl_tuple, i_bl_list, i_int_bool, i_int_int, i_int_str, i_int_tuple, i_int_list, i_str_bool, i_str_int, i_str_str, i_str_tuple, i_str_list, i_lst_bool, i_lst_int, i_lst_str, i_lst_tuple, i_lst_list, i_tup_bool, i_tup_int, i_tup_str, i_tup_tuple, i_tup_list, t_last, o_appendA, o_lenA, Ok_finB, Ok_finF, Ok_finW, Int.toNat_natCast, e_lenSet, o_all, o_any, o_sum, o_find, e_rev, k_revL, e_raise0, e_raiseO, k_raiseO, f_err, List.reverse_cons, List.reverse_nil, b_err, n_err, Ok_finE, n_ins, e_tryAs, k_tryOk, e_suite, k_wipeR, k_wipeN, o_isx, k_isx, e_xf, e_frzT, Bool.or_self, Bool.true_or, Bool.or_true, Bool.false_or, Bool.or_false, Bool.false_and, Bool.and_false])
local macro_rules | `(tactic| walk_at "eva") => `(tactic| simp only [e_seq, k_seqN, k_seqR, k_seqB, k_seqC, e_skip, e_brk, e_ct, e_if, k_ifT, k_ifF, e_ifE, k_ifET, k_ifEF, e_op, k_op, e_un, e_B, k_B, e_chain, k_ch1, k_ch2, k_ch3T, k_ch3F, e_not, k_not, e_and, k_andT, k_andF, e_or, k_orT, k_orF, e_andV, k_andVT, k_andVF, e_orV, k_orVT, k_orVF, e_notV, k_notV, e_nil, e_cons, k_cons, k_cons2, e_tup, e_lst, e_lstL, k_tup, k_lst, k_lstL, e_sl, k_sl1, k_sl2, k_sl3, e_noP, e_P, k_P, e_CB, e_BM, k_BM, e_call, k_call, e_callK, k_callK, e_asg, k_asgN, e_sub, k_sub1, k_sub2, k_sub3, e_expr, k_expr, e_ret, k_ret, b_for, e_for, k_for, e_while, e_it, k_itL, k_itT, k_itW, k_itS, e_rng1, e_rng2, k_rng1, k_rng2, k_lcTT, k_lcTF, k_lcE, e_lcF, e_yes, e_lc, e_lcL, k_lc1, k_lc2, k_done, k_doneL, e_frz, k_frz, k_frzL, e_C, e_V0, e_V1, e_V2, e_V3, e_V4, e_V5, e_V6, e_V7, e_V8, e_V9,
  o_addI, o_addS, o_addL, o_sub, o_mulI, o_mulS, o_mod, o_fdiv, o_pow, o_neg, o_ltI, o_ltS, o_leI, o_leS, o_gt, o_ge, o_eqI, o_eqS, o_eqB, o_neI, o_neS, o_isN, o_notN, o_slS, o_slL, o_lenS, o_lenL, o_lenT, o_int, o_abs, o_min, o_max, o_list, o_find3, t_str,
  R.bind_ok, Ok_ok, Ok_bind, Ok_note, Ok_calm, env0, List.length_cons, List.length_nil, List.map_cons, List.map_nil, List.replicate, List.cons_append, List.nil_append, List.set_cons_zero, List.set_cons_succ, Nat.reduceAdd, Nat.reduceSub, Nat.reduceLeDiff, Nat.reduceLT, Nat.zero_add, sz, wipeD, Bool.not_true, Bool.not_false, decide_true, decide_false, true_and, and_true, if_true, if_false, isNon, f_int, f_bl, f_str, f_non, f_nx, f_new, take_self, n_ok, c_ok, f_new0, take_lft, len_one, n_cons, n_nil, n_str, n_int, n_bl, n_lst, n_tup, of_empty, pick01, pick10, len_empty, s_setA1, Bool.and_self, Bool.true_and, Bool.and_true, len_app, t_last1, o_appendA1, o_lenA1, f_new1, k_frz1, t_last2, o_appendA2, o_lenA2, f_new2, k_frz2, k_frzS, k_frzI, k_frzT, List.length_map, ne_eq, not_false_eq_true, List.take_succ_cons, List.take_length, st_get0, st_get1, st_sub1, st_get2, st_sub2, st_get3, st_sub3, st_get4, st_sub4, st_get5, st_sub5, i_non_bool, i_non_int, i_non_str, i_non_tuple, i_non_list, i_bl_bool, i_bl_int, i_bl_str, i_bl_tuple, i_bl_list, i_int_bool, i_int_int, i_int_str, i_int_tuple, i_int_list, i_str_bool, i_str_int, i_str_str, i_str_tuple, i_str_list, i_lst_bool, i_lst_int, i_lst_str, i_lst_tuple, i_lst_list, i_tup_bool, i_tup_int, i_tup_str, i_tup_tuple, i_tup_list, t_last, o_appendA, o_lenA, Ok_finB, Ok_finF, Ok_finW, Int.toNat_natCast, e_lenSet, o_all, o_any, o_sum, o_find, e_rev, k_revL, e_raise0, e_raiseO, k_raiseO, f_err, List.reverse_cons, List.reverse_nil, b_err, n_err, Ok_finE, n_ins, e_tryAs, k_tryOk, e_suite, k_wipeR, k_wipeN, o_isx, k_isx, e_xf, e_frzT, Bool.or_self, Bool.true_or, Bool.or_true, Bool.false_or, Bool.or_false, Bool.false_and, Bool.and_false, *])
theorem same_items {n : Nat} {told due : D} {l : List D} {cs : List D} {o : Option D} (h2 : l.length < 16777216) (ht : ∀ k d, l[k]? = some d → ixD told (.int (k : Nat)) cs = .ok d cs) (hd : ∀ k d, l[k]? = some d → ixD due (.int (k : Nat)) cs = .ok d cs)
    (ih : ∀ d ∈ l, f__law_same n [d, d] cs = .ok (.bl true) cs) (P : Fl → List D → Prop) (hP : ∀ o, P (.nx [some told, some due, o]) cs) :
    Ok (forR (bFor (gtN 2) (mIf (mNot (mB (mCall (f__law_same n) (mCons (mOp ixD (mV 0) (mV 2)) (mCons (mOp ixD (mV 1) (mV 2)) mNil))))) (mRet (mC (.bl false))) mSkip)) (rng 0 l.length) [some told, some due, o] cs) P := by
  refine Ok_for (fun ds r cs' => ∃ (k : Nat) (o : Option D), r = [some told, some due, o] ∧ cs' = cs ∧ k + ds.length = l.length ∧ ds = (List.range' k ds.length).map fun k => D.int (k : Nat)) ?_ ?_ _ _ _ ⟨0, o, rfl, rfl, by simp [rng], ?_⟩
  · rintro r cs' ⟨k, o, rfl, rfl, h3, h4⟩
    exact hP o
  · rintro d ds r cs' ⟨k, o, rfl, rfl, h3, h4⟩
    rw [List.length_cons] at h3 h4
    rw [List.range'_succ, List.map_cons] at h4
    obtain ⟨e1, e2⟩ := List.cons.inj h4
    subst e1
    obtain ⟨x, hx⟩ : ∃ x, l[k]? = some x := ⟨l[k]'(by omega), List.getElem?_eq_getElem (by omega)⟩
    have h5 := ht k x hx
    have h6 := hd k x hx
    have h7 := ih x (List.mem_of_getElem? hx)
    clear h4 ih ht hd hP
    revert e2
    walk_at "eva"
    intro e2
    refine ⟨k + 1, _, rfl, by omega, e2⟩
  · unfold rng
    rw [List.length_map, List.length_range, List.range_eq_range']
    simp
theorem same_eq : ∀ (n : Nat) (d : D) (cs : List D), deep n d → f__law_same n [d, d] cs = .ok (.bl true) cs
  | 0, d, cs, h => h.elim
  | n + 1, d, cs, h => by
    suffices hh : Ok (f__law_same (n + 1) [d, d] cs) (fun d cs' => d = .bl true ∧ cs' = cs) by
      obtain ⟨d, cs', e, h1, h2⟩ := Ok_get hh
      rw [e, h1, h2]
    unfold f__law_same mDef m__law_same
    cases d with
    | non => walk_at "ev"
    | bl b => walk_at "ev"
    | int i => walk_at "ev"
    | str z => walk_at "ev"
    | lst l =>
      obtain ⟨h2, h3⟩ := h
      have h5 : -1000000000 ≤ ((l.length : Int)) ∧ ((l.length : Int)) < 1000000000 := by omega
      walk_at "eva"
      refine same_items h2 (fun k d hk => o_ixL (Wf.atI_nat hk)) (fun k d hk => o_ixL (Wf.atI_nat hk)) (fun d hd => same_eq n d cs (h3 d hd)) _ fun o => ?_
      walk_at "ev"
    | tup l =>
      obtain ⟨h2, h3⟩ := h
      have h5 : -1000000000 ≤ ((l.length : Int)) ∧ ((l.length : Int)) < 1000000000 := by omega
      walk_at "eva"
      refine same_items h2 (fun k d hk => o_ixT (Wf.atI_nat hk)) (fun k d hk => o_ixT (Wf.atI_nat hk)) (fun d hd => same_eq n d cs (h3 d hd)) _ fun o => ?_
      walk_at "ev"
    | _ => exact h.elim
theorem same_ref (n : Nat) (l : List D) (cs : List D) (i : Nat) (hi : cs[i]? = some (.lst l)) (h : deep (n + 1) (.lst l)) : f__law_same (n + 1) [.ref i, .lst l] cs = .ok (.bl true) cs := by
  suffices hh : Ok (f__law_same (n + 1) [.ref i, .lst l] cs) (fun d cs' => d = .bl true ∧ cs' = cs) by
    obtain ⟨d, cs', e, h1, h2⟩ := Ok_get hh
    rw [e, h1, h2]
  unfold f__law_same mDef m__law_same
  obtain ⟨h2, h3⟩ := h
  have h5 : -1000000000 ≤ ((l.length : Int)) ∧ ((l.length : Int)) < 1000000000 := by omega
  have h6 := o_lenR hi
  have h7 := i_ref_list hi
  walk_at "eva"
  refine same_items h2 (fun k d hk => o_ixR hi (Wf.atI_nat hk)) (fun k d hk => o_ixL (Wf.atI_nat hk)) (fun d hd => same_eq n d cs (h3 d hd)) _ fun o => ?_
  walk_at "ev"
theorem mixed_ok (a b : Int) (cs : List D) : ∃ v, f__law_mixed [.int a, .int b] cs = .ok (.int v) cs ∧ 0 ≤ v := by
  unfold f__law_mixed mDef m__law_mixed
  have h1 : mulI a 48271 := mulI_r (by decide)
  have h2 : mulI b 69621 := mulI_r (by decide)
  have h3 : mulI b 40014 := mulI_r (by decide)
  have n1 : (2147483647 : Int) ≠ 0 := by decide
  have n2 : (2147483399 : Int) ≠ 0 := by decide
  have n3 : (2147483629 : Int) ≠ 0 := by decide
  obtain ⟨p1, p2⟩ := fmod_in (i := a * 48271 + b * 69621 + 11) (j := 2147483647) (by decide)
  generalize e1 : (a * 48271 + b * 69621 + 11).fmod 2147483647 = x at p1 p2
  have h4 : mulI x x := mulI_r (by omega)
  obtain ⟨q1, q2⟩ := fmod_in (i := x * x + b * 40014 + 7) (j := 2147483399) (by decide)
  generalize e2 : (x * x + b * 40014 + 7).fmod 2147483399 = y at q1 q2
  have h5 : mulI y y := mulI_r (by omega)
  refine ⟨(y * y + x).fmod 2147483629, ?_, (fmod_in (by decide)).1⟩
  walk_at "eva"
noncomputable def takeTail : MS := (mSeq (mIf (mB (mOp gtD (mOp ixD (mV 0) (mC (.int 2))) (mC (.int 0)))) (mSeq (mAsg (gtN 3) (mOp modD (mCB intD (mCons (mOp ixD (mV 0) (mC (.int 2))) mNil)) (mV 1)))
  (mSeq (mSub setD (mOp fdivD (mOp ixD (mV 0) (mC (.int 2))) (mV 1)) (mV 0) (mC (.int 2)))
  (mRet (mV 3)))) mSkip)
  (mSeq (mIf (mB (mOp gtD (mOp ixD (mV 0) (mC (.int 3))) (mC (.int 0)))) (mSub setD (mOp subD (mOp ixD (mV 0) (mC (.int 3))) (mC (.int 1))) (mV 0) (mC (.int 3))) mSkip)
  (mSeq (mSub setD (mOp addD (mOp ixD (mV 0) (mC (.int 5))) (mC (.int 1))) (mV 0) (mC (.int 5)))
  (mRet (mOp modD (mCB intD (mCons (mCall f__law_mixed (mCons (mOp ixD (mV 0) (mC (.int 4))) (mCons (mOp ixD (mV 0) (mC (.int 5))) mNil))) mNil)) (mV 1))))))
theorem tail_ok {ns : List Int} {p : Nat} {a b sd t size : Int} {o : Option D} {rest : List D} (hp : p ≤ ns.length) (hn : ns.length ≤ 1000) (ha : 0 ≤ a) (h2 : ¬ size < 2) (hs : size < 1073741824) :
    ∃ v c', takeTail [some (.ref 0), some (.int size), o, none] (.lst [.lst (ns.map .int), .int p, .int a, .int b, .int sd, .int t] :: rest) = .ok (.ret (.int v)) (c' :: rest) ∧ StOk c' ∧ 0 ≤ v ∧ v < size := by
  have hz : size ≠ 0 := by omega
  have hzd : size ≠ 0 ∧ size.natAbs < 1073741824 := by omega
  unfold takeTail
  by_cases h3 : 0 < a
  · have e2 : decide (0 < a) = true := decide_eq_true h3
    refine ⟨a.fmod size, _, ?_, ⟨ns, p, a.fdiv size, b, sd, t, rfl, hp, hn, fdiv_nn ha (by omega)⟩, (fmod_in (by omega)).1, (fmod_in (by omega)).2⟩
    walk_at "eva"
  · have e2 : decide (0 < a) = false := decide_eq_false h3
    obtain ⟨m, hm, hm0⟩ := mixed_ok sd (t + 1) (.lst [.lst (ns.map .int), .int p, .int a, .int (if 0 < b then b - 1 else b), .int sd, .int (t + 1)] :: rest)
    refine ⟨m.fmod size, _, ?_, ⟨ns, p, a, if 0 < b then b - 1 else b, sd, t + 1, rfl, hp, hn, ha⟩, (fmod_in (by omega)).1, (fmod_in (by omega)).2⟩
    by_cases h4 : 0 < b
    · have e3 : decide (0 < b) = true := decide_eq_true h4
      rw [if_pos h4] at hm ⊢
      walk_at "eva"
    · have e3 : decide (0 < b) = false := decide_eq_false h4
      rw [if_neg h4] at hm ⊢
      walk_at "eva"
theorem take_ok (c : D) (hc : StOk c) (rest : List D) (size : Int) (hs : size < 1073741824) :
    ∃ v c', f__law_take [.ref 0, .int size] (c :: rest) = .ok (.int v) (c' :: rest) ∧ StOk c' ∧ 0 ≤ v ∧ (2 ≤ size → v < size) ∧ (size < 2 → v = 0) := by
  obtain ⟨ns, p, a, b, sd, t, rfl, hp, hn, ha⟩ := hc
  by_cases h2 : size < 2
  · refine ⟨0, _, ?_, ⟨ns, p, a, b, sd, t, rfl, hp, hn, ha⟩, by omega, by omega, fun _ => rfl⟩
    have e1 : decide (size < 2) = true := decide_eq_true h2
    unfold f__law_take mDef m__law_take
    walk_at "eva"
  · have e1 : decide (size < 2) = false := decide_eq_false h2
    have hm : f__law_take = mDef 2 4 (mSeq (mIf (mB (mOp ltD (mV 1) (mC (.int 2)))) (mRet (mC (.int 0))) mSkip)
  (mSeq (mIf (mAnd (mB (mOp eqD (mOp ixD (mV 0) (mC (.int 2))) (mC (.int 0)))) (mAnd (mB (mOp eqD (mOp ixD (mV 0) (mC (.int 3))) (mC (.int 0)))) (mB (mOp ltD (mOp ixD (mV 0) (mC (.int 1))) (mCB lenD (mCons (mOp ixD (mV 0) (mC (.int 0))) mNil)))))) (mSeq (mAsg (gtN 2) (mOp ixD (mOp ixD (mV 0) (mC (.int 0))) (mOp ixD (mV 0) (mC (.int 1)))))
  (mSeq (mSub setD (mOp addD (mOp ixD (mV 0) (mC (.int 1))) (mC (.int 1))) (mV 0) (mC (.int 1)))
  (mSeq (mSub setD (mOp modD (mCB intD (mCons (mOp addD (mOp mulD (mOp ixD (mV 0) (mC (.int 4))) (mC (.int 16807))) (mV 2)) mNil)) (mC (.int 2147483647))) (mV 0) (mC (.int 4)))
  (mIf (mOr (mB (mOp geD (mV 2) (mOp powD (mC (.int 10)) (mC (.int 18))))) (mB (mOp geD (mUn negD (mV 2)) (mOp powD (mC (.int 10)) (mC (.int 18)))))) (mSub setD (mCB absD (mCons (mV 2) mNil)) (mV 0) (mC (.int 2))) (mSub setD (mC (.int 3)) (mV 0) (mC (.int 3))))))) mSkip)
  takeTail)) := rfl
    have fin : ∀ (p : Nat) (a b sd : Int) (o : Option D), p ≤ ns.length → 0 ≤ a → ∃ v c', finR (rest.length + 1) (takeTail [some (.ref 0), some (.int size), o, none] (.lst [.lst (ns.map .int), .int p, .int a, .int b, .int sd, .int t] :: rest)) = .ok (.int v) (c' :: rest) ∧ StOk c' ∧ 0 ≤ v ∧ (2 ≤ size → v < size) ∧ (size < 2 → v = 0) := by
      intro p a b sd o hp ha
      obtain ⟨v, c', e, h3, h4, h5⟩ := tail_ok (b := b) (sd := sd) (t := t) (o := o) (rest := rest) hp hn ha h2 hs
      refine ⟨v, c', ?_, h3, h4, fun _ => h5, fun h => absurd h h2⟩
      rw [e]
      walk_at "ev"
    rw [hm]
    unfold mDef
    by_cases h3 : a = 0
    · subst h3
      by_cases h4 : b = 0
      · subst h4
        have z0 : decide ((0 : Int) = 0) = true := by decide
        by_cases h5 : p < ns.length
        · have e4 : decide ((p : Int) < (ns.length : Int)) = true := decide_eq_true (by omega)
          obtain ⟨x, hx⟩ : ∃ x, ns[p]? = some x := ⟨ns[p], List.getElem?_eq_getElem h5⟩
          have e5 : atI (ns.map D.int) (p : Int) = some (.int x) := Wf.atI_nat (by rw [List.getElem?_map, hx]; rfl)
          have e6 := o_ixL (cs := .lst [.lst (ns.map .int), .int p, .int 0, .int 0, .int sd, .int t] :: rest) e5
          have e7 : mulI sd 16807 := mulI_r (by decide)
          have n1 : (2147483647 : Int) ≠ 0 := by decide
          have pw := o_pow (i := 10) (j := 18) (cs := .lst [.lst (ns.map .int), .int ((p + 1 : Nat) : Int), .int 0, .int 0, .int ((sd * 16807 + x).fmod 2147483647), .int t] :: rest) (by decide)
          have pw2 : (10 : Int) ^ (18 : Int).toNat = 1000000000000000000 := by decide +kernel
          rw [pw2] at pw
          have e8 : (p : Int) + 1 = ((p + 1 : Nat) : Int) := by omega
          by_cases h6 : 1000000000000000000 ≤ x ∨ 1000000000000000000 ≤ -x
          · have f2 := fin (p + 1) (if x < 0 then -x else x) 0 ((sd * 16807 + x).fmod 2147483647) (some (.int x)) h5 (by split <;> omega)
            by_cases h7 : 1000000000000000000 ≤ x
            · have e9 : decide (1000000000000000000 ≤ x) = true := decide_eq_true h7
              clear h6
              revert f2
              walk_at "eva"
              exact fun h => h
            · have e9 : decide (1000000000000000000 ≤ x) = false := decide_eq_false h7
              have e10 : decide (1000000000000000000 ≤ -x) = true := decide_eq_true (by omega)
              clear h6
              revert f2
              walk_at "eva"
              exact fun h => h
          · have f2 := fin (p + 1) 0 3 ((sd * 16807 + x).fmod 2147483647) (some (.int x)) h5 (by decide)
            have e9 : decide (1000000000000000000 ≤ x) = false := decide_eq_false (by omega)
            have e10 : decide (1000000000000000000 ≤ -x) = false := decide_eq_false (by omega)
            clear h6
            revert f2
            walk_at "eva"
            exact fun h => h
        · have e4 : decide ((p : Int) < (ns.length : Int)) = false := decide_eq_false (by omega)
          have f2 := fin p 0 0 sd none hp (by decide)
          revert f2
          walk_at "eva"
          exact fun h => h
      · have e3 : decide (b = 0) = false := decide_eq_false h4
        have z0 : decide ((0 : Int) = 0) = true := by decide
        have f2 := fin p 0 b sd none hp (by decide)
        revert f2
        walk_at "eva"
        exact fun h => h
    · have e2 : decide (a = 0) = false := decide_eq_false h3
      have f2 := fin p a b sd none hp ha
      revert f2
      walk_at "eva"
      exact fun h => h
theorem span_ok (c : D) (hc : StOk c) (rest : List D) (lo hi : Int) (h : lo ≤ hi) (hs : hi - lo < 1000000000) :
    ∃ v c', f__law_span [.ref 0, .int lo, .int hi] (c :: rest) = .ok (.int v) (c' :: rest) ∧ StOk c' ∧ lo ≤ v ∧ v ≤ hi := by
  obtain ⟨v, c', e, h1, h2, h3, h4⟩ := take_ok c hc rest (hi - lo + 1) (by omega)
  refine ⟨lo + v, c', ?_, h1, by omega, ?_⟩
  · unfold f__law_span mDef m__law_span
    walk_at "eva"
  · by_cases h5 : hi - lo + 1 < 2
    · have := h4 h5
      omega
    · have := h3 (by omega)
      omega
theorem rare_ok (c : D) (hc : StOk c) (rest : List D) (size : Int) (hs : size < 1000000000) :
    ∃ b c', f__law_rare [.ref 0, .int size] (c :: rest) = .ok (.bl b) (c' :: rest) ∧ StOk c' := by
  obtain ⟨v, c', e, h1, h2, h3, h4⟩ := take_ok c hc rest size (by omega)
  refine ⟨decide (v = size - 1), c', ?_, h1⟩
  unfold f__law_rare mDef m__law_rare
  walk_at "eva"
theorem pick_l (c : D) (hc : StOk c) (rest : List D) (l : List D) (h : l ≠ []) (hl : l.length < 1000000000) (hn : nrs l = true) :
    ∃ d c', f__law_pick [.ref 0, .lst l] (c :: rest) = .ok d (c' :: rest) ∧ StOk c' ∧ d ∈ l := by
  obtain ⟨v, c', e, h1, h2, h3, h4⟩ := take_ok c hc rest (l.length : Int) (by omega)
  have hp : 0 < l.length := List.length_pos_iff.mpr h
  have hv : v.toNat < l.length := by
    by_cases h5 : (l.length : Int) < 2
    · have := h4 h5
      omega
    · have := h3 (by omega)
      omega
  obtain ⟨n, rfl⟩ : ∃ n : Nat, v = (n : Int) := ⟨v.toNat, by omega⟩
  rw [Int.toNat_natCast] at hv
  have e2 : atI l (n : Int) = some l[n] := Wf.atI_nat (List.getElem?_eq_getElem hv)
  have e3 := o_ixL (cs := c' :: rest) e2
  have hd : nr l[n] = true := by
    rw [nrs_all, List.all_eq_true] at hn
    exact hn _ (List.getElem_mem hv)
  refine ⟨l[n], c', ?_, h1, List.getElem_mem hv⟩
  unfold f__law_pick mDef m__law_pick
  walk_at "eva"
  rw [f_nr hd]
  walk_at "ev"
theorem pick_s (c : D) (hc : StOk c) (rest : List D) (z : Str) (h : 0 < z.length) (hl : z.length ≤ 16777216) :
    ∃ y c', f__law_pick [.ref 0, .str z] (c :: rest) = .ok (.str y) (c' :: rest) ∧ StOk c' ∧ y.length = 1 := by
  obtain ⟨v, c', e, h1, h2, h3, h4⟩ := take_ok c hc rest (z.length : Int) (by omega)
  have hv : v.toNat < z.cps.toList.length := by
    have := str_len z
    by_cases h5 : (z.length : Int) < 2
    · have := h4 h5
      omega
    · have := h3 (by omega)
      omega
  obtain ⟨n, rfl⟩ : ∃ n : Nat, v = (n : Int) := ⟨v.toNat, by omega⟩
  rw [Int.toNat_natCast] at hv
  have e2 : atI z.cps.toList (n : Int) = some z.cps.toList[n] := Wf.atI_nat (List.getElem?_eq_getElem hv)
  have e3 := o_ixS (cs := c' :: rest) hl e2
  refine ⟨⟨#[z.cps.toList[n]]⟩, c', ?_, h1, rfl⟩
  unfold f__law_pick mDef m__law_pick
  walk_at "eva"
theorem in_range_ok (c : D) (hc : StOk c) (rest : List D) (lo hi : Int) (h : lo ≤ hi) (hs : hi - lo < 1000000000) :
    ∃ v c', f__law_in_range [.ref 0, .int lo, .int hi] (c :: rest) = .ok (.int v) (c' :: rest) ∧ StOk c' ∧ lo ≤ v ∧ v ≤ hi := by
  obtain ⟨v, c1, e, h1, h2, h3, h4⟩ := take_ok c hc rest 3 (by decide)
  by_cases h5 : v = 2
  · obtain ⟨d, c2, e2, h6, h7⟩ := pick_l c1 h1 rest [.int lo, .int hi] (by simp) (by simp) (by rfl)
    have e3 : decide (v = 2) = true := decide_eq_true h5
    have : ∃ x, d = .int x ∧ lo ≤ x ∧ x ≤ hi := by
      simp at h7
      rcases h7 with h7 | h7
      · exact ⟨lo, h7, by omega, h⟩
      · exact ⟨hi, h7, h, by omega⟩
    obtain ⟨x, rfl, hx⟩ := this
    refine ⟨x, c2, ?_, h6, hx⟩
    unfold f__law_in_range mDef m__law_in_range
    walk_at "eva"
  · obtain ⟨x, c2, e2, h6, h7⟩ := span_ok c1 h1 rest lo hi h hs
    have e3 : decide (v = 2) = false := decide_eq_false h5
    refine ⟨x, c2, ?_, h6, h7⟩
    unfold f__law_in_range mDef m__law_in_range
    walk_at "eva"
theorem letters {i : Nat} {env : Wf.Env} {z : Str} {rest : List D} (hz : 0 < z.length) (hz2 : z.length ≤ 16777216) (h0 : ∀ d, (env.set i (some d))[0]? = some (some (.ref 0))) (h1 : ∀ d, (env.set i (some d))[1]? = some (some (.str z))) (n : Nat) (hn : n < 100000) (c : D) (hc : StOk c) :
    ∃ ss c', mapR (lcF (gtN i) mYes (mCall f__law_pick (mCons (mV 0) (mCons (mV 1) mNil))) env) (rng 0 n) (c :: rest) = .ok (ss.map D.str) (c' :: rest) ∧ StOk c' ∧ ss.length < 16777216 ∧ (Txt.join Str.empty ss).length = n ∧
      joinD (.str Str.empty) [.lst (ss.map D.str)] (c' :: rest) = .ok (.str (Txt.join Str.empty ss)) (c' :: rest) := by
  obtain ⟨ys, c', e, h2, h3, h4⟩ := map_draws (f := lcF (gtN i) mYes (mCall f__law_pick (mCons (mV 0) (mCons (mV 1) mNil))) env) (rest := rest) (fun d => ∃ y, d = .str y ∧ y.length = 1) (ds := rng 0 n) (fun d _ c hc => by
    obtain ⟨y, c', e, h5, h6⟩ := pick_s c hc rest z hz hz2
    refine ⟨.str y, c', ?_, h5, y, rfl, h6⟩
    have e0 := e_V (cs := c :: rest) (h0 d)
    have e1 := e_V (cs := c :: rest) (h1 d)
    clear h0 h1
    walk_at "eva") c hc
  obtain ⟨ss, rfl, hs⟩ := strs_of (fun z => z.length = 1) h4
  have hl : ss.length = n := by
    rw [List.length_map] at h3
    rw [h3]
    unfold rng
    simp
  have hj : (Txt.join Str.empty ss).length = n := by rw [join_len, sum_ones hs, hl]
  refine ⟨ss, c', e, h2, by omega, hj, o_join ?_⟩
  rw [sum_ones hs, len_empty]
  omega
theorem draws_ok (ns : List Int) (h : ns.length ≤ 63) : ∃ c, f__law_draws [.wl ns] [] = .ok (.ref 0) [c] ∧ StOk c := by
  refine ⟨.lst [.lst (ns.map .int), .int (0 : Nat), .int 0, .int 0, .int 1, .int 0], ?_, ns, 0, 0, 0, 1, 0, rfl, Nat.zero_le _, by omega, Int.le_refl _⟩
  have hm : mapR (lcF (gtN 1) mYes (mCB intD (mCons (mV 1) mNil)) [some (.wl ns), none]) (ns.map D.int) [] = .ok ((ns.map D.int).map id) [] := map_pure fun d hd => by
    obtain ⟨i, _, rfl⟩ := List.mem_map.mp hd
    walk_at "ev"
    rfl
  rw [List.map_id] at hm
  have hl : ns.length < 16777216 := by omega
  have hn : nrs (ns.map D.int) = true := nrs_map fun _ => rfl
  unfold f__law_draws mDef m__law_draws
  walk_at "eva"
  rfl
/-! ### the program's own functions -/
abbrev L (z : Str) : List Nat := z.cps.toList
def lowB (c : Nat) : Bool := decide (97 ≤ c) && decide (c ≤ 122)
def alphaB (z : Str) : Bool := (decide (1 ≤ z.length) && decide (z.length ≤ 6)) && (decide (L z).Nodup && (L z).all lowB)
def wB (z : Str) (hs : List Int) : Bool := decide (hs.length = z.length) && hs.all fun x => decide (1 ≤ x) && decide (x ≤ 99)
def lettersB (z w : Str) : Bool := (L w).all fun c => decide (c ∈ L z)
theorem sgl_lt (a b : Nat) : (([a] : List Nat) < [b]) ↔ a < b := by
  rw [List.cons_lt_cons_iff]
  constructor
  · rintro (h | ⟨_, h⟩)
    · exact h
    · exact absurd h (List.lt_irrefl _)
  · exact fun h => .inl h
theorem le_a (c : Nat) : (!decide ((sgn c).cps.toList < (Str.ofString "a").cps.toList)) = decide (97 ≤ c) := by
  rw [show (Str.ofString "a").cps.toList = [97] by decide +kernel]
  show (!decide (([c] : List Nat) < [97])) = _
  rw [decide_eq_decide.mpr (sgl_lt c 97)]
  by_cases h : c < 97
  · rw [decide_eq_true h, decide_eq_false (by omega)]
    rfl
  · rw [decide_eq_false h, decide_eq_true (by omega)]
    rfl
theorem le_z (c : Nat) : (!decide ((Str.ofString "z").cps.toList < (sgn c).cps.toList)) = decide (c ≤ 122) := by
  rw [show (Str.ofString "z").cps.toList = [122] by decide +kernel]
  show (!decide (([122] : List Nat) < [c])) = _
  rw [decide_eq_decide.mpr (sgl_lt 122 c)]
  by_cases h : 122 < c
  · rw [decide_eq_true h, decide_eq_false (by omega)]
    rfl
  · rw [decide_eq_false h, decide_eq_true (by omega)]
    rfl
theorem map_bl {α : Type} (l : List α) (p : α → Bool) : (l.map fun a => D.bl (p a)) = (l.map p).map D.bl := by
  rw [List.map_map]
  rfl
theorem all_map {α : Type} (l : List α) (p : α → Bool) : (l.map p).all id = l.all p := by
  rw [List.all_map]
  rfl
theorem is_alphabet_eq (z : Str) (cs : List D) (hz : z.length ≤ 10000) : f_is_alphabet [.str z] cs = .ok (.bl (alphaB z)) cs := by
  have h2 : z.length ≤ 16777216 := by omega
  unfold f_is_alphabet mDef m_is_alphabet
  by_cases h1 : (1 : Int) ≤ (z.length : Int)
  · have e1 : decide ((1 : Int) ≤ (z.length : Int)) = true := decide_eq_true h1
    by_cases h3 : (z.length : Int) ≤ 6
    · have e3 : decide ((z.length : Int) ≤ 6) = true := decide_eq_true h3
      have h4 : z.length ≤ 1000 := by omega
      have e4 := k_lenSet (cs := cs) h4
      have e6 : decide ((((metC (L z)).length : Nat) : Int) = (z.length : Int)) = decide (L z).Nodup := by
        rw [← metC_all]
        have : z.length = (L z).length := str_len z
        rw [decide_eq_decide]
        omega
      have ea : alphaB z = (decide (L z).Nodup && (L z).all lowB) := by
        unfold alphaB
        rw [decide_eq_true (show 1 ≤ z.length by omega), decide_eq_true (show z.length ≤ 6 by omega)]
        rfl
      by_cases h5 : (L z).Nodup
      · have e5 : decide (L z).Nodup = true := decide_eq_true h5
        rw [e5] at e6
        walk_at "eva"
        rw [chrs_eq, map_pureT (g := fun c => D.bl (lowB c))]
        · have l1 : ((L z).map fun c => D.bl (lowB c)).length < 16777216 := by
            rw [List.length_map]
            have : z.length = (L z).length := str_len z
            omega
          have q := k_lc2 (k := kDone) (cs := cs) l1
          walk_at "eva"
          rw [map_bl, o_all, all_map]
          walk_at "ev"
        · intro c _
          have q1 := le_a c
          have q2 := le_z c
          unfold lowB
          by_cases h7 : 97 ≤ c
          · rw [decide_eq_true h7] at q1
            walk_at "eva"
          · rw [decide_eq_false h7] at q1
            walk_at "eva"
      · have e5 : decide (L z).Nodup = false := decide_eq_false h5
        rw [e5] at e6
        walk_at "eva"
    · have e3 : decide ((z.length : Int) ≤ 6) = false := decide_eq_false h3
      have ea : alphaB z = false := by
        unfold alphaB
        rw [decide_eq_false (show ¬ z.length ≤ 6 by omega)]
        simp
      walk_at "eva"
  · have e1 : decide ((1 : Int) ≤ (z.length : Int)) = false := decide_eq_false h1
    have ea : alphaB z = false := by
      unfold alphaB
      rw [decide_eq_false (show ¬ 1 ≤ z.length by omega)]
      rfl
    walk_at "eva"
abbrev exL (z : Str) : D := .ins 92 ["text"] [.str z]
abbrev exW : D := .ins 73 [] []
abbrev exB (w : Str) : D := .ins 111 ["text"] [.str w]
abbrev exT : D := .ins 49 [] []
theorem check_letters_eq (z : Str) (cs : List D) (hz : z.length ≤ 10000) : f_check_letters [.str z] cs = if alphaB z then .ok .non cs else .err (exL z) [] cs := by
  have e := is_alphabet_eq z cs hz
  unfold f_check_letters mDef m_check_letters
  cases h : alphaB z with
  | true =>
    rw [h] at e
    walk_at "eva"
  | false =>
    rw [h] at e
    walk_at "eva"
    simp
theorem are_weights_eq (z : Str) (hs : List Int) (cs : List D) (hz : z.length ≤ 10000) (hl : hs.length ≤ 10000) : f_are_weights [.str z, .lst (hs.map .int)] cs = .ok (.bl (wB z hs)) cs := by
  have h2 : z.length ≤ 16777216 := by omega
  unfold f_are_weights mDef m_are_weights
  by_cases h : hs.length = z.length
  · have e1 : decide ((hs.length : Int) = (z.length : Int)) = true := decide_eq_true (by omega)
    have e2 : wB z hs = hs.all fun x => decide (1 ≤ x) && decide (x ≤ 99) := by
      unfold wB
      rw [decide_eq_true h]
      rfl
    clear h
    walk_at "eva"
    rw [map_pureT (g := fun x => D.bl (decide (1 ≤ x) && decide (x ≤ 99)))]
    · have l1 : (hs.map fun x => D.bl (decide (1 ≤ x) && decide (x ≤ 99))).length < 16777216 := by
        rw [List.length_map]
        omega
      have q := k_lc2 (k := kDone) (cs := cs) l1
      walk_at "eva"
      rw [map_bl, o_all, all_map]
      walk_at "ev"
    · intro x _
      by_cases h7 : 1 ≤ x
      · have q1 := decide_eq_true h7
        clear h7
        walk_at "eva"
      · have q1 := decide_eq_false h7
        clear h7
        walk_at "eva"
  · have e1 : decide ((hs.length : Int) = (z.length : Int)) = false := decide_eq_false (by omega)
    have e2 : wB z hs = false := by
      unfold wB
      rw [decide_eq_false h]
      rfl
    clear h
    walk_at "eva"
theorem check_weights_eq (z : Str) (hs : List Int) (cs : List D) (hz : z.length ≤ 10000) (hl : hs.length ≤ 10000) : f_check_weights [.str z, .lst (hs.map .int)] cs = if wB z hs then .ok .non cs else .err exW [] cs := by
  have e := are_weights_eq z hs cs hz hl
  unfold f_check_weights mDef m_check_weights
  cases h : wB z hs with
  | true =>
    rw [h] at e
    walk_at "eva"
  | false =>
    rw [h] at e
    walk_at "eva"
    simp
theorem o_inS' (z : Str) (c : Nat) (cs : List D) : inD (.str (sgn c)) (.str z) cs = .ok (.bl (decide (c ∈ L z))) cs := by
  show (match inB cs (.str (sgn c)) (.str z) with
    | some b => R.ok (D.bl b) cs
    | none => .bad) = _
  show R.ok (D.bl (inS (sgn c) z)) cs = _
  rw [in_sgn]
theorem has_letters_eq (z w : Str) (cs : List D) (hw : w.length ≤ 10000) : f_has_letters_only [.str z, .str w] cs = .ok (.bl (lettersB z w)) cs := by
  unfold f_has_letters_only mDef m_has_letters_only
  walk_at "eva"
  rw [chrs_eq, map_pureT (g := fun c => D.bl (decide (c ∈ L z)))]
  · have l1 : ((L w).map fun c => D.bl (decide (c ∈ L z))).length < 16777216 := by
      rw [List.length_map]
      have : w.length = (L w).length := str_len w
      omega
    have q := k_lc2 (k := kDone) (cs := cs) l1
    walk_at "eva"
    rw [map_bl, o_all, all_map]
    walk_at "ev"
    rfl
  · intro c _
    have q := o_inS' z c cs
    walk_at "eva"
theorem check_word_eq (z w : Str) (cs : List D) (hw : w.length ≤ 10000) : f_check_word [.str z, .str w] cs = if lettersB z w then (if 32 < w.length then .err exT [] cs else .ok .non cs) else .err (exB w) [] cs := by
  have e := has_letters_eq z w cs hw
  have h2 : w.length ≤ 16777216 := by omega
  unfold f_check_word mDef m_check_word
  cases h : lettersB z w with
  | true =>
    rw [h] at e
    by_cases h3 : 32 < w.length
    · have e3 : decide ((32 : Int) < (w.length : Int)) = true := decide_eq_true (by omega)
      rw [if_pos rfl, if_pos h3]
      walk_at "eva"
    · have e3 : decide ((32 : Int) < (w.length : Int)) = false := decide_eq_false (by omega)
      rw [if_pos rfl, if_neg h3]
      walk_at "eva"
  | false =>
    rw [h] at e
    walk_at "eva"
    simp
def rk (z : Str) (c : Nat) : Int := ((L z).idxOf c : Nat)
def ranks (z w : Str) : List Int := (L w).map (rk z)
def hv (z : Str) (hs : List Int) (c : Nat) : Int := hs.getD ((L z).idxOf c) 0
def weigh (z : Str) (hs : List Int) (w : Str) : Int := ((L w).map (hv z hs)).sum
theorem o_sindex1 {z : Str} {c : Nat} (h : c ∈ L z) (cs : List D) : sindexD (.str z) [.str (sgn c)] cs = .ok (.int (rk z c)) cs := o_sindex (by rw [occ_sgn, if_pos h])
theorem lettersB_mem {z w : Str} (h : lettersB z w = true) : ∀ c ∈ L w, c ∈ L z := fun c hc => of_decide_eq_true (List.all_eq_true.mp h c hc)
theorem hv_at {z : Str} {hs : List Int} (hl : hs.length = z.length) {c : Nat} (h : c ∈ L z) : atI (hs.map D.int) (rk z c) = some (.int (hv z hs c)) := by
  have h1 : (L z).idxOf c < (L z).length := List.idxOf_lt_length_of_mem h
  have h2 : z.length = (L z).length := str_len z
  refine Wf.atI_nat ?_
  rw [List.getElem?_map]
  unfold hv
  rw [List.getD_eq_getElem?_getD, List.getElem?_eq_getElem (show (L z).idxOf c < hs.length by omega)]
  rfl
theorem order_key_eq (z : Str) (hs : List Int) (w : Str) (cs : List D) (hw : w.length ≤ 10000) (hl : hs.length = z.length) (h : lettersB z w = true) : f_order_key [.str z, .lst (hs.map .int), .str w] cs = .ok (.tup [.int (weigh z hs w), .lst ((ranks z w).map .int)]) cs := by
  have hm := lettersB_mem h
  have hwl : w.length = (L w).length := str_len w
  have l1 : ((L w).map fun c => D.int (rk z c)).length < 16777216 := by
    rw [List.length_map]
    omega
  have l2 : ((L w).map fun c => D.int (hv z hs c)).length < 16777216 := by
    rw [List.length_map]
    omega
  clear hwl hw
  unfold f_order_key mDef m_order_key
  walk_at "ev"
  rw [chrs_eq, map_pureT (g := fun c => D.int (rk z c))]
  · have q := k_lc2 (k := kDone) (cs := cs) l1
    simp only [c_ok, R.bind_ok, q]
    walk_at "ev"
    rw [map_pureT (g := fun c => D.int (hv z hs c))]
    · have q2 := k_lc2 (k := kDone) (cs := cs) l2
      simp only [c_ok, R.bind_ok, q2]
      walk_at "ev"
      have e1 : ((L w).map fun c => D.int (hv z hs c)) = ((L w).map (hv z hs)).map D.int := by
        rw [List.map_map]
        rfl
      have e2 : ((L w).map fun c => D.int (rk z c)) = (ranks z w).map D.int := by
        unfold ranks
        rw [List.map_map]
        rfl
      rw [e1, e2, o_sum]
      have hn : nr (.tup [.int ((L w).map (hv z hs)).sum, .lst ((ranks z w).map D.int)]) = true := by
        rw [n_tup, n_cons, n_cons, n_int, n_lst, nrs_map fun _ => rfl]
        rfl
      walk_at "ev"
      rw [f_nr hn, take_self]
      rfl
    · intro c hc
      have q3 := o_ixL (cs := cs) (hv_at hl (hm c hc))
      walk_at "ev"
      rw [q3]
      walk_at "ev"
  · intro c hc
    have q3 := o_sindex1 (hm c hc) cs
    walk_at "ev"
    rw [q3]
    walk_at "ev"
/-! ### the order of keys -/
open PySem.W in
theorem lt_same {x y : PyData} (h : alike x y = true) : (if PyData.eqv x y = true then false else dataLt x y) = dataLt x y := by
  by_cases e : PyData.eqv x y = true
  · rw [if_pos e]
    have := (toks_eqv x y h).1 e
    unfold dataLt
    rw [this, PyProof.Rows.lex_irrefl]
  · rw [if_neg e]
def kD (a : Int) (ra : List Int) : PyData := .tuple [.int a, .list (ra.map .int)]
theorem alike_ints : ∀ (xs ys : List Int), PySem.W.alikeAll (xs.map .int) (ys.map .int) = true
  | [], _ => by simp [PySem.W.alikeAll]
  | _ :: _, [] => by simp [PySem.W.alikeAll]
  | x :: xs, y :: ys => by simp [PySem.W.alikeAll, PySem.W.alike, alike_ints xs ys]
theorem alike_list (xs ys : List Int) : PySem.W.alike (.list (xs.map .int)) (.list (ys.map .int)) = true := by
  unfold PySem.W.alike
  exact alike_ints xs ys
theorem alike_kD (a b : Int) (ra rb : List Int) : PySem.W.alike (kD a ra) (kD b rb) = true := by
  simp [kD, PySem.W.alike, PySem.W.alikeAll, alike_ints]
theorem depth_ints : ∀ xs : List Int, PyData.depthAll (xs.map .int) ≤ 1
  | [] => by simp [PyData.depthAll]
  | x :: xs => by
    have := depth_ints xs
    simp only [List.map_cons, PyData.depthAll, PyData.depth]
    omega
theorem depth_kD (a : Int) (ra : List Int) : (kD a ra).depth ≤ 10 := by
  have := depth_ints ra
  simp only [kD, PyData.depth, PyData.depthAll]
  omega
theorem lt_list (xs ys : List Int) : PySem.W.dataLt (.list (xs.map .int)) (.list (ys.map .int)) = decide (xs < ys) := by
  rw [PySem.W.dataLt_list]
  exact PySem.W.dataLt_ints xs ys
def ltK (a b : Int) (ra rb : List Int) : Bool := decide (a < b ∨ (a = b ∧ ra < rb))
theorem lt_kD (a b : Int) (ra rb : List Int) : PySem.W.dataLt (kD a ra) (kD b rb) = ltK a b ra rb := by
  unfold kD ltK
  rw [PySem.W.dataLt_pair (by simp [PySem.W.alike]) (alike_list ra rb), lt_same (alike_list ra rb), PySem.W.dataLt_int, lt_list]
  simp only [PyData.eqv, beq_iff_eq]
  by_cases h : a = b
  · rw [if_pos h]
    have : ¬ a < b := by omega
    simp [h]
  · rw [if_neg h]
    simp [h]
theorem pysOf_ints : ∀ ns : List Int, pysOf (ns.map D.int) = some (ns.map .int)
  | [] => by simp [pysOf]
  | n :: ns => by simp [pysOf, pyOf, pysOf_ints ns]
theorem py_key (a : Int) (ra : List Int) : pyOf (.tup [.int a, .lst (ra.map .int)]) = some (kD a ra) := by
  simp [pyOf, pysOf, pysOf_ints, kD]
theorem o_ltK (a b : Int) (ra rb : List Int) (cs : List D) : ltDD (.tup [.int a, .lst (ra.map .int)]) (.tup [.int b, .lst (rb.map .int)]) cs = .ok (.bl (ltK a b ra rb)) cs := by
  have h1 : pyTop cs (.tup [.int a, .lst (ra.map .int)]) = some (kD a ra) := py_key a ra
  have h2 : pyTop cs (.tup [.int b, .lst (rb.map .int)]) = some (kD b rb) := py_key b rb
  show (match pyTop cs (.tup [.int a, .lst (ra.map .int)]), pyTop cs (.tup [.int b, .lst (rb.map .int)]) with
    | some p, some q => if PySem.W.alike p q = true ∧ isNo p = false ∧ p.depth ≤ 60 then R.ok (D.bl (PySem.W.dataLt p q)) cs else .bad
    | _, _ => .bad) = _
  rw [h1, h2]
  show (if PySem.W.alike (kD a ra) (kD b rb) = true ∧ isNo (kD a ra) = false ∧ (kD a ra).depth ≤ 60 then R.ok (D.bl (PySem.W.dataLt (kD a ra) (kD b rb))) cs else .bad) = _
  have := depth_kD a ra
  rw [if_pos ⟨alike_kD a b ra rb, rfl, by omega⟩, lt_kD]
def ltW (z : Str) (hs : List Int) (w v : Str) : Bool := ltK (weigh z hs w) (weigh z hs v) (ranks z w) (ranks z v)
def cmpI (z : Str) (hs : List Int) (w v : Str) : Int := if w = v then 0 else if ltW z hs w v then -1 else 1
/-! ### what is due -/
inductive Ft where
  | no | l | w | b (x : Str) | t
def wordF (z w : Str) : Ft := if lettersB z w then (if 32 < w.length then .t else .no) else .b w
def wordsF (z : Str) : List Str → Ft
  | [] => .no
  | w :: ws => match wordF z w with
    | .no => wordsF z ws
    | f => f
def faultF (z : Str) (hs : List Int) (ws : List Str) : Ft := if alphaB z then (if wB z hs then wordsF z ws else .w) else .l
def exF (z : Str) : Ft → D
  | .no => .non
  | .l => exL z
  | .w => exW
  | .b x => exB x
  | .t => exT
def rF {α : Type} (z : Str) (cs : List D) : Ft → R α → R α
  | .no, r => r
  | f, _ => .err (exF z f) [] cs
theorem check_word_F (z w : Str) (cs : List D) (hw : w.length ≤ 10000) : f_check_word [.str z, .str w] cs = rF z cs (wordF z w) (.ok .non cs) := by
  rw [check_word_eq z w cs hw]
  unfold wordF
  cases lettersB z w with
  | true =>
    by_cases h : 32 < w.length
    · simp [h, rF, exF]
    · simp [h, rF, exF]
  | false => simp [rF, exF]
theorem check_l_F (z : Str) (cs : List D) (hz : z.length ≤ 10000) : f_check_letters [.str z] cs = rF z cs (if alphaB z then .no else .l) (.ok .non cs) := by
  rw [check_letters_eq z cs hz]
  cases alphaB z <;> simp [rF, exF]
theorem check_w_F (z : Str) (hs : List Int) (cs : List D) (hz : z.length ≤ 10000) (hl : hs.length ≤ 10000) : f_check_weights [.str z, .lst (hs.map .int)] cs = rF z cs (if wB z hs then .no else .w) (.ok .non cs) := by
  rw [check_weights_eq z hs cs hz hl]
  cases wB z hs <;> simp [rF, exF]
theorem wordF_no {z w : Str} (h : wordF z w = .no) : lettersB z w = true ∧ w.length ≤ 32 := by
  unfold wordF at h
  cases hl : lettersB z w with
  | true =>
    rw [hl] at h
    by_cases h3 : 32 < w.length
    · rw [if_pos rfl, if_pos h3] at h
      cases h
    · exact ⟨rfl, by omega⟩
  | false =>
    rw [hl] at h
    cases h
theorem wB_len {z : Str} {hs : List Int} (h : wB z hs = true) : hs.length = z.length := by
  unfold wB at h
  rw [Bool.and_eq_true] at h
  exact of_decide_eq_true h.1
theorem n_exF (z : Str) : ∀ f : Ft, nr (exF z f) = true
  | .no => rfl
  | .l => rfl
  | .w => rfl
  | .b _ => rfl
  | .t => rfl
/-- an error passes through the rest of a def -/
theorem err_call {n : Nat} {z : Str} {cs : List D} {f : Ft} {e : Wf.Env} {q : D → List D → R Fl} {P : R D} (h : finR n (R.bind (noteE e (rF z cs f (.ok .non cs))) q) = P) : finR n (R.bind (noteE e (rF z cs f (.ok .non cs))) q) = P := h
theorem weight_eq (z : Str) (hs : List Int) (w : Str) (cs : List D) (hz : z.length ≤ 10000) (hl : hs.length ≤ 10000) (hw : w.length ≤ 10000) :
    f_word_weight [.str z, .lst (hs.map .int), .str w] cs = rF z cs (faultF z hs [w]) (.ok (.int (weigh z hs w)) cs) := by
  have e1 := check_l_F z cs hz
  have e2 := check_w_F z hs cs hz hl
  have e3 := check_word_F z w cs hw
  unfold f_word_weight mDef m_word_weight faultF wordsF wordsF
  cases h1 : alphaB z with
  | false =>
    rw [h1] at e1
    simp only [Bool.false_eq_true, if_false, rF, exF] at e1 ⊢
    walk_at "eva"
  | true =>
    rw [h1] at e1
    simp only [if_true, rF, exF] at e1 ⊢
    cases h2 : wB z hs with
    | false =>
      rw [h2] at e2
      simp only [Bool.false_eq_true, if_false, rF, exF] at e2 ⊢
      walk_at "eva"
    | true =>
      rw [h2] at e2
      simp only [if_true, rF, exF] at e2 ⊢
      cases h3 : wordF z w with
      | no =>
        rw [h3] at e3
        simp only [rF] at e3 ⊢
        have e4 := order_key_eq z hs w cs hw (wB_len h2) (wordF_no h3).1
        have e5 := o_ixT (l := [.int (weigh z hs w), .lst ((ranks z w).map .int)]) (i := 0) (d := .int (weigh z hs w)) (cs := cs) rfl
        walk_at "eva"
      | _ =>
        rw [h3] at e3
        simp only [rF, exF] at e3 ⊢
        walk_at "eva"
theorem compare_eq (z : Str) (hs : List Int) (w v : Str) (cs : List D) (hz : z.length ≤ 10000) (hl : hs.length ≤ 10000) (hw : w.length ≤ 10000) (hv : v.length ≤ 10000) :
    f_compare_words [.str z, .lst (hs.map .int), .str w, .str v] cs = rF z cs (faultF z hs [w, v]) (.ok (.int (cmpI z hs w v)) cs) := by
  have e1 := check_l_F z cs hz
  have e2 := check_w_F z hs cs hz hl
  have e3 := check_word_F z w cs hw
  have e4 := check_word_F z v cs hv
  unfold f_compare_words mDef m_compare_words faultF wordsF wordsF wordsF
  cases h1 : alphaB z with
  | false =>
    rw [h1] at e1
    simp only [Bool.false_eq_true, if_false, rF, exF] at e1 ⊢
    walk_at "eva"
  | true =>
    rw [h1] at e1
    simp only [if_true, rF, exF] at e1 ⊢
    cases h2 : wB z hs with
    | false =>
      rw [h2] at e2
      simp only [Bool.false_eq_true, if_false, rF, exF] at e2 ⊢
      walk_at "eva"
    | true =>
      rw [h2] at e2
      simp only [if_true, rF, exF] at e2 ⊢
      cases h3 : wordF z w with
      | no =>
        rw [h3] at e3
        simp only [rF] at e3 ⊢
        cases h4 : wordF z v with
        | no =>
          rw [h4] at e4
          simp only [rF] at e4 ⊢
          have e5 := order_key_eq z hs w cs hw (wB_len h2) (wordF_no h3).1
          have e6 := order_key_eq z hs v cs hv (wB_len h2) (wordF_no h4).1
          have e7 := o_ltK (weigh z hs w) (weigh z hs v) (ranks z w) (ranks z v) cs
          unfold cmpI ltW
          by_cases h5 : w = v
          · have q := decide_eq_true h5
            rw [if_pos h5]
            clear h5
            walk_at "eva"
          · have q := decide_eq_false h5
            rw [if_neg h5]
            clear h5
            cases h6 : ltK (weigh z hs w) (weigh z hs v) (ranks z w) (ranks z v) with
            | true =>
              rw [h6] at e7
              walk_at "eva"
            | false =>
              rw [h6] at e7
              walk_at "eva"
              rfl
        | _ =>
          rw [h4] at e4
          simp only [rF, exF] at e4 ⊢
          walk_at "eva"
      | _ =>
        rw [h3] at e3
        simp only [rF, exF] at e3 ⊢
        walk_at "eva"
/-! ### the law's own order -/
theorem find_rk {z : Str} {c : Nat} (h : c ∈ L z) : Txt.find z (sgn c) = rk z c := by
  rw [find_sgn, if_pos h]
  rfl
theorem law_weigh_eq (z : Str) (hs : List Int) (w : Str) (cs : List D) (hw : w.length ≤ 10000) (hl : hs.length = z.length) (h : lettersB z w = true) : f__law_weigh [.str z, .lst (hs.map .int), .str w] cs = .ok (.int (weigh z hs w)) cs := by
  have hm := lettersB_mem h
  have l2 : ((L w).map fun c => D.int (hv z hs c)).length < 16777216 := by
    rw [List.length_map]
    have : w.length = (L w).length := str_len w
    omega
  unfold f__law_weigh mDef m__law_weigh
  walk_at "ev"
  rw [chrs_eq, map_pureT (g := fun c => D.int (hv z hs c))]
  · have q := k_lc2 (k := kDone) (cs := cs) l2
    simp only [c_ok, R.bind_ok, q]
    walk_at "ev"
    have e1 : ((L w).map fun c => D.int (hv z hs c)) = ((L w).map (hv z hs)).map D.int := by
      rw [List.map_map]
      rfl
    rw [e1, o_sum]
    walk_at "ev"
    rfl
  · intro c hc
    have q3 := find_rk (hm c hc)
    have q4 := o_ixL (cs := cs) (hv_at hl (hm c hc))
    walk_at "ev"
    rw [q3, q4]
    walk_at "ev"
/-! letters that are there: the weight grows, ranks tell letters apart -/
theorem rk_inj {z : Str} {c d : Nat} (hc : c ∈ L z) (hd : d ∈ L z) (h : rk z c = rk z d) : c = d := by
  unfold rk at h
  have h' : (L z).idxOf c = (L z).idxOf d := by omega
  have h1 := List.idxOf_lt_length_of_mem hc
  have e1 : (L z)[(L z).idxOf c]? = some c := by
    rw [List.getElem?_eq_getElem h1, List.getElem_idxOf]
  have h2 := List.idxOf_lt_length_of_mem hd
  have e2 : (L z)[(L z).idxOf d]? = some d := by
    rw [List.getElem?_eq_getElem h2, List.getElem_idxOf]
  rw [h', e2] at e1
  exact (Option.some.inj e1).symm
theorem hv_pos {z : Str} {hs : List Int} (hw : wB z hs = true) {c : Nat} (h : c ∈ L z) : 1 ≤ hv z hs c := by
  have hl := wB_len hw
  have h1 : (L z).idxOf c < (L z).length := List.idxOf_lt_length_of_mem h
  have h2 : z.length = (L z).length := str_len z
  have h3 : (L z).idxOf c < hs.length := by omega
  unfold wB at hw
  rw [Bool.and_eq_true] at hw
  have := List.all_eq_true.mp hw.2 hs[(L z).idxOf c] (List.getElem_mem h3)
  rw [Bool.and_eq_true] at this
  have h4 := of_decide_eq_true this.1
  unfold hv
  rw [List.getD_eq_getElem?_getD, List.getElem?_eq_getElem h3]
  exact h4
theorem sum_pos {z : Str} {hs : List Int} (hw : wB z hs = true) : ∀ l : List Nat, (∀ c ∈ l, c ∈ L z) → (l.length : Int) ≤ (l.map (hv z hs)).sum
  | [], _ => by simp
  | c :: l, h => by
    have h1 := hv_pos hw (h c List.mem_cons_self)
    have h2 := sum_pos hw l fun d hd => h d (List.mem_cons_of_mem _ hd)
    rw [List.map_cons, List.sum_cons, List.length_cons]
    omega
theorem ne_prefix {z : Str} {hs : List Int} (hw : wB z hs = true) {w v : Str} (hv1 : lettersB z v = true) (he : weigh z hs w = weigh z hs v) (hne : w ≠ v) {k : Nat} (hk : (L v).take k = L w) : False := by
  have h1 : L v = L w ++ (L v).drop k := by
    rw [← hk, List.take_append_drop]
  have h2 := sum_pos hw ((L v).drop k) fun c hc => lettersB_mem hv1 c (List.mem_of_mem_drop hc)
  have h3 : weigh z hs v = weigh z hs w + (((L v).drop k).map (hv z hs)).sum := by
    unfold weigh
    rw [h1, List.map_append, List.sum_append, ← h1]
  have h4 : ((L v).drop k).length = 0 := by omega
  rw [List.length_eq_zero_iff] at h4
  rw [h4, List.append_nil] at h1
  exact hne (str_ext h1.symm)
theorem lex_at {z w v : Str} {k : Nat} {a b : Nat} (hp : (L w).take k = (L v).take k) (ha : (L w)[k]? = some a) (hb : (L v)[k]? = some b) (hne : rk z a ≠ rk z b) : decide (ranks z w < ranks z v) = decide (rk z a < rk z b) := by
  have f : ∀ (x : Str) (c : Nat), (L x)[k]? = some c → ranks z x = (((L x).take k).map (rk z)) ++ rk z c :: ((L x).drop (k + 1)).map (rk z) := by
    intro x c hx
    obtain ⟨h1, e1⟩ := List.getElem?_eq_some_iff.mp hx
    unfold ranks
    conv => lhs; rw [← List.take_append_drop k (L x), List.drop_eq_getElem_cons h1, e1]
    rw [List.map_append, List.map_cons]
  rw [f w a ha, f v b hb, hp]
  have key : ∀ (p m n : List Int) (x y : Int), x ≠ y → ((p ++ x :: m) < (p ++ y :: n) ↔ x < y) := by
    intro p m n x y hxy
    induction p with
    | nil =>
      rw [List.nil_append, List.nil_append, List.cons_lt_cons_iff]
      constructor
      · rintro (h | ⟨h, _⟩)
        · exact h
        · exact absurd h hxy
      · exact fun h => .inl h
    | cons q p ih =>
      rw [List.cons_append, List.cons_append, List.cons_lt_cons_iff]
      constructor
      · rintro (h | ⟨_, h⟩)
        · exact absurd h (Int.lt_irrefl _)
        · exact ih.mp h
      · exact fun h => .inr ⟨rfl, ih.mpr h⟩
  rw [decide_eq_decide]
  exact key _ _ _ _ _ hne
theorem law_order_eq (z : Str) (hs : List Int) (w v : Str) (cs : List D) (hw : w.length ≤ 10000) (hv0 : v.length ≤ 10000) (hb : wB z hs = true) (h1 : lettersB z w = true) (h2 : lettersB z v = true) :
    f__law_order [.str z, .lst (hs.map .int), .str w, .str v] cs = .ok (.int (cmpI z hs w v)) cs := by
  suffices hh : Ok (f__law_order [.str z, .lst (hs.map .int), .str w, .str v] cs) (fun d cs' => d = .int (cmpI z hs w v) ∧ cs' = cs) by
    obtain ⟨d, cs', e, q1, q2⟩ := Ok_get hh
    rw [e, q1, q2]
  have e1 := law_weigh_eq z hs w cs hw (wB_len hb) h1
  have e2 := law_weigh_eq z hs v cs hv0 (wB_len hb) h2
  unfold f__law_order mDef m__law_order
  by_cases h3 : w = v
  · have q := decide_eq_true h3
    have q2 : cmpI z hs w v = 0 := if_pos h3
    clear h3
    walk_at "eva"
  · have q := decide_eq_false h3
    have q2 : cmpI z hs w v = if ltW z hs w v then -1 else 1 := if_neg h3
    by_cases h4 : weigh z hs w = weigh z hs v
    · have q3 : decide (weigh z hs w - weigh z hs v = 0) = true := decide_eq_true (by omega)
      have hwl : w.length ≤ 16777216 := by omega
      have hvl : v.length ≤ 16777216 := by omega
      have q4 : -1000000000 ≤ ((w.length : Int)) ∧ ((w.length : Int)) < 1000000000 := by omega
      have lz : ltW z hs w v = decide (ranks z w < ranks z v) := by
        unfold ltW ltK
        rw [decide_eq_decide]
        constructor
        · rintro (g | ⟨_, g⟩)
          · omega
          · exact g
        · exact fun g => .inr ⟨h4, g⟩
      have np1 : ∀ k, (L v).take k = L w → False := fun k hk => ne_prefix hb h2 h4 h3 hk
      have np2 : ∀ k, (L w).take k = L v → False := fun k hk => ne_prefix hb h1 h4.symm (fun z => h3 z.symm) hk
      clear h3 h4
      walk_at "eva"
      refine Ok_for (fun ds r cs' => ∃ (k : Nat) (o : Option D), r = [some (.str z), some (.lst (hs.map .int)), some (.str w), some (.str v), some (.int (weigh z hs w - weigh z hs v)), o] ∧ cs' = cs ∧ k + ds.length = (L w).length ∧ ds = (List.range' k ds.length).map (fun k => D.int (k : Nat)) ∧ (L w).take k = (L v).take k) ?_ ?_ _ _ _ ⟨0, none, rfl, rfl, ?_, ?_, by simp⟩
      · rintro r cs' ⟨k, o, rfl, rfl, g1, g2, g3⟩
        exfalso
        have g4 : k = (L w).length := by simpa using g1
        rw [g4, List.take_length] at g3
        exact np1 _ g3.symm
      · rintro d ds r cs' ⟨k, o, rfl, rfl, g1, g2, g3⟩
        rw [List.length_cons] at g1 g2
        rw [List.range'_succ, List.map_cons] at g2
        obtain ⟨e3, e4⟩ := List.cons.inj g2
        subst e3
        have hk : k < (L w).length := by omega
        have hk2 : k < (L v).length := by
          by_cases hc : k < (L v).length
          · exact hc
          · exfalso
            rw [List.take_of_length_le (show (L v).length ≤ k by omega)] at g3
            exact np2 _ g3
        have a1 : (L w)[k]? = some (L w)[k] := List.getElem?_eq_getElem hk
        have a2 : (L v)[k]? = some (L v)[k] := List.getElem?_eq_getElem hk2
        generalize (L w)[k] = a at a1
        generalize (L v)[k] = b at a2
        have ma : a ∈ L z := lettersB_mem h1 a (List.mem_of_getElem? a1)
        have mb : b ∈ L z := lettersB_mem h2 b (List.mem_of_getElem? a2)
        have x1 := o_ixS (z := w) (cs := cs') hwl (Wf.atI_nat a1)
        have x2 := o_ixS (z := v) (cs := cs') hvl (Wf.atI_nat a2)
        have x3 := find_rk ma
        have x4 := find_rk mb
        have x5 : (Str.mk #[a]) = sgn a := rfl
        have x6 : (Str.mk #[b]) = sgn b := rfl
        rw [x5] at x1
        rw [x6] at x2
        by_cases hab : a = b
        · have y : decide (sgn a = sgn b) = true := decide_eq_true (by rw [hab])
          clear g2 e1 e2 lz q q2 q3 q4 h1 h2 hb np1 np2
          revert e4
          walk_at "eva"
          intro e4
          refine ⟨k + 1, _, rfl, by omega, e4, ?_⟩
          rw [List.take_add_one, List.take_add_one, a1, a2, g3, hab]
        · have y : decide (sgn a = sgn b) = false := decide_eq_false fun z => hab (sgn_inj z)
          have hr : rk z a ≠ rk z b := fun z => hab (rk_inj ma mb z)
          have lz2 := lex_at g3 a1 a2 hr
          rw [lz2] at lz
          clear g2 e1 e2 q q3 q4 h1 h2 hb g3 a1 a2 ma mb e4 np1 np2
          by_cases hlt : rk z a < rk z b
          · have y2 : decide (rk z a - rk z b < 0) = true := decide_eq_true (by omega)
            have y3 : ltW z hs w v = true := lz.trans (decide_eq_true hlt)
            rw [y3, if_pos rfl] at q2
            have y4 : decide (ranks z w < ranks z v) = true := lz2.trans (decide_eq_true hlt)
            clear lz lz2 hr hlt hab
            walk_at "eva"
          · have y2 : decide (rk z a - rk z b < 0) = false := decide_eq_false (by omega)
            have y3 : ltW z hs w v = false := lz.trans (decide_eq_false hlt)
            rw [y3, if_neg Bool.false_ne_true] at q2
            have y4 : decide (ranks z w < ranks z v) = false := lz2.trans (decide_eq_false hlt)
            clear lz lz2 hr hlt hab
            walk_at "eva"
            rfl
      · unfold rng
        rw [List.length_map, List.length_range, Nat.zero_add]
        exact str_len w
      · unfold rng
        rw [List.length_map, List.length_range, List.range_eq_range']
        simp
    · have q3 : decide (weigh z hs w - weigh z hs v = 0) = false := decide_eq_false (by omega)
      by_cases h5 : weigh z hs w < weigh z hs v
      · have q4 : decide (weigh z hs w - weigh z hs v < 0) = true := decide_eq_true (by omega)
        have q5 : ltW z hs w v = true := decide_eq_true (.inl h5)
        rw [q5, if_pos rfl] at q2
        clear h3 h4 h5
        walk_at "eva"
      · have q4 : decide (weigh z hs w - weigh z hs v < 0) = false := decide_eq_false (by omega)
        have q5 : ltW z hs w v = false := decide_eq_false (by
          rintro (g | ⟨g, _⟩)
          · exact h5 g
          · exact h4 g)
        rw [q5, if_neg Bool.false_ne_true] at q2
        clear h3 h4 h5
        walk_at "eva"
/-! ### sorting -/
def item (z : Str) (hs : List Int) (w : Str) : D := .tup [.tup [.int (weigh z hs w), .lst ((ranks z w).map .int)], .str w]
def itemP (z : Str) (hs : List Int) (w : Str) : PyData := .tuple [kD (weigh z hs w) (ranks z w), .str w]
theorem py_item (z : Str) (hs : List Int) (w : Str) : pyOf (item z hs w) = some (itemP z hs w) := by
  unfold item itemP pyOf
  simp [pysOf, pyOf, pysOf_ints, kD]
theorem enc_item (z : Str) (hs : List Int) (w : Str) : encD (item z hs w) = itemP z hs w := by
  unfold encD
  rw [py_item]
  rfl
theorem alike_item (z : Str) (hs : List Int) (w v : Str) : PySem.W.alike (itemP z hs w) (itemP z hs v) = true := by
  have := alike_kD (weigh z hs w) (weigh z hs v) (ranks z w) (ranks z v)
  unfold itemP
  simp only [PySem.W.alike, PySem.W.alikeAll, Bool.and_true]
  exact this
theorem depth_item (z : Str) (hs : List Int) (w : Str) : (itemP z hs w).depth ≤ 60 := by
  have := depth_kD (weigh z hs w) (ranks z w)
  simp only [itemP, PyData.depth, PyData.depthAll]
  omega
theorem items_ok (z : Str) (hs : List Int) (ws : List Str) : sortOk (ws.map (item z hs)) = true := by
  unfold sortOk
  rw [Bool.and_eq_true]
  refine ⟨List.all_eq_true.mpr fun d hd => ?_, ?_⟩
  · obtain ⟨w, _, rfl⟩ := List.mem_map.mp hd
    rw [py_item, enc_item, Bool.and_eq_true, Bool.and_eq_true]
    refine ⟨⟨rfl, decide_eq_true (depth_item z hs w)⟩, List.all_eq_true.mpr fun e he => ?_⟩
    obtain ⟨v, _, rfl⟩ := List.mem_map.mp he
    rw [enc_item]
    exact alike_item z hs w v
  · rw [Bool.or_eq_true]
    refine .inl (List.all_eq_true.mpr fun d hd => ?_)
    obtain ⟨w, _, rfl⟩ := List.mem_map.mp hd
    rw [enc_item]
    rfl
def leW (z : Str) (hs : List Int) : Str → Str → Bool := PySem.W.dataLe false (itemP z hs)
theorem leW_ok (z : Str) (hs : List Int) : PySem.W.TotalLe (leW z hs) := by
  unfold leW PySem.W.dataLe
  exact PySem.W.sortLe_total _ _ _
def srt (z : Str) (hs : List Int) (ws : List Str) : List Str := ws.mergeSort (leW z hs)
theorem sortD_items (z : Str) (hs : List Int) (ws : List Str) : sortD (ws.map (item z hs)) = (srt z hs ws).map (item z hs) := by
  unfold sortD srt
  have e : leW z hs = fun a b => PySem.W.dataLe false encD (item z hs a) (item z hs b) := by
    funext a b
    unfold leW
    rw [PySem.W.dataLe_eq, PySem.W.dataLe_eq]
    simp only [enc_item]
  rw [e]
  exact (map_mergeSort' (f := item z hs) (le := PySem.W.dataLe false encD) ws).symm
/-! the sorted keys among words over the alphabet: the law's order -/
theorem ltK_irr (a : Int) (r : List Int) : ltK a a r r = false := decide_eq_false (by
  rintro (h | ⟨_, h⟩)
  · exact absurd h (Int.lt_irrefl _)
  · exact absurd h (List.lt_irrefl _))
theorem ranks_inj {z w v : Str} (h1 : lettersB z w = true) (h2 : lettersB z v = true) (h : ranks z w = ranks z v) : w = v := by
  refine str_ext ?_
  have key : ∀ l m : List Nat, (∀ c ∈ l, c ∈ L z) → (∀ c ∈ m, c ∈ L z) → l.map (rk z) = m.map (rk z) → l = m := by
    intro l
    induction l with
    | nil =>
      intro m _ _ e
      cases m with
      | nil => rfl
      | cons _ _ => cases e
    | cons c l ih =>
      intro m a b e
      cases m with
      | nil => cases e
      | cons d m =>
        rw [List.map_cons, List.map_cons] at e
        obtain ⟨e1, e2⟩ := List.cons.inj e
        rw [rk_inj (a c List.mem_cons_self) (b d List.mem_cons_self) e1, ih m (fun x hx => a x (List.mem_cons_of_mem _ hx)) (fun x hx => b x (List.mem_cons_of_mem _ hx)) e2]
  exact key _ _ (lettersB_mem h1) (lettersB_mem h2) h
theorem lt_item {z : Str} {hs : List Int} {w v : Str} (h1 : lettersB z w = true) (h2 : lettersB z v = true) : PySem.W.dataLt (itemP z hs w) (itemP z hs v) = ltW z hs w v := by
  unfold itemP
  have hk := alike_kD (weigh z hs w) (weigh z hs v) (ranks z w) (ranks z v)
  rw [PySem.W.dataLt_pair hk (by simp [PySem.W.alike]), lt_same (by simp [PySem.W.alike]), lt_kD]
  by_cases e : PyData.eqv (kD (weigh z hs w) (ranks z w)) (kD (weigh z hs v) (ranks z v)) = true
  · rw [if_pos e]
    have t := (PySem.W.toks_eqv _ _ hk).1 e
    have l1 : PySem.W.dataLt (kD (weigh z hs w) (ranks z w)) (kD (weigh z hs v) (ranks z v)) = false := by
      unfold PySem.W.dataLt
      rw [t, PyProof.Rows.lex_irrefl]
    have l2 : PySem.W.dataLt (kD (weigh z hs v) (ranks z v)) (kD (weigh z hs w) (ranks z w)) = false := by
      unfold PySem.W.dataLt
      rw [t, PyProof.Rows.lex_irrefl]
    rw [lt_kD] at l1 l2
    have n1 := of_decide_eq_false l1
    have n2 := of_decide_eq_false l2
    have ew : weigh z hs w = weigh z hs v := by
      rcases Int.lt_trichotomy (weigh z hs w) (weigh z hs v) with h | h | h
      · exact absurd (.inl h) n1
      · exact h
      · exact absurd (.inl h) n2
    have er : ranks z w = ranks z v := by
      have a1 : ¬ ranks z w < ranks z v := fun h => n1 (.inr ⟨ew, h⟩)
      have a2 : ¬ ranks z v < ranks z w := fun h => n2 (.inr ⟨ew.symm, h⟩)
      exact List.le_antisymm (List.not_lt.mp a2) (List.not_lt.mp a1)
    have := ranks_inj h1 h2 er
    subst this
    unfold ltW
    rw [ltK_irr, PySem.W.dataLt_str]
    exact decide_eq_false (List.lt_irrefl _)
  · rw [if_neg e]
    rfl
theorem le_item {z : Str} {hs : List Int} {w v : Str} (h1 : lettersB z w = true) (h2 : lettersB z v = true) : leW z hs w v = !ltW z hs v w := by
  show (!PySem.W.dataLt (itemP z hs v) (itemP z hs w)) = _
  rw [lt_item h2 h1]
theorem lt_tri {z : Str} {hs : List Int} {w v : Str} (h1 : lettersB z w = true) (h2 : lettersB z v = true) (a : ltW z hs w v = false) (b : ltW z hs v w = false) : w = v := by
  have n1 := of_decide_eq_false a
  have n2 := of_decide_eq_false b
  have ew : weigh z hs w = weigh z hs v := by
    rcases Int.lt_trichotomy (weigh z hs w) (weigh z hs v) with h | h | h
    · exact absurd (.inl h) n1
    · exact h
    · exact absurd (.inl h) n2
  refine ranks_inj h1 h2 ?_
  have a1 : ¬ ranks z w < ranks z v := fun h => n1 (.inr ⟨ew, h⟩)
  have a2 : ¬ ranks z v < ranks z w := fun h => n2 (.inr ⟨ew.symm, h⟩)
  exact List.le_antisymm (List.not_lt.mp a2) (List.not_lt.mp a1)
theorem cmp_neg {z : Str} {hs : List Int} {w v : Str} (h1 : lettersB z w = true) (h2 : lettersB z v = true) (h : cmpI z hs w v < 0) : leW z hs w v = true := by
  have t := (leW_ok z hs).total w v
  unfold cmpI at h
  by_cases e : w = v
  · rw [if_pos e] at h
    exact absurd h (by decide)
  · rw [if_neg e] at h
    cases hl : ltW z hs w v with
    | true =>
      rcases t with t | t
      · exact t
      · rw [le_item h2 h1, hl] at t
        cases t
    | false =>
      rw [hl] at h
      exact absurd h (by decide)
theorem cmp_nn {z : Str} {hs : List Int} {w v : Str} (h1 : lettersB z w = true) (h2 : lettersB z v = true) (h : ¬ cmpI z hs w v < 0) : leW z hs v w = true := by
  rw [le_item h2 h1]
  unfold cmpI at h
  by_cases e : w = v
  · subst e
    unfold ltW
    rw [ltK_irr]
    rfl
  · rw [if_neg e] at h
    cases hl : ltW z hs w v with
    | true =>
      rw [hl] at h
      exact absurd (by decide) h
    | false => rfl
theorem srt_unique {z : Str} {hs : List Int} {ws T : List Str} (hw : ∀ w ∈ ws, lettersB z w = true) (hp : T.Perm ws) (ht : T.Pairwise fun a b => leW z hs a b = true) : T = srt z hs ws := by
  have o := leW_ok z hs
  refine List.Perm.eq_of_pairwise (le := fun a b => leW z hs a b = true) (fun a b ha hb x y => ?_) ht (List.pairwise_mergeSort o.trans (fun a b => by
    have := o.total a b
    rw [Bool.or_eq_true]
    exact this) ws) (hp.trans (List.mergeSort_perm ws _).symm)
  have ga : lettersB z a = true := hw a (hp.mem_iff.mp ha)
  have gb : lettersB z b = true := hw b ((List.mergeSort_perm ws _).mem_iff.mp hb)
  rw [le_item ga gb] at x
  rw [le_item gb ga] at y
  have x' : ltW z hs b a = false := by simpa using x
  have y' : ltW z hs a b = false := by simpa using y
  exact lt_tri ga gb y' x'
def rG {α : Type} (z : Str) (e : Wf.Env) (cs : List D) : Ft → R α → R α
  | .no, r => r
  | f, _ => .err (exF z f) e cs
theorem check_loop (z : Str) (h q : Option D) (cs : List D) : ∀ (ws : List Str), (∀ w ∈ ws, w.length ≤ 10000) → ∀ o : Option D, ∃ o' : Option D,
    forR (bFor (gtN 3) (mExpr (mCall f_check_word (mCons (mV 0) (mCons (mV 3) mNil))))) (ws.map D.str) [some (.str z), h, q, o, none, none] cs = rG z [some (.str z), h, q, o', none, none] cs (wordsF z ws) (.ok (.nx [some (.str z), h, q, o', none, none]) cs)
  | [], _, o => ⟨o, rfl⟩
  | w :: ws, hw, o => by
    have e := check_word_F z w cs (hw w List.mem_cons_self)
    obtain ⟨o', ih⟩ := check_loop z h q cs ws (fun v hv => hw v (List.mem_cons_of_mem _ hv)) (some (.str w))
    cases hf : wordF z w with
    | no =>
      rw [hf] at e
      simp only [rF] at e
      refine ⟨o', ?_⟩
      have ew : wordsF z (w :: ws) = wordsF z ws := by
        show (match wordF z w with
          | .no => wordsF z ws
          | f => f) = _
        rw [hf]
      rw [ew, ← ih, List.map_cons]
      show (bFor (gtN 3) _ _ (D.str w) cs).bind _ = _
      rw [b_for]
      simp only [e_expr, e_call, e_cons, e_V0, e_V3, k_cons, k_cons2, e_nil, R.bind_ok, k_call, List.set_cons_zero, List.set_cons_succ, e, n_ok, k_expr]
    | _ =>
      rw [hf] at e
      simp only [rF, exF] at e
      refine ⟨some (.str w), ?_⟩
      have ew : wordsF z (w :: ws) = wordF z w := by
        show (match wordF z w with
          | .no => wordsF z ws
          | f => f) = _
        rw [hf]
      rw [ew, hf, List.map_cons]
      show (bFor (gtN 3) _ _ (D.str w) cs).bind _ = _
      rw [b_for]
      simp only [e_expr, e_call, e_cons, e_V0, e_V3, k_cons, k_cons2, e_nil, R.bind_ok, k_call, List.set_cons_zero, List.set_cons_succ, e, n_err, b_err, rG, exF]
theorem words_no {z : Str} : ∀ {ws : List Str}, wordsF z ws = .no → ∀ w ∈ ws, lettersB z w = true ∧ w.length ≤ 32
  | [], _, w, hw => by cases hw
  | v :: ws, h, w, hw => by
    have h' : (match wordF z v with
      | .no => wordsF z ws
      | f => f) = .no := h
    cases hf : wordF z v with
    | no =>
      rw [hf] at h'
      rcases List.mem_cons.mp hw with e | hw
      · rw [e]
        exact wordF_no hf
      · exact words_no h' w hw
    | _ =>
      rw [hf] at h'
      cases h'
theorem srt_len (z : Str) (hs : List Int) (ws : List Str) : (srt z hs ws).length = ws.length := List.length_mergeSort ..
theorem lcf_pair {o0 o1 o2 o3 o4 o5 : Option D} {a b : D} {cs : List D} : lcF (gtTup 2 (gtCons (gtN 5) (gtCons (gtN 3) gtNil))) mYes (mV 3) [o0, o1, o2, o3, o4, o5] (.tup [a, b]) cs = .ok (some b) cs := (rfl)
theorem sort_words_eq (z : Str) (hs : List Int) (ws : List Str) (cs : List D) (hz : z.length ≤ 10000) (hl : hs.length ≤ 10000) (hn : ws.length ≤ 10000) (hw : ∀ w ∈ ws, w.length ≤ 10000) :
    f_sort_words [.str z, .lst (hs.map .int), .lst (ws.map .str)] cs = rF z cs (faultF z hs ws) (.ok (.ref cs.length) (cs ++ [.lst ((srt z hs ws).map .str)])) := by
  have e1 := check_l_F z cs hz
  have e2 := check_w_F z hs cs hz hl
  obtain ⟨o', e3⟩ := check_loop z (some (.lst (hs.map .int))) (some (.lst (ws.map .str))) cs ws hw none
  unfold f_sort_words mDef m_sort_words faultF
  cases h1 : alphaB z with
  | false =>
    rw [h1] at e1
    simp only [Bool.false_eq_true, if_false, rF, exF] at e1 ⊢
    walk_at "eva"
  | true =>
    rw [h1] at e1
    simp only [if_true, rF, exF] at e1 ⊢
    cases h2 : wB z hs with
    | false =>
      rw [h2] at e2
      simp only [Bool.false_eq_true, if_false, rF, exF] at e2 ⊢
      walk_at "eva"
    | true =>
      rw [h2] at e2
      simp only [if_true, rF, exF] at e2 ⊢
      cases h3 : wordsF z ws with
      | no =>
        rw [h3] at e3
        simp only [rG] at e3
        have hok := words_no h3
        have l1 : (ws.map (item z hs)).length < 16777216 := by
          rw [List.length_map]
          omega
        have l2 : ((srt z hs ws).map D.str).length < 16777216 := by
          rw [List.length_map, srt_len]
          omega
        have hnr : nrs ((srt z hs ws).map D.str) = true := nrs_map fun _ => rfl
        have hlen := wB_len h2
        clear hn
        walk_at "ev"
        simp only [e1, n_ok, R.bind_ok]
        walk_at "ev"
        simp only [e2, n_ok, R.bind_ok]
        walk_at "ev"
        simp only [e3, R.bind_ok]
        walk_at "ev"
        rw [map_pureT (g := item z hs)]
        · have q := k_lc2 (k := kDone) (cs := cs) l1
          simp only [c_ok, R.bind_ok, q]
          walk_at "ev"
          rw [o_sorted (items_ok z hs ws), sortD_items]
          walk_at "ev"
          rw [map_pureT (g := fun w => D.str w)]
          · have q2 := k_lc2 (k := kDoneL) (cs := cs) l2
            simp only [c_ok, R.bind_ok, q2, k_doneL hnr]
            walk_at "ev"
          · intro w _
            exact lcf_pair
        · intro w hwm
          have e4 := order_key_eq z hs w cs (hw w hwm) hlen (hok w hwm).1
          walk_at "ev"
          simp only [e4, n_ok, R.bind_ok]
          walk_at "ev"
          rfl
      | _ =>
        rw [h3] at e3
        simp only [rG, rF, exF] at e3 ⊢
        clear hn hw
        walk_at "eva"
theorem law_sorted_eq (z : Str) (hs : List Int) (ws : List Str) (cs : List D) (hb : wB z hs = true) (hn : ws.length ≤ 10000) (hw : ∀ w ∈ ws, lettersB z w = true ∧ w.length ≤ 10000) :
    f__law_sorted [.str z, .lst (hs.map .int), .lst (ws.map .str)] cs = .ok (.lst ((srt z hs ws).map .str)) cs := by
  suffices hh : Ok (f__law_sorted [.str z, .lst (hs.map .int), .lst (ws.map .str)] cs) (fun d cs' => d = .lst ((srt z hs ws).map .str) ∧ cs' = cs) by
    obtain ⟨d, cs', e, q1, q2⟩ := Ok_get hh
    rw [e, q1, q2]
  have o := leW_ok z hs
  unfold f__law_sorted mDef m__law_sorted
  walk_at "ev"
  refine Ok_for (fun ds r cs' => ∃ (rest T done : List Str) (o4 o5 : Option D), r = [some (.str z), some (.lst (hs.map .int)), some (.lst (ws.map .str)), some (.lst (T.map .str)), o4, o5] ∧ cs' = cs ∧ ds = rest.map D.str ∧ ws = done ++ rest ∧ T.Perm done ∧ T.Pairwise (fun a b => leW z hs a b = true)) ?_ ?_ _ _ _ ⟨ws, [], [], none, none, rfl, rfl, rfl, rfl, .refl _, .nil⟩
  · rintro r cs' ⟨rest, T, done, o4, o5, rfl, rfl, h1, h2, h3, h4⟩
    have hr : rest = [] := by
      cases rest with
      | nil => rfl
      | cons _ _ => cases h1
    subst hr
    rw [List.append_nil] at h2
    subst h2
    have ht := srt_unique (fun w hm => (hw w hm).1) h3 h4
    have hnr : nr (.lst (T.map D.str)) = true := nrs_map fun _ => rfl
    walk_at "ev"
    rw [f_nr hnr, Ok_ok, take_self, ht]
    exact ⟨rfl, rfl⟩
  · rintro d ds r cs' ⟨rest, T, done, o4, o5, rfl, rfl, h1, h2, h3, h4⟩
    cases rest with
    | nil => cases h1
    | cons w rest =>
    rw [List.map_cons] at h1
    obtain ⟨e1, e2⟩ := List.cons.inj h1
    subst e1 e2
    have hmw : w ∈ ws := by
      rw [h2]
      exact List.mem_append_right _ List.mem_cons_self
    have hTw : ∀ v ∈ T, v ∈ ws := fun v hv => by
      rw [h2]
      exact List.mem_append_left _ (h3.mem_iff.mp hv)
    have hTl : T.length ≤ 10000 := by
      have a := h3.length_eq
      have b : ws.length = done.length + (w :: rest).length := by rw [h2, List.length_append]
      omega
    obtain ⟨gw1, gw2⟩ := hw w hmw
    walk_at "ev"
    refine Ok_while (fun n r c2 => ∃ s : Nat, n = s ∧ r = [some (.str z), some (.lst (hs.map .int)), some (.lst (ws.map .str)), some (.lst (T.map .str)), some (.str w), some (.int (s : Int))] ∧ c2 = cs' ∧ s ≤ T.length ∧ ∀ j v, s ≤ j → T[j]? = some v → leW z hs w v = true) ?_ _ T.length _ _ ⟨T.length, rfl, ?_, rfl, Nat.le_refl _, fun j v hj hv => ?_⟩ (by unfold whl; omega)
    · rintro n r c2 ⟨s, rfl, rfl, rfl, g1, g2⟩
      have hk1 : (cutD (T.map D.str) none (some (n : Int))) = (T.take n).map D.str := by
        rw [cutD_to, List.map_take]
      have hk2 : (cutD (T.map D.str) (some (n : Int)) none) = (T.drop n).map D.str := by
        rw [cutD_from, List.map_drop]
      have hk3 : ((T.take n).map D.str).length + [D.str w].length ≤ 16777216 := by
        rw [List.length_map, List.length_take, List.length_singleton]
        omega
      have hk4 : ((T.take n).map D.str ++ [D.str w]).length + ((T.drop n).map D.str).length ≤ 16777216 := by
        rw [List.length_append, List.length_map, List.length_map, List.length_take, List.length_drop, List.length_singleton]
        omega
      have fin : (∀ v, 0 < n → T[n - 1]? = some v → leW z hs v w = true) → (T.take n ++ [w] ++ T.drop n).Perm (done ++ [w]) ∧ (T.take n ++ [w] ++ T.drop n).Pairwise (fun a b => leW z hs a b = true) := by
        intro hv
        refine ⟨?_, ?_⟩
        · have p1 : (T.take n ++ [w] ++ T.drop n).Perm (w :: (T.take n ++ T.drop n)) := by
            rw [List.append_assoc]
            exact List.perm_middle
          rw [List.take_append_drop] at p1
          exact p1.trans ((List.Perm.cons w h3).trans (List.perm_append_singleton w done).symm)
        · have hT := h4
          rw [← List.take_append_drop n T, List.pairwise_append] at hT
          obtain ⟨t1, t2, t3⟩ := hT
          rw [List.append_assoc, List.pairwise_append]
          have hbef : ∀ a ∈ T.take n, leW z hs a w = true := by
            intro a ha
            obtain ⟨j, hj⟩ := List.mem_iff_getElem?.mp ha
            rw [List.getElem?_take] at hj
            split at hj
            · rename_i hjn
              have hn1 : n - 1 < T.length := by omega
              have e1 : T[n - 1]? = some T[n - 1] := List.getElem?_eq_getElem hn1
              have g := hv _ (by omega) e1
              by_cases hje : j = n - 1
              · rw [hje, e1] at hj
                cases hj
                exact g
              · obtain ⟨q1, q2⟩ := List.getElem?_eq_some_iff.mp hj
                have q3 := List.pairwise_iff_getElem.mp h4 j (n - 1) q1 hn1 (by omega)
                rw [q2] at q3
                exact o.trans _ _ _ q3 g
            · cases hj
          have haft : ∀ b ∈ T.drop n, leW z hs w b = true := by
            intro b hb
            obtain ⟨j, hj⟩ := List.mem_iff_getElem?.mp hb
            rw [List.getElem?_drop] at hj
            exact g2 _ b (by omega) hj
          refine ⟨t1, List.pairwise_cons.mpr ⟨haft, t2⟩, fun a ha b hb => ?_⟩
          rcases List.mem_cons.mp hb with e | hb
          · rw [e]
            exact hbef a ha
          · exact t3 a ha b hb
      have ew : ws = (done ++ [w]) ++ rest := by rw [h2, List.append_assoc]; rfl
      have emap : (T.take n).map D.str ++ [D.str w] ++ (T.drop n).map D.str = (T.take n ++ [w] ++ T.drop n).map D.str := by simp
      have stop : (∀ v, 0 < n → T[n - 1]? = some v → leW z hs v w = true) → ∃ (rest' T' done : List Str) (o4 o5 : Option D), [some (D.str z), some (D.lst (hs.map .int)), some (D.lst (ws.map .str)), some (D.lst ((T.take n).map D.str ++ [D.str w] ++ (T.drop n).map D.str)), some (D.str w), some (D.int (n : Int))] = [some (.str z), some (.lst (hs.map .int)), some (.lst (ws.map .str)), some (.lst (T'.map .str)), o4, o5] ∧ rest.map D.str = rest'.map D.str ∧ ws = done ++ rest' ∧ T'.Perm done ∧ T'.Pairwise (fun a b => leW z hs a b = true) := fun hv =>
        ⟨rest, T.take n ++ [w] ++ T.drop n, done ++ [w], _, _, by rw [emap], rfl, ew, (fin hv).1, (fin hv).2⟩
      clear fin emap ew
      by_cases hn0 : n = 0
      · have z0 : decide ((0 : Int) < (n : Int)) = false := decide_eq_false (by omega)
        have st := stop fun v h => by omega
        clear stop
        walk_at "ev"
        rw [z0]
        walk_at "ev"
        (try simp only [if_neg Bool.false_ne_true])
        (try walk_at "ev")
        rw [hk1, hk2, o_addL hk3]
        walk_at "ev"
        rw [o_addL hk4]
        walk_at "ev"
        exact st
      · have z0 : decide ((0 : Int) < (n : Int)) = true := decide_eq_true (by omega)
        obtain ⟨m, rfl⟩ : ∃ m, n = m + 1 := ⟨n - 1, by omega⟩
        have hm : m < T.length := by omega
        have e1 : T[m]? = some T[m] := List.getElem?_eq_getElem hm
        generalize T[m] = v at e1
        have hv := hTw v (List.mem_of_getElem? e1)
        obtain ⟨gv1, gv2⟩ := hw v hv
        have x1 : ((m + 1 : Nat) : Int) - 1 = (m : Int) := by omega
        have x2 := o_ixL (cs := c2) (l := T.map D.str) (Wf.atI_nat (n := m) (a := D.str v) (by rw [List.getElem?_map, e1]; rfl))
        have x3 := law_order_eq z hs w v c2 gw2 gv2 hb gw1 gv1
        by_cases hc : cmpI z hs w v < 0
        · have x4 : decide (cmpI z hs w v < 0) = true := decide_eq_true hc
          have hle := cmp_neg gw1 gv1 hc
          clear stop
          walk_at "ev"
          rw [z0]
          walk_at "ev"
          simp only [x1, x2, R.bind_ok]
          walk_at "ev"
          simp only [x3, n_ok, R.bind_ok]
          walk_at "ev"
          (try simp only [x4, if_true])
          (try walk_at "ev")
          (try simp only [x1])
          refine ⟨m, Nat.lt_succ_self m, m, rfl, by simp only [x1], by omega, fun j u hj hu => ?_⟩
          by_cases hjm : j = m
          · rw [hjm, e1] at hu
            cases hu
            exact hle
          · exact g2 j u (by omega) hu
        · have x4 : decide (cmpI z hs w v < 0) = false := decide_eq_false hc
          have hle := cmp_nn gw1 gv1 hc
          have st := stop fun u _ hu => by
            rw [Nat.add_sub_cancel, e1] at hu
            cases hu
            exact hle
          clear stop
          walk_at "ev"
          rw [z0]
          walk_at "ev"
          simp only [x1, x2, R.bind_ok]
          walk_at "ev"
          simp only [x3, n_ok, R.bind_ok]
          walk_at "ev"
          (try simp only [x4, if_neg Bool.false_ne_true])
          (try walk_at "ev")
          rw [hk1, hk2, o_addL hk3]
          walk_at "ev"
          rw [o_addL hk4]
          walk_at "ev"
          exact st
    · rfl
    · rw [List.getElem?_eq_none hj] at hv
      cases hv
theorem o_notS (z : Str) (c : Nat) (cs : List D) : notInD (.str (sgn c)) (.str z) cs = .ok (.bl (!decide (c ∈ L z))) cs := by
  show R.ok (D.bl (!inS (sgn c) z)) cs = _
  rw [in_sgn]
theorem cutS_take (z : Str) (k : Nat) : L (cutS z none (some (k : Int))) = (L z).take k := by
  show (cutS z none (some (k : Int))).cps.toList = _
  rw [cutS_list]
  have q1 : HT.sIx z.length 0 none = 0 := rfl
  have q2 : HT.sIx z.length z.length (some (k : Int)) = min k z.length := by
    unfold HT.sIx
    simp only
    rw [if_neg (by omega)]
    omega
  rw [q1, q2, List.drop_zero, Nat.sub_zero]
  have hz : z.length = (L z).length := str_len z
  by_cases h : k ≤ z.length
  · rw [Nat.min_eq_left h]
  · rw [Nat.min_eq_right (by omega), hz, List.take_length, List.take_of_length_le (by omega)]
theorem low_mem (c : Nat) : decide (c ∈ L (Str.ofString "abcdefghijklmnopqrstuvwxyz")) = lowB c := by
  rw [show L (Str.ofString "abcdefghijklmnopqrstuvwxyz") = List.range' 97 26 by decide +kernel]
  unfold lowB
  rw [Bool.eq_iff_iff, decide_eq_true_eq, Bool.and_eq_true, decide_eq_true_eq, decide_eq_true_eq, List.mem_range'_1]
  omega
theorem alpha_iff (z : Str) (h1 : 1 ≤ z.length) (h2 : z.length ≤ 6) : alphaB z = true ↔ ∀ k c, (L z)[k]? = some c → lowB c = true ∧ c ∉ (L z).take k := by
  unfold alphaB
  rw [decide_eq_true h1, decide_eq_true h2, Bool.and_self, Bool.true_and, Bool.and_eq_true, decide_eq_true_eq, nodup_take, List.all_eq_true]
  constructor
  · rintro ⟨a, b⟩ k c hc
    exact ⟨b c (List.mem_of_getElem? hc), a k c hc⟩
  · intro h
    refine ⟨fun k c hc => (h k c hc).2, fun c hc => ?_⟩
    obtain ⟨k, hk⟩ := List.mem_iff_getElem?.mp hc
    exact (h k c hk).1
theorem law_is_alphabet_eq (z : Str) (cs : List D) (hz : z.length ≤ 10000) : f__law_is_alphabet [.str z] cs = .ok (.bl (alphaB z)) cs := by
  suffices hh : Ok (f__law_is_alphabet [.str z] cs) (fun d cs' => d = .bl (alphaB z) ∧ cs' = cs) by
    obtain ⟨d, cs', e, q1, q2⟩ := Ok_get hh
    rw [e, q1, q2]
  have h2 : z.length ≤ 16777216 := by omega
  unfold f__law_is_alphabet mDef m__law_is_alphabet
  by_cases h1 : z.length < 1
  · have e1 : decide ((z.length : Int) < 1) = true := decide_eq_true (by omega)
    have ea : alphaB z = false := by
      unfold alphaB
      rw [decide_eq_false (show ¬ 1 ≤ z.length by omega)]
      rfl
    clear h1
    walk_at "eva"
  · by_cases h3 : 6 < z.length
    · have e1 : decide ((z.length : Int) < 1) = false := decide_eq_false (by omega)
      have e3 : decide ((6 : Int) < (z.length : Int)) = true := decide_eq_true (by omega)
      have ea : alphaB z = false := by
        unfold alphaB
        rw [decide_eq_false (show ¬ z.length ≤ 6 by omega)]
        simp
      clear h1 h3
      walk_at "eva"
    · have e1 : decide ((z.length : Int) < 1) = false := decide_eq_false (by omega)
      have e3 : decide ((6 : Int) < (z.length : Int)) = false := decide_eq_false (by omega)
      have q4 : -1000000000 ≤ ((z.length : Int)) ∧ ((z.length : Int)) < 1000000000 := by omega
      have ai := alpha_iff z (by omega) (by omega)
      have hzl : (rng 0 z.length).length = (L z).length := by
        unfold rng
        rw [List.length_map, List.length_range]
        exact str_len z
      clear h1 h3 hz
      walk_at "ev"
      rw [o_lenS h2]
      walk_at "ev"
      simp only [e1, e3, Bool.false_eq_true, if_false]
      (try walk_at "ev")
      rw [o_lenS h2]
      walk_at "ev"
      simp only [e1, e3]
      (try walk_at "ev")
      rw [o_lenS h2]
      walk_at "ev"
      rw [k_rng1 q4]
      walk_at "ev"
      refine Ok_for (fun ds r cs' => ∃ (k : Nat) (o : Option D), r = [some (.str z), o] ∧ cs' = cs ∧ k + ds.length = (L z).length ∧ ds = (List.range' k ds.length).map (fun k => D.int (k : Nat)) ∧ ∀ j c, j < k → (L z)[j]? = some c → lowB c = true ∧ c ∉ (L z).take j) ?_ ?_ _ _ _ ⟨0, none, rfl, rfl, ?_, ?_, fun j c hj => by omega⟩
      · rintro r cs' ⟨k, o, rfl, rfl, g1, g2, g3⟩
        have ea : alphaB z = true := ai.mpr fun j c hc => g3 j c (by
          have := (List.getElem?_eq_some_iff.mp hc).1
          have : k = (L z).length := by simpa using g1
          omega) hc
        walk_at "ev"
        rw [ea]
      · rintro d ds r cs' ⟨k, o, rfl, rfl, g1, g2, g3⟩
        rw [List.length_cons] at g1 g2
        rw [List.range'_succ, List.map_cons] at g2
        obtain ⟨e4, e5⟩ := List.cons.inj g2
        subst e4
        have a1 : (L z)[k]? = some ((L z)[k]'(by omega)) := List.getElem?_eq_getElem (by omega)
        generalize (L z)[k]'(by omega) = a at a1
        have x1 := o_ixS (z := z) (cs := cs') h2 (Wf.atI_nat a1)
        rw [show (Str.mk #[a]) = sgn a from rfl] at x1
        have x2 := o_notS (Str.ofString "abcdefghijklmnopqrstuvwxyz") a cs'
        rw [low_mem] at x2
        have x3 := o_inS' (cutS z none (some (k : Int))) a cs'
        rw [cutS_take] at x3
        have x4 := o_slS (cs := cs') (lo := none) (hi := some (k : Int)) h2
        walk_at "ev"
        rw [x1]
        walk_at "ev"
        rw [x2]
        cases hlow : lowB a with
        | false =>
          have ea : alphaB z = false := by
            cases h : alphaB z with
            | false => rfl
            | true =>
              have := (ai.mp h k a a1).1
              rw [hlow] at this
              cases this
          walk_at "ev"
          rw [ea]
        | true =>
          walk_at "ev"
          rw [x1]
          walk_at "ev"
          rw [x4]
          walk_at "ev"
          rw [x3]
          by_cases hm : a ∈ (L z).take k
          · have ea : alphaB z = false := by
              cases h : alphaB z with
              | false => rfl
              | true => exact absurd hm (ai.mp h k a a1).2
            rw [decide_eq_true hm]
            walk_at "ev"
            rw [ea]
          · rw [decide_eq_false hm]
            walk_at "ev"
            refine ⟨k + 1, _, rfl, by omega, e5, fun j c hj hc => ?_⟩
            by_cases hjk : j = k
            · rw [hjk, a1] at hc
              cases hc
              rw [hjk]
              exact ⟨hlow, hm⟩
            · exact g3 j c (by omega) hc
      · rw [Nat.zero_add]
        exact hzl
      · unfold rng
        rw [List.length_map, List.length_range, List.range_eq_range']
        simp
def tupF (z : Str) : Ft → D
  | .no => .tup []
  | .l => .tup [.str "BadLetters", .str z]
  | .w => .tup [.str "BadWeights"]
  | .b x => .tup [.str "BadWord", .str x]
  | .t => .tup [.str "TooLong"]
theorem n_tupF (z : Str) : ∀ f : Ft, nr (tupF z f) = true
  | .no => rfl
  | .l => rfl
  | .w => rfl
  | .b _ => rfl
  | .t => rfl
theorem word_fault_eq (z w : Str) (cs : List D) (hw : w.length ≤ 10000) : f__law_word_fault [.str z, .str w, .int 32] cs = .ok (tupF z (wordF z w)) cs := by
  suffices hh : Ok (f__law_word_fault [.str z, .str w, .int 32] cs) (fun d cs' => d = tupF z (wordF z w) ∧ cs' = cs) by
    obtain ⟨d, cs', e, q1, q2⟩ := Ok_get hh
    rw [e, q1, q2]
  have h2 : w.length ≤ 16777216 := by omega
  unfold f__law_word_fault mDef m__law_word_fault
  walk_at "ev"
  refine Ok_for (fun ds r cs' => ∃ (rest : List Nat) (o : Option D), r = [some (.str z), some (.str w), some (.int 32), o] ∧ cs' = cs ∧ ds = rest.map (fun c => D.str (sgn c)) ∧ ∃ done, L w = done ++ rest ∧ ∀ c ∈ done, c ∈ L z) ?_ ?_ _ _ _ ⟨L w, none, rfl, rfl, chrs_eq w, [], rfl, fun c hc => by cases hc⟩
  · rintro r cs' ⟨rest, o, rfl, rfl, h1, done, h3, h4⟩
    have hr : rest = [] := by
      cases rest with
      | nil => rfl
      | cons _ _ => cases h1
    subst hr
    rw [List.append_nil] at h3
    have hl : lettersB z w = true := List.all_eq_true.mpr fun c hc => decide_eq_true (h4 c (h3 ▸ hc))
    unfold wordF
    rw [hl, if_pos rfl]
    by_cases h5 : 32 < w.length
    · have e5 : decide ((32 : Int) < (w.length : Int)) = true := decide_eq_true (by omega)
      rw [if_pos h5]
      have hn := f_nr (n := cs'.length) (cs := cs') (d := .tup [.str (Str.ofString "TooLong")]) rfl
      walk_at "ev"
      rw [o_lenS h2]
      walk_at "ev"
      rw [e5]
      walk_at "ev"
      rw [hn]
      walk_at "ev"
      rfl
    · have e5 : decide ((32 : Int) < (w.length : Int)) = false := decide_eq_false (by omega)
      rw [if_neg h5]
      have hn := f_nr (n := cs'.length) (cs := cs') (d := .tup []) rfl
      walk_at "ev"
      rw [o_lenS h2]
      walk_at "ev"
      rw [e5]
      walk_at "ev"
      rw [hn]
      walk_at "ev"
      rfl
  · rintro d ds r cs' ⟨rest, o, rfl, rfl, h1, done, h3, h4⟩
    cases rest with
    | nil => cases h1
    | cons c rest =>
    rw [List.map_cons] at h1
    obtain ⟨e1, e2⟩ := List.cons.inj h1
    subst e1 e2
    have x1 := o_notS z c cs'
    by_cases hc : c ∈ L z
    · rw [decide_eq_true hc] at x1
      walk_at "ev"
      rw [x1]
      walk_at "ev"
      refine ⟨rest, _, rfl, rfl, done ++ [c], ?_, ?_⟩
      · rw [h3, List.append_assoc]
        rfl
      · intro d hd
        rcases List.mem_append.mp hd with hd | hd
        · exact h4 d hd
        · rw [List.mem_singleton.mp hd]
          exact hc
    · rw [decide_eq_false hc] at x1
      have hl : lettersB z w = false := by
        cases h : lettersB z w with
        | false => rfl
        | true =>
          refine absurd (lettersB_mem h c ?_) hc
          rw [h3]
          exact List.mem_append_right _ List.mem_cons_self
      have hn := f_nr (n := cs'.length) (cs := cs') (d := .tup [.str (Str.ofString "BadWord"), .str w]) rfl
      unfold wordF
      rw [hl, if_neg Bool.false_ne_true]
      walk_at "ev"
      rw [x1]
      walk_at "ev"
      rw [hn]
      walk_at "ev"
      rfl
theorem at0 {a : D} {l : List D} : atI (a :: l) 0 = some a := Wf.atI_nat (l := a :: l) (n := 0) rfl
theorem at1 {a b : D} {l : List D} : atI (a :: b :: l) 1 = some b := Wf.atI_nat (l := a :: b :: l) (n := 1) rfl
def rH (z : Str) (e : Wf.Env) (cs : List D) : Ft → R Fl
  | .no => .ok (.nx e) cs
  | f => .ok (.ret (tupF z f)) cs
noncomputable def dueBody : MS := (mSeq (mAsg (gtN 7) (mCall f__law_word_fault (mCons (mV 1) (mCons (mV 6) (mCons (mC (.int 32)) mNil)))))
  (mIf (mB (mOp gtD (mCB lenD (mCons (mV 7) mNil)) (mC (.int 0)))) (mRet (mV 7)) mSkip))
theorem due_loop (z : Str) (cs : List D) (a0 a2 a3 a4 a5 : Option D) : ∀ (ws : List Str), (∀ w ∈ ws, w.length ≤ 10000) → ∀ o6 o7 : Option D, ∃ o6' o7' : Option D,
    forR (bFor (gtN 6) dueBody) (ws.map D.str) [a0, some (.str z), a2, a3, a4, a5, o6, o7] cs = rH z [a0, some (.str z), a2, a3, a4, a5, o6', o7'] cs (wordsF z ws)
  | [], _, o6, o7 => ⟨o6, o7, rfl⟩
  | w :: ws, hw, o6, o7 => by
    have e := word_fault_eq z w cs (hw w List.mem_cons_self)
    obtain ⟨o6', o7', ih⟩ := due_loop z cs a0 a2 a3 a4 a5 ws (fun v hv => hw v (List.mem_cons_of_mem _ hv)) (some (.str w)) (some (.tup []))
    rw [List.map_cons]
    show ∃ o6' o7', (bFor (gtN 6) dueBody [a0, some (.str z), a2, a3, a4, a5, o6, o7] (D.str w) cs).bind _ = _
    have ew : wordsF z (w :: ws) = match wordF z w with
      | .no => wordsF z ws
      | f => f := rfl
    rw [b_for]
    unfold dueBody at ih ⊢
    have x0 : decide ((0 : Int) < ((0 : Nat) : Int)) = false := by decide
    have x1 : decide ((0 : Int) < ((1 : Nat) : Int)) = true := by decide
    have x2 : decide ((0 : Int) < ((2 : Nat) : Int)) = true := by decide
    cases hf : wordF z w with
    | no =>
      rw [hf] at e ew
      refine ⟨o6', o7', ?_⟩
      rw [ew, ← ih]
      simp only [tupF] at e
      clear ih
      walk_at "eva"
    | _ =>
      rw [hf] at e ew
      refine ⟨some (.str w), some (tupF z (wordF z w)), ?_⟩
      rw [ew, hf]
      simp only [tupF] at e ⊢
      clear ih
      walk_at "eva"
      rfl
def badB (x : Int) : Bool := decide (x < 1) || decide (99 < x)
def badD (d : D) : Bool := match d with
  | .int x => badB x
  | _ => false
theorem bad_map (hs : List Int) : (hs.map D.int).filter badD = (hs.filter badB).map D.int := by
  rw [List.filter_map]
  rfl
theorem bad_len (hs : List Int) : decide ((0 : Int) < (((hs.filter badB).map D.int).length : Int)) = !(hs.all fun x => decide (1 ≤ x) && decide (x ≤ 99)) := by
  rw [List.length_map]
  induction hs with
  | nil => rfl
  | cons x hs ih =>
    rw [List.all_cons]
    by_cases h : badB x = true
    · rw [List.filter_cons_of_pos h, List.length_cons]
      have e : (decide (1 ≤ x) && decide (x ≤ 99)) = false := by
        unfold badB at h
        rw [Bool.or_eq_true, decide_eq_true_eq, decide_eq_true_eq] at h
        rw [Bool.and_eq_false_iff, decide_eq_false_iff_not, decide_eq_false_iff_not]
        omega
      rw [e]
      exact decide_eq_true (by omega)
    · rw [List.filter_cons_of_neg h, ih]
      have e : (decide (1 ≤ x) && decide (x ≤ 99)) = true := by
        unfold badB at h
        rw [Bool.or_eq_true, decide_eq_true_eq, decide_eq_true_eq] at h
        rw [Bool.and_eq_true, decide_eq_true_eq, decide_eq_true_eq]
        omega
      rw [e, Bool.true_and]
def asked (k : Nat) (ws : List Str) : List Str := if k < 2 then ws.take (2 - k) else ws
def toldD (k : Nat) (z : Str) (hs : List Int) (ws : List Str) : D := match k, ws with
  | 0, a :: b :: _ => .int (cmpI z hs a b)
  | 1, a :: _ => .int (weigh z hs a)
  | _, ws => .lst ((srt z hs ws).map .str)
def dueD (k : Nat) (z : Str) (hs : List Int) (ws : List Str) : D := match faultF z hs (asked k ws) with
  | .no => .tup [.str "told", toldD k z hs ws]
  | f => tupF z f
theorem mem_asked {k : Nat} {ws : List Str} {w : Str} (h : w ∈ asked k ws) : w ∈ ws := by
  unfold asked at h
  split at h
  · exact List.mem_of_mem_take h
  · exact h
theorem due_eq (k : Nat) (hk : k = 0 ∨ k = 1 ∨ k = 2) (z : Str) (hs : List Int) (a b : Str) (rest : List Str) (cs : List D) (hz : z.length ≤ 10000) (hl : hs.length ≤ 10000) (hn : (a :: b :: rest).length ≤ 10000) (hw : ∀ w ∈ a :: b :: rest, w.length ≤ 10000) :
    f__law_due [.int (k : Nat), .str z, .lst (hs.map .int), .lst ((a :: b :: rest).map .str)] cs = .ok (dueD k z hs (a :: b :: rest)) cs := by
  have e1 := law_is_alphabet_eq z cs hz
  have z2 : z.length ≤ 16777216 := by omega
  obtain ⟨o6, o7, e3⟩ := due_loop z cs (some (.int (k : Nat))) (some (.lst (hs.map .int))) (some (.lst ((a :: b :: rest).map .str))) none (some (.lst ((asked k (a :: b :: rest)).map .str))) (asked k (a :: b :: rest)) (fun w h => hw w (mem_asked h)) none none
  unfold dueBody at e3
  have hws : ∃ ws, ws = a :: b :: rest := ⟨_, rfl⟩
  obtain ⟨ws, ews⟩ := hws
  have n1 := fun q : Ft => f_nr (n := cs.length) (cs := cs) (n_tupF z q)
  unfold f__law_due mDef m__law_due dueD faultF
  cases h1 : alphaB z with
  | false =>
    rw [h1] at e1
    have n2 : finR cs.length (.ok (.ret (.tup [.str "BadLetters", .str z])) cs) = .ok (.tup [.str "BadLetters", .str z]) (cs.take cs.length) := n1 .l
    simp only [Bool.false_eq_true, if_false, tupF]
    walk_at "ev"
    rw [e1]
    walk_at "ev"
    rw [n2, take_self]
  | true =>
    rw [h1] at e1
    have n2 : finR cs.length (.ok (.ret (.tup [.str "BadWeights"])) cs) = .ok (.tup [.str "BadWeights"]) (cs.take cs.length) := n1 .w
    have l1 : ((hs.filter badB).map D.int).length < 16777216 := by
      rw [List.length_map]
      have := List.length_filter_le badB hs
      omega
    have hm : ∀ (o1 o2 o3 o4 o5 o6 o7 : Option D), mapR (lcF (gtN 4) (mOr (mB (mOp ltD (mV 4) (mC (.int 1)))) (mB (mOp gtD (mV 4) (mC (.int 99))))) (mV 4) [o1, o2, o3, o4, none, o5, o6, o7]) (hs.map D.int) cs = .ok ((hs.filter badB).map D.int) cs := by
      intro o1 o2 o3 o4 o5 o6 o7
      rw [← bad_map]
      refine map_filter fun d hd => ?_
      obtain ⟨x, _, rfl⟩ := List.mem_map.mp hd
      show _ = R.ok (if badB x = true then some (D.int x) else none) cs
      unfold badB
      by_cases h7 : x < 1
      · have q1 := decide_eq_true h7
        clear h7
        walk_at "eva"
      · have q1 := decide_eq_false h7
        clear h7
        by_cases h8 : 99 < x
        · have q2 := decide_eq_true h8
          clear h8
          walk_at "eva"
        · have q2 := decide_eq_false h8
          clear h8
          walk_at "eva"
          rfl
    simp only [if_true]
    walk_at "ev"
    rw [e1]
    walk_at "ev"
    rw [o_lenS z2]
    walk_at "ev"
    by_cases h2 : hs.length = z.length
    · have x1 : decide ((hs.length : Int) = (z.length : Int)) = true := decide_eq_true (by omega)
      have ewb : wB z hs = hs.all fun x => decide (1 ≤ x) && decide (x ≤ 99) := by
        unfold wB
        rw [decide_eq_true h2]
        rfl
      rw [x1]
      walk_at "ev"
      rw [hm]
      have q := k_lc2 (k := kDone) (cs := cs) l1
      simp only [c_ok, R.bind_ok, q]
      walk_at "ev"
      have hb := bad_len hs
      rw [List.length_map] at hb
      rw [hb, ← ewb]
      cases h3 : wB z hs with
      | false =>
        walk_at "ev"
        (try simp only [Bool.not_false, if_true])
        (try walk_at "ev")
        rw [n2, take_self]
        rfl
      | true =>
        (try walk_at "ev")
        rcases hk with rfl | rfl | rfl
        · have y1 : decide (((0 : Nat) : Int) < 2) = true := by decide
          have y2 : cutD (D.str a :: D.str b :: rest.map D.str) none (some (2 - ((0 : Nat) : Int))) = [D.str a, D.str b] := cutD_to (D.str a :: D.str b :: rest.map D.str) 2
          have y3 : decide (((0 : Nat) : Int) = 0) = true := by decide
          have ea : (asked 0 (a :: b :: rest)).map D.str = [D.str a, D.str b] := rfl
          rw [ea] at e3
          simp only [List.map_cons] at e3
          rw [y1]
          (try walk_at "ev")
          rw [y2]
          (try walk_at "ev")
          rw [e3]
          cases h4 : wordsF z (asked 0 (a :: b :: rest)) with
          | no =>
            have ga := words_no h4 a (by simp [asked])
            have gb := words_no h4 b (by simp [asked])
            have e5 := law_order_eq z hs a b cs (by omega) (by omega) h3 ga.1 gb.1
            have n3 := f_nr (n := cs.length) (cs := cs) (d := .tup [.str "told", .int (cmpI z hs a b)]) rfl
            have i0 := o_ixL (cs := cs) (l := D.str a :: D.str b :: rest.map D.str) (i := 0) (d := D.str a) at0
            have i1 := o_ixL (cs := cs) (l := D.str a :: D.str b :: rest.map D.str) (i := 1) (d := D.str b) at1
            simp only [rH, toldD]
            (try walk_at "ev")
            rw [y3]
            (try walk_at "ev")
            rw [i0]
            (try walk_at "ev")
            rw [i1]
            (try walk_at "ev")
            rw [e5]
            (try walk_at "ev")
            rw [n3, take_self]
          | _ =>
            have n3 := n1 (wordsF z (asked 0 (a :: b :: rest)))
            rw [h4] at n3
            simp only [rH]
            (try walk_at "ev")
            rw [n3, take_self]
        · have y1 : decide (((1 : Nat) : Int) < 2) = true := by decide
          have y2 : cutD (D.str a :: D.str b :: rest.map D.str) none (some (2 - ((1 : Nat) : Int))) = [D.str a] := cutD_to (D.str a :: D.str b :: rest.map D.str) 1
          have y3 : decide (((1 : Nat) : Int) = 0) = false := by decide
          have y4 : decide (((1 : Nat) : Int) = 1) = true := by decide
          have ea : (asked 1 (a :: b :: rest)).map D.str = [D.str a] := rfl
          rw [ea] at e3
          simp only [List.map_cons] at e3
          rw [y1]
          (try walk_at "ev")
          rw [y2]
          (try walk_at "ev")
          rw [e3]
          cases h4 : wordsF z (asked 1 (a :: b :: rest)) with
          | no =>
            have ga := words_no h4 a (by simp [asked])
            have e5 := law_weigh_eq z hs a cs (by omega) (wB_len h3) ga.1
            have n3 := f_nr (n := cs.length) (cs := cs) (d := .tup [.str "told", .int (weigh z hs a)]) rfl
            have i0 := o_ixL (cs := cs) (l := D.str a :: D.str b :: rest.map D.str) (i := 0) (d := D.str a) at0
            simp only [rH, toldD]
            (try walk_at "ev")
            rw [y3]
            (try walk_at "ev")
            rw [y4]
            (try walk_at "ev")
            rw [i0]
            (try walk_at "ev")
            rw [e5]
            (try walk_at "ev")
            rw [n3, take_self]
          | _ =>
            have n3 := n1 (wordsF z (asked 1 (a :: b :: rest)))
            rw [h4] at n3
            simp only [rH]
            (try walk_at "ev")
            rw [n3, take_self]
        · have y1 : decide (((2 : Nat) : Int) < 2) = false := by decide
          have y3 : decide (((2 : Nat) : Int) = 0) = false := by decide
          have y4 : decide (((2 : Nat) : Int) = 1) = false := by decide
          have ea : asked 2 (a :: b :: rest) = a :: b :: rest := rfl
          have eb : (asked 2 (a :: b :: rest)).map D.str = D.str a :: D.str b :: rest.map D.str := rfl
          rw [eb] at e3
          simp only [List.map_cons] at e3
          rw [y1]
          (try walk_at "ev")
          rw [e3]
          cases h4 : wordsF z (asked 2 (a :: b :: rest)) with
          | no =>
            have hok := words_no h4
            rw [ea] at hok
            have e5 := law_sorted_eq z hs (a :: b :: rest) cs h3 hn fun w hm => ⟨(hok w hm).1, hw w hm⟩
            have n3 := f_nr (n := cs.length) (cs := cs) (d := .tup [.str "told", .lst ((srt z hs (a :: b :: rest)).map .str)]) (by
              rw [n_tup, n_cons, n_cons, n_str, n_lst, nrs_map fun _ => rfl]
              rfl)
            simp only [rH, toldD]
            (try walk_at "ev")
            rw [y3]
            (try walk_at "ev")
            rw [y4]
            (try walk_at "ev")
            rw [show D.str a :: D.str b :: rest.map D.str = (a :: b :: rest).map D.str from rfl, e5]
            (try walk_at "ev")
            rw [n3, take_self]
          | _ =>
            have n3 := n1 (wordsF z (asked 2 (a :: b :: rest)))
            rw [h4] at n3
            simp only [rH]
            (try walk_at "ev")
            rw [n3, take_self]
    · have x1 : decide ((hs.length : Int) = (z.length : Int)) = false := decide_eq_false (by omega)
      have ewb : wB z hs = false := by
        unfold wB
        rw [decide_eq_false h2]
        rfl
      rw [x1, ewb]
      walk_at "ev"
      rw [n2, take_self]
      rfl
/-! ### what is caught -/
theorem o_eq5 {a b c d e a' b' c' d' e' : Bool} {cs : List D} : eqD (.ref cs.length) (.lst [.bl a', .bl b', .bl c', .bl d', .bl e']) (cs ++ [.lst [.bl a, .bl b, .bl c, .bl d, .bl e]]) = .ok (.bl ((a == a') && ((b == b') && ((c == c') && ((d == d') && (e == e')))))) (cs ++ [.lst [.bl a, .bl b, .bl c, .bl d, .bl e]]) := by
  have h1 : pyTop (cs ++ [.lst [.bl a, .bl b, .bl c, .bl d, .bl e]]) (.ref cs.length) = some (.list [.bool a, .bool b, .bool c, .bool d, .bool e]) := by
    unfold pyTop
    simp [pysOf, pyOf]
  have h2 : pyTop (cs ++ [.lst [.bl a, .bl b, .bl c, .bl d, .bl e]]) (.lst [.bl a', .bl b', .bl c', .bl d', .bl e']) = some (.list [.bool a', .bool b', .bool c', .bool d', .bool e']) := by
    unfold pyTop
    simp [pysOf, pyOf]
  have h3 : ∀ p q r s t : Bool, SeqAt.shaped (.list [.bool p, .bool q, .bool r, .bool s, .bool t]) = true := fun p q r s t => by
    simp [SeqAt.shaped, PyData.canLay0, PyData.canLayAll0, PyData.depth, PyData.depthAll]
  unfold eqD eqB
  rw [h1, h2]
  simp [eqS, h3, PyData.eqv, PyData.eqvAll]
theorem o_fldT {a : Addr} {q : Option Addr} {x : D} {cs : List D} : fldD a q "text" (.exn a q ["text"] [x]) cs = .ok x cs := o_fld (by
  show List.lookup (Str.ofString "text") [(Str.ofString "text", x)] = some x
  simp [List.lookup])
theorem c_cls {C : Addr} {ns : List Str} {l : List D} : clsA (.ins C ns l) = C := (rfl)
theorem d_n {C : Addr} {ns : List Str} {l : List D} : fldN (.ins C ns l) = ns := (rfl)
theorem d_v {C : Addr} {ns : List Str} {l : List D} : fldV (.ins C ns l) = l := (rfl)
theorem meta_ve : PySem.W.kitMeta "ValueError" = true := by decide +kernel
theorem isx_ve (C : Addr) (l : List Addr) (h : tX.at C = some l) : tX.isx C (.ty "ValueError") = some true := by
  show (match tX.at C with
    | some _ => if PySem.W.kitMeta "ValueError" = true then some (([.type "ValueError", .type "Exception", .type "BaseException", .type "object"] : List Value).contains (.type "ValueError")) else none
    | none => none) = _
  rw [h]
  show (if PySem.W.kitMeta "ValueError" = true then some (([.type "ValueError", .type "Exception", .type "BaseException", .type "object"] : List Value).contains (.type "ValueError")) else none) = _
  rw [if_pos meta_ve]
  rfl
theorem v92 : tX.isx 92 (.ty "ValueError") = some true := isx_ve 92 _ rfl
theorem v73 : tX.isx 73 (.ty "ValueError") = some true := isx_ve 73 _ rfl
theorem v111 : tX.isx 111 (.ty "ValueError") = some true := isx_ve 111 _ rfl
theorem v49 : tX.isx 49 (.ty "ValueError") = some true := isx_ve 49 _ rfl
theorem x92_61 : tX.isx 92 (.rf 61) = some false := (rfl)
theorem x92_92 : tX.isx 92 (.rf 92) = some true := (rfl)
theorem x92_73 : tX.isx 92 (.rf 73) = some false := (rfl)
theorem x92_111 : tX.isx 92 (.rf 111) = some false := (rfl)
theorem x92_49 : tX.isx 92 (.rf 49) = some false := (rfl)
theorem x92_37 : tX.isx 92 (.rf 37) = some false := (rfl)
theorem x73_61 : tX.isx 73 (.rf 61) = some false := (rfl)
theorem x73_92 : tX.isx 73 (.rf 92) = some false := (rfl)
theorem x73_73 : tX.isx 73 (.rf 73) = some true := (rfl)
theorem x73_111 : tX.isx 73 (.rf 111) = some false := (rfl)
theorem x73_49 : tX.isx 73 (.rf 49) = some false := (rfl)
theorem x73_37 : tX.isx 73 (.rf 37) = some false := (rfl)
theorem x111_61 : tX.isx 111 (.rf 61) = some false := (rfl)
theorem x111_92 : tX.isx 111 (.rf 92) = some false := (rfl)
theorem x111_73 : tX.isx 111 (.rf 73) = some false := (rfl)
theorem x111_111 : tX.isx 111 (.rf 111) = some true := (rfl)
theorem x111_49 : tX.isx 111 (.rf 49) = some false := (rfl)
theorem x111_37 : tX.isx 111 (.rf 37) = some false := (rfl)
theorem x49_61 : tX.isx 49 (.rf 61) = some false := (rfl)
theorem x49_92 : tX.isx 49 (.rf 92) = some false := (rfl)
theorem x49_73 : tX.isx 49 (.rf 73) = some false := (rfl)
theorem x49_111 : tX.isx 49 (.rf 111) = some false := (rfl)
theorem x49_49 : tX.isx 49 (.rf 49) = some true := (rfl)
theorem x49_37 : tX.isx 49 (.rf 37) = some true := (rfl)
theorem q_tt : (true == true) = true := (rfl)
theorem q_tf : (true == false) = false := (rfl)
theorem q_ft : (false == true) = false := (rfl)
theorem q_ff : (false == false) = true := (rfl)
theorem exm_ok (z : Str) : ∀ f : Ft, f ≠ .no → tX.exm 24 (exF z f) = some true
  | .no, h => absurd rfl h
  | .l, _ => rfl
  | .w, _ => rfl
  | .b _, _ => rfl
  | .t, _ => rfl
noncomputable def askSuite : Addr → Option Addr → D → MS := (fun a d y => (mSeq (mAsg (gtN 5) (mAndV (mCB (isxD a d (tX.isx (clsA y))) (mCons (mV 4) (mCons (mC (.ty "ValueError")) mNil))) (mNotV (mCB (isxD a d (tX.isx (clsA y))) (mCons (mV 4) (mCons (mC (.rf 61)) mNil))))))
  (mSeq (mAsg (gtN 6) (mLstL (mCons (mCB (isxD a d (tX.isx (clsA y))) (mCons (mV 4) (mCons (mC (.rf 92)) mNil))) (mCons (mCB (isxD a d (tX.isx (clsA y))) (mCons (mV 4) (mCons (mC (.rf 73)) mNil))) (mCons (mCB (isxD a d (tX.isx (clsA y))) (mCons (mV 4) (mCons (mC (.rf 111)) mNil))) (mCons (mCB (isxD a d (tX.isx (clsA y))) (mCons (mV 4) (mCons (mC (.rf 49)) mNil))) mNil))))))
  (mSeq (mExpr (mBM "list" appendD (mV 6) (mCons (mCB (isxD a d (tX.isx (clsA y))) (mCons (mV 4) (mCons (mC (.rf 37)) mNil))) mNil)))
  (mSeq (mIf (mAnd (mB (mV 5)) (mB (mOp eqD (mV 6) (mLst (mCons (mC (.bl true)) (mCons (mC (.bl false)) (mCons (mC (.bl false)) (mCons (mC (.bl false)) (mCons (mC (.bl false)) mNil))))))))) (mRet (mTup (mCons (mC (.str "BadLetters")) (mCons (mXf a d "text" (mV 4)) mNil)))) mSkip)
  (mSeq (mIf (mAnd (mB (mV 5)) (mB (mOp eqD (mV 6) (mLst (mCons (mC (.bl false)) (mCons (mC (.bl true)) (mCons (mC (.bl false)) (mCons (mC (.bl false)) (mCons (mC (.bl false)) mNil))))))))) (mRet (mTup (mCons (mC (.str "BadWeights")) mNil))) mSkip)
  (mSeq (mIf (mAnd (mB (mV 5)) (mB (mOp eqD (mV 6) (mLst (mCons (mC (.bl false)) (mCons (mC (.bl false)) (mCons (mC (.bl true)) (mCons (mC (.bl false)) (mCons (mC (.bl false)) mNil))))))))) (mRet (mTup (mCons (mC (.str "BadWord")) (mCons (mXf a d "text" (mV 4)) mNil)))) mSkip)
  (mIf (mAnd (mB (mV 5)) (mB (mOp eqD (mV 6) (mLst (mCons (mC (.bl false)) (mCons (mC (.bl false)) (mCons (mC (.bl false)) (mCons (mC (.bl true)) (mCons (mC (.bl true)) mNil))))))))) (mRet (mTup (mCons (mC (.str "TooLong")) mNil))) mSkip))))))))
theorem caught (z : Str) (f : Ft) (hf : f ≠ .no) (a0 a1 a2 a3 : Option D) (cs : List D) : ∃ cs', (∀ n, n ≤ cs.length → cs'.take n = cs.take n) ∧ kTry 4 (tX.exm 24) askSuite (.err (exF z f) [a0, a1, a2, a3, none, none, none] cs) = .ok (.ret (tupF z f)) cs' := by
  cases f with
  | no => exact absurd rfl hf
  | l =>
    have n1 : appendD (.ref cs.length) [.bl false] (cs ++ [.lst [.bl true, .bl false, .bl false, .bl false]]) = .ok .non (cs ++ [.lst [.bl true, .bl false, .bl false, .bl false, .bl false]]) := o_appendA ⟨by decide, rfl, rfl⟩
    have n2 : nrs ([D.bl true, .bl false, .bl false, .bl false] : List D) = true := rfl
    have n3 : tyD "list" (.ref cs.length) (cs ++ [.lst [.bl true, .bl false, .bl false, .bl false]]) = true := t_last
    refine ⟨cs ++ [.lst [.bl true, .bl false, .bl false, .bl false, .bl false]], fun n hn => List.take_append_of_le_length hn, k_tryErr rfl fun a q => ?_⟩
    unfold askSuite
    simp only [exF, tupF, e_suite, d_n, d_v, c_cls]
    repeat (first
      | simp only [v92, x92_61, x92_92, x92_73, x92_111, x92_49, x92_37, n1, n2, n3, k_isx, R.bind_ok, o_eq5, o_fldT, q_tt, q_tf, q_ft, q_ff, Bool.and_self, Bool.true_and, Bool.false_and, Bool.and_true, Bool.and_false]
      | walk_at "ev")
  | w =>
    have n1 : appendD (.ref cs.length) [.bl false] (cs ++ [.lst [.bl false, .bl true, .bl false, .bl false]]) = .ok .non (cs ++ [.lst [.bl false, .bl true, .bl false, .bl false, .bl false]]) := o_appendA ⟨by decide, rfl, rfl⟩
    have n2 : nrs ([D.bl false, .bl true, .bl false, .bl false] : List D) = true := rfl
    have n3 : tyD "list" (.ref cs.length) (cs ++ [.lst [.bl false, .bl true, .bl false, .bl false]]) = true := t_last
    refine ⟨cs ++ [.lst [.bl false, .bl true, .bl false, .bl false, .bl false]], fun n hn => List.take_append_of_le_length hn, k_tryErr rfl fun a q => ?_⟩
    unfold askSuite
    simp only [exF, tupF, e_suite, d_n, d_v, c_cls]
    repeat (first
      | simp only [v73, x73_61, x73_92, x73_73, x73_111, x73_49, x73_37, n1, n2, n3, k_isx, R.bind_ok, o_eq5, o_fldT, q_tt, q_tf, q_ft, q_ff, Bool.and_self, Bool.true_and, Bool.false_and, Bool.and_true, Bool.and_false]
      | walk_at "ev")
  | b x =>
    have n1 : appendD (.ref cs.length) [.bl false] (cs ++ [.lst [.bl false, .bl false, .bl true, .bl false]]) = .ok .non (cs ++ [.lst [.bl false, .bl false, .bl true, .bl false, .bl false]]) := o_appendA ⟨by decide, rfl, rfl⟩
    have n2 : nrs ([D.bl false, .bl false, .bl true, .bl false] : List D) = true := rfl
    have n3 : tyD "list" (.ref cs.length) (cs ++ [.lst [.bl false, .bl false, .bl true, .bl false]]) = true := t_last
    refine ⟨cs ++ [.lst [.bl false, .bl false, .bl true, .bl false, .bl false]], fun n hn => List.take_append_of_le_length hn, k_tryErr rfl fun a q => ?_⟩
    unfold askSuite
    simp only [exF, tupF, e_suite, d_n, d_v, c_cls]
    repeat (first
      | simp only [v111, x111_61, x111_92, x111_73, x111_111, x111_49, x111_37, n1, n2, n3, k_isx, R.bind_ok, o_eq5, o_fldT, q_tt, q_tf, q_ft, q_ff, Bool.and_self, Bool.true_and, Bool.false_and, Bool.and_true, Bool.and_false]
      | walk_at "ev")
  | t =>
    have n1 : appendD (.ref cs.length) [.bl true] (cs ++ [.lst [.bl false, .bl false, .bl false, .bl true]]) = .ok .non (cs ++ [.lst [.bl false, .bl false, .bl false, .bl true, .bl true]]) := o_appendA ⟨by decide, rfl, rfl⟩
    have n2 : nrs ([D.bl false, .bl false, .bl false, .bl true] : List D) = true := rfl
    have n3 : tyD "list" (.ref cs.length) (cs ++ [.lst [.bl false, .bl false, .bl false, .bl true]]) = true := t_last
    refine ⟨cs ++ [.lst [.bl false, .bl false, .bl false, .bl true, .bl true]], fun n hn => List.take_append_of_le_length hn, k_tryErr rfl fun a q => ?_⟩
    unfold askSuite
    simp only [exF, tupF, e_suite, d_n, d_v, c_cls]
    repeat (first
      | simp only [v49, x49_61, x49_92, x49_73, x49_111, x49_49, x49_37, n1, n2, n3, k_isx, R.bind_ok, o_eq5, o_fldT, q_tt, q_tf, q_ft, q_ff, Bool.and_self, Bool.true_and, Bool.false_and, Bool.and_true, Bool.and_false]
      | walk_at "ev")
theorem pick4 {α : Type} {a b c d : α} : pick [3, 2, 1, 0] [a, b, c, d] = [d, c, b, a] := (rfl)
theorem pick3 {α : Type} {a b c : α} : pick [2, 1, 0] [a, b, c] = [c, b, a] := (rfl)
noncomputable def askBody : MS := (mSeq (mIf (mB (mOp eqD (mV 0) (mC (.int 0)))) (mRet (mTup (mCons (mC (.str "told")) (mCons (mCall f_compare_words (mCons (mV 1) (mCons (mV 2) (mCons (mOp ixD (mV 3) (mC (.int 0))) (mCons (mOp ixD (mV 3) (mC (.int 1))) mNil))))) mNil)))) mSkip)
  (mSeq (mIf (mB (mOp eqD (mV 0) (mC (.int 1)))) (mRet (mTup (mCons (mC (.str "told")) (mCons (mCall f_word_weight (mCons (mV 1) (mCons (mV 2) (mCons (mOp ixD (mV 3) (mC (.int 0))) mNil)))) mNil)))) mSkip)
  (mSeq (mIf (mB (mOp eqD (mV 0) (mC (.int 2)))) (mRet (mTup (mCons (mC (.str "told")) (mCons (mCall f_sort_words (mCons (mV 1) (mCons (mV 2) (mCons (mV 3) mNil)))) mNil)))) mSkip)
  (mSeq (mIf (mB (mOp eqD (mV 0) (mC (.int 3)))) (mRet (mTup (mCons (mC (.str "told")) (mCons (mCallK0 f_compare_words 4 [3, 2, 1, 0] (mCons (mOp ixD (mV 3) (mC (.int 1))) (mCons (mOp ixD (mV 3) (mC (.int 0))) (mCons (mV 2) (mCons (mV 1) mNil))))) mNil)))) mSkip)
  (mSeq (mIf (mB (mOp eqD (mV 0) (mC (.int 4)))) (mRet (mTup (mCons (mC (.str "told")) (mCons (mCallK0 f_word_weight 3 [2, 1, 0] (mCons (mOp ixD (mV 3) (mC (.int 0))) (mCons (mV 2) (mCons (mV 1) mNil)))) mNil)))) mSkip)
  (mRet (mTup (mCons (mC (.str "told")) (mCons (mCallK0 f_sort_words 3 [2, 1, 0] (mCons (mV 3) (mCons (mV 2) (mCons (mV 1) mNil)))) mNil)))))))))
theorem ask_is : f__law_ask = mDef 4 7 (mSeq (mTryAs 4 (tX.exm 24) askBody askSuite) (mRet (mTup (mCons (mC (.str "other")) mNil)))) := rfl
theorem ask_end (z : Str) (f : Ft) (hf : f ≠ .no) (a0 a1 a2 a3 : Option D) (cs : List D) (P : R D) (hP : P = .ok (tupF z f) cs) :
    finR cs.length ((kTry 4 (tX.exm 24) askSuite (.err (exF z f) [a0, a1, a2, a3, none, none, none] cs)).bind (kSeq (mRet (mTup (mCons (mC (.str "other")) mNil))))) = P := by
  obtain ⟨cs', h1, h2⟩ := caught z f hf a0 a1 a2 a3 cs
  rw [h2, R.bind_ok, k_seqR, f_nr (n_tupF z f), h1 _ (Nat.le_refl _), take_self, hP]
theorem ask0 (k : Nat) (hk : k = 0 ∨ k = 3) (z : Str) (hs : List Int) (a b : Str) (rest : List Str) (cs : List D) (hz : z.length ≤ 10000) (hl : hs.length ≤ 10000) (ha : a.length ≤ 10000) (hb : b.length ≤ 10000) :
    f__law_ask [.int (k : Nat), .str z, .lst (hs.map .int), .lst ((a :: b :: rest).map .str)] cs = .ok (dueD 0 z hs (a :: b :: rest)) cs := by
  have e := compare_eq z hs a b cs hz hl ha hb
  have i0 := o_ixL (cs := cs) (l := D.str a :: D.str b :: rest.map D.str) (i := 0) (d := D.str a) at0
  have i1 := o_ixL (cs := cs) (l := D.str a :: D.str b :: rest.map D.str) (i := 1) (d := D.str b) at1
  have n3 := f_nr (n := cs.length) (cs := cs) (d := .tup [.str (Str.ofString "told"), .int (cmpI z hs a b)]) rfl
  have ea : asked 0 (a :: b :: rest) = [a, b] := rfl
  rw [ask_is]
  unfold mDef askBody dueD
  rw [ea]
  cases hf : faultF z hs [a, b] with
  | no =>
    rw [hf] at e
    simp only [rF] at e
    simp only [toldD]
    rcases hk with rfl | rfl
    · have y0 : decide (((0 : Nat) : Int) = 0) = true := by decide
      repeat (first | simp only [y0, i0, i1, e, n3, n_ok, R.bind_ok, pick4] | walk_at "ev")
    · have y0 : decide (((3 : Nat) : Int) = 0) = false := by decide
      have y1 : decide (((3 : Nat) : Int) = 1) = false := by decide
      have y2 : decide (((3 : Nat) : Int) = 2) = false := by decide
      have y3 : decide (((3 : Nat) : Int) = 3) = true := by decide
      repeat (first | simp only [y0, y1, y2, y3, i0, i1, e, n3, n_ok, R.bind_ok, pick4] | walk_at "ev")
  | _ =>
    rw [hf] at e
    simp only [rF] at e
    rcases hk with rfl | rfl
    · have y0 : decide (((0 : Nat) : Int) = 0) = true := by decide
      repeat (first | simp only [y0, i0, i1, e, n_err, b_err, R.bind_ok, pick4] | walk_at "ev")
      exact ask_end z _ (by intro h; cases h) _ _ _ _ cs _ rfl
    · have y0 : decide (((3 : Nat) : Int) = 0) = false := by decide
      have y1 : decide (((3 : Nat) : Int) = 1) = false := by decide
      have y2 : decide (((3 : Nat) : Int) = 2) = false := by decide
      have y3 : decide (((3 : Nat) : Int) = 3) = true := by decide
      repeat (first | simp only [y0, y1, y2, y3, i0, i1, e, n_err, b_err, R.bind_ok, pick4] | walk_at "ev")
      exact ask_end z _ (by intro h; cases h) _ _ _ _ cs _ rfl
theorem ask1 (k : Nat) (hk : k = 1 ∨ k = 4) (z : Str) (hs : List Int) (a b : Str) (rest : List Str) (cs : List D) (hz : z.length ≤ 10000) (hl : hs.length ≤ 10000) (ha : a.length ≤ 10000) :
    f__law_ask [.int (k : Nat), .str z, .lst (hs.map .int), .lst ((a :: b :: rest).map .str)] cs = .ok (dueD 1 z hs (a :: b :: rest)) cs := by
  have e := weight_eq z hs a cs hz hl ha
  have i0 := o_ixL (cs := cs) (l := D.str a :: D.str b :: rest.map D.str) (i := 0) (d := D.str a) at0
  have i1 := o_ixL (cs := cs) (l := D.str a :: D.str b :: rest.map D.str) (i := 1) (d := D.str b) at1
  have n3 := f_nr (n := cs.length) (cs := cs) (d := .tup [.str (Str.ofString "told"), .int (weigh z hs a)]) rfl
  have ea : asked 1 (a :: b :: rest) = [a] := rfl
  rw [ask_is]
  unfold mDef askBody dueD
  rw [ea]
  cases hf : faultF z hs [a] with
  | no =>
    rw [hf] at e
    simp only [rF] at e
    simp only [toldD]
    rcases hk with rfl | rfl
    · have y0 : decide (((1 : Nat) : Int) = 0) = false := by decide
      have y1 : decide (((1 : Nat) : Int) = 1) = true := by decide
      repeat (first | simp only [y0, y1, i0, i1, e, n3, n_ok, R.bind_ok, pick3] | walk_at "ev")
    · have y0 : decide (((4 : Nat) : Int) = 0) = false := by decide
      have y1 : decide (((4 : Nat) : Int) = 1) = false := by decide
      have y2 : decide (((4 : Nat) : Int) = 2) = false := by decide
      have y3 : decide (((4 : Nat) : Int) = 3) = false := by decide
      have y4 : decide (((4 : Nat) : Int) = 4) = true := by decide
      repeat (first | simp only [y0, y1, y2, y3, y4, i0, i1, e, n3, n_ok, R.bind_ok, pick3] | walk_at "ev")
  | _ =>
    rw [hf] at e
    simp only [rF] at e
    rcases hk with rfl | rfl
    · have y0 : decide (((1 : Nat) : Int) = 0) = false := by decide
      have y1 : decide (((1 : Nat) : Int) = 1) = true := by decide
      repeat (first | simp only [y0, y1, i0, i1, e, n_err, b_err, R.bind_ok, pick3] | walk_at "ev")
      exact ask_end z _ (by intro h; cases h) _ _ _ _ cs _ rfl
    · have y0 : decide (((4 : Nat) : Int) = 0) = false := by decide
      have y1 : decide (((4 : Nat) : Int) = 1) = false := by decide
      have y2 : decide (((4 : Nat) : Int) = 2) = false := by decide
      have y3 : decide (((4 : Nat) : Int) = 3) = false := by decide
      have y4 : decide (((4 : Nat) : Int) = 4) = true := by decide
      repeat (first | simp only [y0, y1, y2, y3, y4, i0, i1, e, n_err, b_err, R.bind_ok, pick3] | walk_at "ev")
      exact ask_end z _ (by intro h; cases h) _ _ _ _ cs _ rfl
def ask2D (z : Str) (hs : List Int) (ws : List Str) (n : Nat) : D := match faultF z hs ws with
  | .no => .tup [.str "told", .ref n]
  | f => tupF z f
def ask2C (z : Str) (hs : List Int) (ws : List Str) (cs : List D) : List D := match faultF z hs ws with
  | .no => cs ++ [.lst ((srt z hs ws).map .str)]
  | _ => cs
theorem ask2 (k : Nat) (hk : k = 2 ∨ k = 5) (z : Str) (hs : List Int) (ws : List Str) (cs : List D) (hz : z.length ≤ 10000) (hl : hs.length ≤ 10000) (hn : ws.length ≤ 10000) (hw : ∀ w ∈ ws, w.length ≤ 10000) :
    f__law_ask [.int (k : Nat), .str z, .lst (hs.map .int), .lst (ws.map .str)] cs = .ok (ask2D z hs ws cs.length) (ask2C z hs ws cs) := by
  have e := sort_words_eq z hs ws cs hz hl hn hw
  have n3 := f_tupR (cs := cs) (x := .str (Str.ofString "told")) (c := .lst ((srt z hs ws).map .str)) rfl
  rw [ask_is]
  unfold mDef askBody ask2D ask2C
  cases hf : faultF z hs ws with
  | no =>
    rw [hf] at e
    simp only [rF] at e
    rcases hk with rfl | rfl
    · have y0 : decide (((2 : Nat) : Int) = 0) = false := by decide
      have y1 : decide (((2 : Nat) : Int) = 1) = false := by decide
      have y2 : decide (((2 : Nat) : Int) = 2) = true := by decide
      repeat (first | simp only [y0, y1, y2, e, n3, n_ok, R.bind_ok, pick3] | walk_at "ev")
    · have y0 : decide (((5 : Nat) : Int) = 0) = false := by decide
      have y1 : decide (((5 : Nat) : Int) = 1) = false := by decide
      have y2 : decide (((5 : Nat) : Int) = 2) = false := by decide
      have y3 : decide (((5 : Nat) : Int) = 3) = false := by decide
      have y4 : decide (((5 : Nat) : Int) = 4) = false := by decide
      repeat (first | simp only [y0, y1, y2, y3, y4, e, n3, n_ok, R.bind_ok, pick3] | walk_at "ev")
  | _ =>
    rw [hf] at e
    simp only [rF] at e
    rcases hk with rfl | rfl
    · have y0 : decide (((2 : Nat) : Int) = 0) = false := by decide
      have y1 : decide (((2 : Nat) : Int) = 1) = false := by decide
      have y2 : decide (((2 : Nat) : Int) = 2) = true := by decide
      repeat (first | simp only [y0, y1, y2, e, n_err, b_err, R.bind_ok, pick3] | walk_at "ev")
      exact ask_end z _ (by intro h; cases h) _ _ _ _ cs _ rfl
    · have y0 : decide (((5 : Nat) : Int) = 0) = false := by decide
      have y1 : decide (((5 : Nat) : Int) = 1) = false := by decide
      have y2 : decide (((5 : Nat) : Int) = 2) = false := by decide
      have y3 : decide (((5 : Nat) : Int) = 3) = false := by decide
      have y4 : decide (((5 : Nat) : Int) = 4) = false := by decide
      repeat (first | simp only [y0, y1, y2, y3, y4, e, n_err, b_err, R.bind_ok, pick3] | walk_at "ev")
      exact ask_end z _ (by intro h; cases h) _ _ _ _ cs _ rfl
/-! ### all right -/
theorem shaped_ints : ∀ ns : List Int, PyData.canLayAll0 (ns.map .int) = true
  | [] => by simp [PyData.canLayAll0]
  | n :: ns => by simp [PyData.canLayAll0, PyData.canLay0, shaped_ints ns]
theorem sh_ints (ns : List Int) : SeqAt.shaped (.list (ns.map .int)) = true := by
  have h1 := depth_ints ns
  show (PyData.canLay0 (.list (ns.map .int)) && decide (PyData.depth (.list (ns.map .int)) ≤ 64)) = true
  rw [Bool.and_eq_true]
  refine ⟨by simp only [PyData.canLay0]; exact shaped_ints ns, decide_eq_true ?_⟩
  simp only [PyData.depth]
  omega
theorem pysOf_strs : ∀ ns : List Str, pysOf (ns.map D.str) = some (ns.map .str)
  | [] => by simp [pysOf]
  | n :: ns => by simp [pysOf, pyOf, pysOf_strs ns]
abbrev okS (w : Str) : Prop := PyData.strOk w = true
theorem lay_strs : ∀ ns : List Str, (∀ w ∈ ns, okS w) → PyData.canLayAll0 (ns.map .str) = true
  | [], _ => by simp [PyData.canLayAll0]
  | n :: ns, h => by
    have h1 := h n List.mem_cons_self
    simp [PyData.canLayAll0, PyData.canLay0, h1, lay_strs ns fun w hw => h w (List.mem_cons_of_mem _ hw)]
theorem depth_strs : ∀ xs : List Str, PyData.depthAll (xs.map .str) ≤ 1
  | [] => by simp [PyData.depthAll]
  | x :: xs => by
    have := depth_strs xs
    simp only [List.map_cons, PyData.depthAll, PyData.depth]
    omega
theorem sh_strs (ns : List Str) (hk : ∀ w ∈ ns, okS w) : SeqAt.shaped (.list (ns.map .str)) = true := by
  have h1 := depth_strs ns
  show (PyData.canLay0 (.list (ns.map .str)) && decide (PyData.depth (.list (ns.map .str)) ≤ 64)) = true
  rw [Bool.and_eq_true]
  refine ⟨by simp only [PyData.canLay0]; exact lay_strs ns hk, decide_eq_true ?_⟩
  simp only [PyData.depth]
  omega
theorem eqv_ints : ∀ ns : List Int, PyData.eqvAll (ns.map .int) (ns.map .int) = true
  | [] => by simp [PyData.eqvAll]
  | n :: ns => by simp [PyData.eqvAll, PyData.eqv, eqv_ints ns]
theorem eqv_strs : ∀ ns : List Str, PyData.eqvAll (ns.map .str) (ns.map .str) = true
  | [] => by simp [PyData.eqvAll]
  | n :: ns => by simp [PyData.eqvAll, PyData.eqv, eqv_strs ns]
theorem ne_self {l : List D} {p : PyData} {cs : List D} (h : pyOf (.lst l) = some p) (hs : SeqAt.shaped p = true) (he : PyData.eqv p p = true) : neD (.lst l) (.lst l) cs = .ok (.bl false) cs := by
  have h1 : pyTop cs (.lst l) = some p := h
  unfold neD eqB
  rw [h1]
  simp [eqS, hs, he]
theorem ne_ints (ns : List Int) (cs : List D) : neD (.lst (ns.map .int)) (.lst (ns.map .int)) cs = .ok (.bl false) cs :=
  ne_self (p := .list (ns.map .int)) (by simp [pyOf, pysOf_ints]) (sh_ints ns) (by simp [PyData.eqv, eqv_ints])
theorem ne_strs (ns : List Str) (cs : List D) (hk : ∀ w ∈ ns, okS w) : neD (.lst (ns.map .str)) (.lst (ns.map .str)) cs = .ok (.bl false) cs :=
  ne_self (p := .list (ns.map .str)) (by simp [pyOf, pysOf_strs]) (sh_strs ns hk) (by simp [PyData.eqv, eqv_strs])
theorem deep_tupF (z : Str) (f : Ft) : deep 8 (tupF z f) := by
  cases f <;> exact ⟨by simp, by simp [deep]⟩
theorem deep_strs (n : Nat) (l : List Str) (h : l.length < 16777216) : deep (n + 2) (.lst (l.map .str)) :=
  ⟨by rw [List.length_map]; exact h, fun d hd => by
    obtain ⟨w, _, rfl⟩ := List.mem_map.mp hd
    trivial⟩
theorem forR_nx {f : Wf.Env → D → List D → R Fl} {d : D} {ds : List D} {r r' : Wf.Env} {cs cs' : List D} (h : f r d cs = .ok (.nx r') cs') : forR f (d :: ds) r cs = forR f ds r' cs' := by
  show (f r d cs).bind _ = _
  rw [h]
  rfl
theorem forR_nil {f : Wf.Env → D → List D → R Fl} {r : Wf.Env} {cs : List D} : forR f [] r cs = .ok (.nx r) cs := rfl
theorem same_pair (l : List D) (cs : List D) (i : Nat) (hi : cs[i]? = some (.lst l)) (h : deep 7 (.lst l)) (s : Str) : f__law_same 8 [.tup [.str s, .ref i], .tup [.str s, .lst l]] cs = .ok (.bl true) cs := by
  have g1 := same_ref 6 l cs i hi h
  have g0 := same_eq 7 (.str s) cs trivial
  have r2 : rng 0 2 = [.int 0, .int 1] := rfl
  have t0 : ixD (.tup [.str s, .ref i]) (.int 0) cs = .ok (.str s) cs := o_ixT rfl
  have t1 : ixD (.tup [.str s, .ref i]) (.int 1) cs = .ok (.ref i) cs := o_ixT rfl
  have u0 : ixD (.tup [.str s, .lst l]) (.int 0) cs = .ok (.str s) cs := o_ixT rfl
  have u1 : ixD (.tup [.str s, .lst l]) (.int 1) cs = .ok (.lst l) cs := o_ixT rfl
  have k1 : kRng1 [.int (((2 : Nat)) : Int)] cs = .ok (rng 0 2) cs := k_rng1 (by decide)
  have y1 : decide ((((2 : Nat)) : Int) = (((2 : Nat)) : Int)) = true := decide_eq_true rfl
  clear h
  unfold f__law_same mDef m__law_same
  repeat (first | simp only [k1, y1, R.bind_ok] | walk_at "ev")
  rw [r2]
  rw [forR_nx (r' := [some (.tup [.str s, .ref i]), some (.tup [.str s, .lst l]), some (.int 0)]) (cs' := cs)]
  · rw [forR_nx (r' := [some (.tup [.str s, .ref i]), some (.tup [.str s, .lst l]), some (.int 1)]) (cs' := cs)]
    · rw [forR_nil]
      walk_at "ev"
    · repeat (first | simp only [t1, u1, g1, n_ok, R.bind_ok] | walk_at "ev")
  · repeat (first | simp only [t0, u0, g0, n_ok, R.bind_ok] | walk_at "ev")
noncomputable def rightBody : MS := (mSeq (mAsg (gtN 4) (mCB listD (mCons (mV 1) mNil)))
  (mSeq (mAsg (gtN 5) (mCB listD (mCons (mV 2) mNil)))
  (mSeq (mAsg (gtN 6) (mCall f__law_due (mCons (mV 3) (mCons (mV 0) (mCons (mV 1) (mCons (mV 2) mNil))))))
  (mSeq (mAsg (gtN 7) (mCall f__law_ask (mCons (mV 3) (mCons (mV 0) (mCons (mV 4) (mCons (mV 5) mNil))))))
  (mSeq (mIf (mOr (mNot (mB (mCall (f__law_same 8) (mCons (mV 7) (mCons (mV 6) mNil))))) (mOr (mB (mOp neD (mV 4) (mV 1))) (mB (mOp neD (mV 5) (mV 2))))) (mRet (mC (.bl false))) mSkip)
  (mSeq (mIf (mAnd (mB (mOp eqD (mV 3) (mC (.int 2)))) (mB (mOp eqD (mOp ixD (mV 7) (mC (.int 0))) (mC (.str "told"))))) (mSeq (mExpr (mBM "list" appendD (mOp ixD (mV 7) (mC (.int 1))) (mCons (mC (.str "spoilt")) mNil)))
  (mSub setD (mC (.str "spoilt")) (mOp ixD (mV 7) (mC (.int 1))) (mC (.int 0)))) mSkip)
  (mSeq (mIf (mOr (mB (mOp neD (mV 5) (mV 2))) (mNot (mB (mCall (f__law_same 8) (mCons (mFrzT (mCall f__law_ask (mCons (mV 3) (mCons (mV 0) (mCons (mV 4) (mCons (mV 5) mNil)))))) (mCons (mV 6) mNil)))))) (mRet (mC (.bl false))) mSkip)
  (mIf (mOr (mNot (mB (mCall (f__law_same 8) (mCons (mFrzT (mCall f__law_ask (mCons (mOp addD (mV 3) (mC (.int 3))) (mCons (mV 0) (mCons (mV 4) (mCons (mV 5) mNil)))))) (mCons (mV 6) mNil))))) (mOr (mB (mOp neD (mV 4) (mV 1))) (mB (mOp neD (mV 5) (mV 2))))) (mRet (mC (.bl false))) mSkip))))))))
theorem right_is : f__law_all_right = mDef 3 8 (mSeq (mFor (mIt itA (mLst (mCons (mC (.int 0)) (mCons (mC (.int 1)) (mCons (mC (.int 2)) mNil))))) (gtN 3) rightBody) (mRet (mC (.bl true)))) := rfl
theorem told_cases (k : Nat) (z : Str) (hs : List Int) (ws : List Str) : (∃ i, toldD k z hs ws = .int i) ∨ ∃ l : List Str, toldD k z hs ws = .lst (l.map .str) ∧ l.length = ws.length := by
  unfold toldD
  split
  · exact .inl ⟨_, rfl⟩
  · exact .inl ⟨_, rfl⟩
  · exact .inr ⟨_, rfl, srt_len ..⟩
theorem due_no {k : Nat} {z : Str} {hs : List Int} {ws : List Str} (h : faultF z hs (asked k ws) = .no) : dueD k z hs ws = .tup [.str "told", toldD k z hs ws] := by
  unfold dueD
  rw [h]
theorem due_f {k : Nat} {z : Str} {hs : List Int} {ws : List Str} (h : faultF z hs (asked k ws) ≠ .no) : dueD k z hs ws = tupF z (faultF z hs (asked k ws)) := by
  unfold dueD
  cases hf : faultF z hs (asked k ws) with
  | no => exact absurd hf h
  | _ => rfl
theorem n_dueD (k : Nat) (z : Str) (hs : List Int) (ws : List Str) : nr (dueD k z hs ws) = true := by
  by_cases h : faultF z hs (asked k ws) = .no
  · rw [due_no h]
    rcases told_cases k z hs ws with ⟨i, e⟩ | ⟨l, e, _⟩
    · rw [e]
      rfl
    · rw [e, n_tup, n_cons, n_cons, n_str, n_lst, nrs_map fun _ => rfl]
      rfl
  · rw [due_f h]
    exact n_tupF z _
theorem deep_pair {x y : D} (hx : deep 7 x) (hy : deep 7 y) : deep 8 (.tup [x, y]) := ⟨by simp, fun d hd => by
    rcases List.mem_cons.mp hd with e | hd
    · rw [e]
      exact hx
    · rw [List.mem_singleton.mp hd]
      exact hy⟩
theorem deep_dueD (k : Nat) (z : Str) (hs : List Int) (ws : List Str) (hn : ws.length ≤ 10000) : deep 8 (dueD k z hs ws) := by
  by_cases h : faultF z hs (asked k ws) = .no
  · rw [due_no h]
    refine deep_pair trivial ?_
    rcases told_cases k z hs ws with ⟨i, e⟩ | ⟨l, e, hl⟩
    · rw [e]
      trivial
    · rw [e]
      exact deep_strs 5 l (by omega)
  · rw [due_f h]
    exact deep_tupF z _
theorem right01 (kk : Int) (X : D) (z : Str) (hD wD : List D) (cs : List D) (o4 o5 o6 o7 : Option D) (hk : decide (kk = 2) = false)
    (d0 : f__law_due [.int kk, .str z, .lst hD, .lst wD] cs = .ok X cs) (a0 : f__law_ask [.int kk, .str z, .lst hD, .lst wD] cs = .ok X cs) (a3 : f__law_ask [.int (kk + 3), .str z, .lst hD, .lst wD] cs = .ok X cs)
    (s0 : f__law_same 8 [X, X] cs = .ok (.bl true) cs) (n1 : neD (.lst hD) (.lst hD) cs = .ok (.bl false) cs) (n2 : neD (.lst wD) (.lst wD) cs = .ok (.bl false) cs) (hn : nr X = true) :
    rightBody [some (.str z), some (.lst hD), some (.lst wD), some (.int kk), o4, o5, o6, o7] cs = .ok (.nx [some (.str z), some (.lst hD), some (.lst wD), some (.int kk), some (.lst hD), some (.lst wD), some X, some X]) cs := by
  have f0 := k_frzT_nr (q := cs.length) (cs := cs) hn
  unfold rightBody
  repeat (first | simp only [d0, a0, a3, s0, n1, n2, hk, f0, n_ok, R.bind_ok] | walk_at "ev")
theorem right2 (X T : D) (l : List D) (z : Str) (hD wD : List D) (cs : List D) (o4 o5 o6 o7 : Option D) 
    (d0 : f__law_due [.int 2, .str z, .lst hD, .lst wD] cs = .ok X cs) (a0 : f__law_ask [.int 2, .str z, .lst hD, .lst wD] cs = .ok (.tup [T, .ref cs.length]) (cs ++ [D.lst l]))
    (hT : T = .str (Str.ofString "told")) (hl : l.length < 16777216 ∧ nr (.str (Str.ofString "spoilt")) = true ∧ nrs l = true)
    (s0 : f__law_same 8 [.tup [T, .ref cs.length], X] (cs ++ [D.lst l]) = .ok (.bl true) (cs ++ [D.lst l])) (n1 : ∀ cs, neD (.lst hD) (.lst hD) cs = .ok (.bl false) cs) (n2 : ∀ cs, neD (.lst wD) (.lst wD) cs = .ok (.bl false) cs)
    (l2 : List D) (hl2 : l2 = (l ++ [D.str (Str.ofString "spoilt")]).set 0 (.str (Str.ofString "spoilt")))
    (a2 : f__law_ask [.int 2, .str z, .lst hD, .lst wD] (cs ++ [D.lst l2]) = .ok (.tup [T, .ref (cs ++ [D.lst l2]).length]) ((cs ++ [D.lst l2]) ++ [D.lst l]))
    (a5 : f__law_ask [.int (2 + 3), .str z, .lst hD, .lst wD] (cs ++ [D.lst l2]) = .ok (.tup [T, .ref (cs ++ [D.lst l2]).length]) ((cs ++ [D.lst l2]) ++ [D.lst l]))
    (s2 : f__law_same 8 [.tup [T, .lst l], X] (cs ++ [D.lst l2]) = .ok (.bl true) (cs ++ [D.lst l2])) :
    rightBody [some (.str z), some (.lst hD), some (.lst wD), some (.int 2), o4, o5, o6, o7] cs = .ok (.nx [some (.str z), some (.lst hD), some (.lst wD), some (.int 2), some (.lst hD), some (.lst wD), some X, some (.tup [T, .ref cs.length])]) (cs ++ [D.lst l2]) := by
  have hk : decide ((2 : Int) = 2) = true := by decide
  have f0 := k_frzT_ref (cs := cs ++ [D.lst l2]) (l := l) (x := T) (by rw [hT]; rfl)
  have t0 : ∀ c, ixD (.tup [T, .ref cs.length]) (.int 0) c = .ok T c := fun c => o_ixT rfl
  have t1 : ∀ c, ixD (.tup [T, .ref cs.length]) (.int 1) c = .ok (.ref cs.length) c := fun c => o_ixT rfl
  have q0 : ∀ c, eqD T (.str (Str.ofString "told")) c = .ok (.bl true) c := fun c => by
    rw [hT]
    show R.ok (D.bl (decide _)) c = _
    rw [decide_eq_true rfl]
  have p1 := o_appendA (cs := cs) (l := l) (d := .str (Str.ofString "spoilt")) hl
  have p2 : ∀ r : Wf.Env, kSub3 setD r (.str (Str.ofString "spoilt")) (.ref cs.length) (.int 0) (cs ++ [.lst (l ++ [.str (Str.ofString "spoilt")])]) = .ok (.nx r) (cs ++ [D.lst l2]) := fun r => by
    refine k_sub3 ?_
    have q := o_set (cs := cs ++ [D.lst (l ++ [D.str (Str.ofString "spoilt")])]) (n := cs.length) (i := 0) (l := l ++ [D.str (Str.ofString "spoilt")]) (j' := 0) (d := .str (Str.ofString "spoilt")) (by simp) (ixN_nat (n := 0) (by simp)) rfl
    rw [q, hl2]
    simp
  have ty : tyD "list" (.ref cs.length) (cs ++ [D.lst l]) = true := t_last
  clear hl2 hT
  unfold rightBody
  repeat (first | simp only [d0, a0, a2, a5, s0, s2, n1, n2, hk, f0, t0, t1, q0, p1, p2, ty, n_ok, R.bind_ok] | walk_at "ev")
theorem right2f (X Y : D) (z : Str) (hD wD : List D) (cs : List D) (o4 o5 o6 o7 : Option D)
    (d0 : f__law_due [.int 2, .str z, .lst hD, .lst wD] cs = .ok X cs) (a0 : f__law_ask [.int 2, .str z, .lst hD, .lst wD] cs = .ok X cs) (a3 : f__law_ask [.int (2 + 3), .str z, .lst hD, .lst wD] cs = .ok X cs)
    (s0 : f__law_same 8 [X, X] cs = .ok (.bl true) cs) (n1 : neD (.lst hD) (.lst hD) cs = .ok (.bl false) cs) (n2 : neD (.lst wD) (.lst wD) cs = .ok (.bl false) cs) (hn : nr X = true)
    (t0 : ixD X (.int 0) cs = .ok Y cs) (q0 : eqD Y (.str (Str.ofString "told")) cs = .ok (.bl false) cs) :
    rightBody [some (.str z), some (.lst hD), some (.lst wD), some (.int 2), o4, o5, o6, o7] cs = .ok (.nx [some (.str z), some (.lst hD), some (.lst wD), some (.int 2), some (.lst hD), some (.lst wD), some X, some X]) cs := by
  have f0 := k_frzT_nr (q := cs.length) (cs := cs) hn
  have hk : decide ((2 : Int) = 2) = true := by decide
  unfold rightBody
  repeat (first | simp only [d0, a0, a3, s0, n1, n2, hk, f0, t0, q0, n_ok, R.bind_ok] | walk_at "ev")
theorem name_ne (x : String) (h : decide (Str.ofString x = Str.ofString "told") = false) (cs : List D) : eqD (.str (Str.ofString x)) (.str (Str.ofString "told")) cs = .ok (.bl false) cs := by
  show R.ok (D.bl (decide (Str.ofString x = Str.ofString "told"))) cs = _
  rw [h]
theorem all_right_eq (z : Str) (hs : List Int) (a b : Str) (rest : List Str) (cs : List D) (hz : z.length ≤ 10000) (hl : hs.length ≤ 10000) (hn : (a :: b :: rest).length ≤ 10000) (hw : ∀ w ∈ a :: b :: rest, w.length ≤ 10000) (hk : ∀ w ∈ a :: b :: rest, okS w) :
    f__law_all_right [.str z, .lst (hs.map .int), .lst ((a :: b :: rest).map .str)] cs = .ok (.bl true) cs := by
  have ha := hw a (by simp)
  have hb := hw b (by simp)
  have n1 := fun cs => ne_ints hs cs
  have n2 := fun cs => ne_strs (a :: b :: rest) cs hk
  have r0 := fun o4 o5 o6 o7 => right01 0 (dueD 0 z hs (a :: b :: rest)) z (hs.map .int) ((a :: b :: rest).map .str) cs o4 o5 o6 o7 (by decide) (due_eq 0 (.inl rfl) z hs a b rest cs hz hl hn hw) (ask0 0 (.inl rfl) z hs a b rest cs hz hl ha hb) (ask0 3 (.inr rfl) z hs a b rest cs hz hl ha hb)
    (same_eq 8 _ cs (deep_dueD 0 z hs _ hn)) (n1 cs) (n2 cs) (n_dueD 0 z hs _)
  have r1 := fun o4 o5 o6 o7 => right01 1 (dueD 1 z hs (a :: b :: rest)) z (hs.map .int) ((a :: b :: rest).map .str) cs o4 o5 o6 o7 (by decide) (due_eq 1 (.inr (.inl rfl)) z hs a b rest cs hz hl hn hw) (ask1 1 (.inl rfl) z hs a b rest cs hz hl ha) (ask1 4 (.inr rfl) z hs a b rest cs hz hl ha)
    (same_eq 8 _ cs (deep_dueD 1 z hs _ hn)) (n1 cs) (n2 cs) (n_dueD 1 z hs _)
  have d2 := due_eq 2 (.inr (.inr rfl)) z hs a b rest cs hz hl hn hw
  have a2 := fun cs => ask2 2 (.inl rfl) z hs (a :: b :: rest) cs hz hl hn hw
  have a5 := fun cs => ask2 5 (.inr rfl) z hs (a :: b :: rest) cs hz hl hn hw
  have r2 : ∀ o4 o5 o6 o7, ∃ (p6 p7 : D) (cs' : List D), cs'.take cs.length = cs ∧ rightBody [some (.str z), some (.lst (hs.map .int)), some (.lst ((a :: b :: rest).map .str)), some (.int 2), o4, o5, o6, o7] cs = .ok (.nx [some (.str z), some (.lst (hs.map .int)), some (.lst ((a :: b :: rest).map .str)), some (.int 2), some (.lst (hs.map .int)), some (.lst ((a :: b :: rest).map .str)), some p6, some p7]) cs' := by
    intro o4 o5 o6 o7
    have ea : asked 2 (a :: b :: rest) = a :: b :: rest := rfl
    have hdp := deep_dueD 2 z hs (a :: b :: rest) hn
    by_cases hf : faultF z hs (a :: b :: rest) = .no
    · have e2 := due_no (k := 2) (z := z) (hs := hs) (ws := a :: b :: rest) hf
      have et : toldD 2 z hs (a :: b :: rest) = .lst ((srt z hs (a :: b :: rest)).map .str) := rfl
      rw [et] at e2
      have hsl : ((srt z hs (a :: b :: rest)).map D.str).length < 16777216 := by
        rw [List.length_map, srt_len]
        omega
      have k1 : ∀ n, ask2D z hs (a :: b :: rest) n = .tup [.str "told", .ref n] := fun n => by
        unfold ask2D
        rw [hf]
      have k2 : ∀ cs, ask2C z hs (a :: b :: rest) cs = cs ++ [.lst ((srt z hs (a :: b :: rest)).map .str)] := fun n => by
        unfold ask2C
        rw [hf]
      have hdl : deep 7 (.lst ((srt z hs (a :: b :: rest)).map .str)) := deep_strs 5 _ (by rw [srt_len]; omega)
      generalize hl2 : ((srt z hs (a :: b :: rest)).map D.str ++ [D.str (Str.ofString "spoilt")]).set 0 (D.str (Str.ofString "spoilt")) = l2
      have x0 := a2 cs
      have x2 := a2 (cs ++ [D.lst l2])
      have x5 := a5 (cs ++ [D.lst l2])
      rw [k1, k2] at x0 x2 x5
      have s0 := same_pair ((srt z hs (a :: b :: rest)).map .str) (cs ++ [.lst ((srt z hs (a :: b :: rest)).map .str)]) cs.length (by simp) hdl "told"
      rw [e2] at d2 hdp
      have s2 := same_eq 8 _ (cs ++ [D.lst l2]) hdp
      refine ⟨_, _, cs ++ [D.lst l2], by simp, right2 _ _ _ z _ _ cs o4 o5 o6 o7 d2 x0 rfl ⟨hsl, rfl, nrs_map fun _ => rfl⟩ s0 n1 n2 l2 hl2.symm x2 x5 s2⟩
    · have e2 := due_f (k := 2) (z := z) (hs := hs) (ws := a :: b :: rest) hf
      have k1 : ask2D z hs (a :: b :: rest) cs.length = tupF z (faultF z hs (a :: b :: rest)) := by
        unfold ask2D
        cases h : faultF z hs (a :: b :: rest) with
        | no => exact absurd h hf
        | _ => rfl
      have k2 : ask2C z hs (a :: b :: rest) cs = cs := by
        unfold ask2C
        cases h : faultF z hs (a :: b :: rest) with
        | no => exact absurd h hf
        | _ => rfl
      have x0 := a2 cs
      have x5 := a5 cs
      rw [k1, k2] at x0 x5
      rw [e2, ea] at d2 hdp
      have s0 := same_eq 8 _ cs hdp
      have nn := n_tupF z (faultF z hs (a :: b :: rest))
      cases h : faultF z hs (a :: b :: rest) with
      | no => exact absurd h hf
      | l =>
        rw [h] at d2 x0 x5 s0 nn
        exact ⟨_, _, cs, List.take_length, right2f _ _ z _ _ cs o4 o5 o6 o7 d2 x0 x5 s0 (n1 cs) (n2 cs) nn (o_ixT rfl) (name_ne "BadLetters" (by decide +kernel) cs)⟩
      | w =>
        rw [h] at d2 x0 x5 s0 nn
        exact ⟨_, _, cs, List.take_length, right2f _ _ z _ _ cs o4 o5 o6 o7 d2 x0 x5 s0 (n1 cs) (n2 cs) nn (o_ixT rfl) (name_ne "BadWeights" (by decide +kernel) cs)⟩
      | b x =>
        rw [h] at d2 x0 x5 s0 nn
        exact ⟨_, _, cs, List.take_length, right2f _ _ z _ _ cs o4 o5 o6 o7 d2 x0 x5 s0 (n1 cs) (n2 cs) nn (o_ixT rfl) (name_ne "BadWord" (by decide +kernel) cs)⟩
      | t =>
        rw [h] at d2 x0 x5 s0 nn
        exact ⟨_, _, cs, List.take_length, right2f _ _ z _ _ cs o4 o5 o6 o7 d2 x0 x5 s0 (n1 cs) (n2 cs) nn (o_ixT rfl) (name_ne "TooLong" (by decide +kernel) cs)⟩
  obtain ⟨p6, p7, cs', hc, r2'⟩ := r2 (some (.lst (hs.map .int))) (some (.lst ((a :: b :: rest).map .str))) (some (dueD 1 z hs (a :: b :: rest))) (some (dueD 1 z hs (a :: b :: rest)))
  have q0 := r0 none none none none
  have q1 := r1 (some (.lst (hs.map .int))) (some (.lst ((a :: b :: rest).map .str))) (some (dueD 0 z hs (a :: b :: rest))) (some (dueD 0 z hs (a :: b :: rest)))
  clear r0 r1 r2 d2 a2 a5 n1 n2 hw hk hn ha hb
  rw [right_is]
  unfold mDef
  walk_at "ev"
  rw [forR_nx q0, forR_nx q1, forR_nx r2', forR_nil]
  walk_at "ev"
  rw [hc]
/-! ### signs of what is drawn -/
def AllC (P : Nat → Prop) (w : Str) : Prop := ∀ c ∈ L w, P c
section
variable {P : Nat → Prop} {x y z : Str}
theorem L_app (x y : Str) : L (x ++ y) = L x ++ L y := by
  show (x.cps ++ y.cps).toList = _
  rw [Array.toList_append]
theorem all_app (hx : AllC P x) (hy : AllC P y) : AllC P (x ++ y) := fun c hc => by
  rw [L_app] at hc
  rcases List.mem_append.mp hc with h | h
  · exact hx c h
  · exact hy c h
theorem all_cut (hx : AllC P x) (lo hi : Option Int) : AllC P (cutS x lo hi) := fun c hc => by
  have : L (cutS x lo hi) = _ := cutS_list x lo hi
  rw [this] at hc
  exact hx c (List.mem_of_mem_drop (List.mem_of_mem_take hc))
theorem all_rev (hx : AllC P x) : AllC P (revS x) := fun c hc => hx c (List.mem_reverse.mp hc)
theorem all_sgn {c : Nat} (h : P c) : AllC P (Str.mk #[c]) := fun d hd => by
  have : L (Str.mk #[c]) = [c] := rfl
  rw [this] at hd
  rw [List.mem_singleton.mp hd]
  exact h
theorem all_empty : AllC P Str.empty := fun c hc => by cases hc
theorem all_mul (hx : AllC P x) (n : Int) : AllC P (strMul x n) := by
  unfold strMul Txt.mul
  by_cases h : n < 1
  · rw [if_pos h]
    exact all_empty
  · rw [if_neg h]
    by_cases h2 : (n == 1 || x.length == 0) = true
    · rw [if_pos h2]
      exact hx
    · rw [if_neg h2]
      intro c hc
      have aux : ∀ (k : Nat) (a : Array Nat), (∀ c ∈ a.toList, P c) → ∀ c ∈ ((List.replicate k x.cps).foldl (· ++ ·) a).toList, P c := by
        intro k
        induction k with
        | zero => intro a ha; exact ha
        | succ k ih =>
          intro a ha
          rw [List.replicate_succ, List.foldl_cons]
          refine ih _ fun d hd => ?_
          rw [Array.toList_append] at hd
          rcases List.mem_append.mp hd with h | h
          · exact ha d h
          · exact hx d h
      exact aux _ #[] (fun d hd => by cases hd) c hc
theorem all_join {ss : List Str} (h : ∀ s ∈ ss, AllC P s) : AllC P (Txt.join Str.empty ss) := by
  rw [TL.join_eq]
  induction ss with
  | nil => exact all_empty
  | cons a ss ih =>
    cases ss with
    | nil => exact h a (by simp)
    | cons b ss =>
      show AllC P (a ++ Str.empty ++ Str.join Str.empty (b :: ss))
      exact all_app (all_app (h a (by simp)) all_empty) (ih fun s hs => h s (List.mem_cons_of_mem _ hs))
end
theorem pick_c {P : Nat → Prop} (c : D) (hc : StOk c) (rest : List D) (z : Str) (h : 0 < z.length) (hl : z.length ≤ 16777216) (hP : AllC P z) :
    ∃ y c', f__law_pick [.ref 0, .str z] (c :: rest) = .ok (.str y) (c' :: rest) ∧ StOk c' ∧ y.length = 1 ∧ AllC P y := by
  obtain ⟨v, c', e, h1, h2, h3, h4⟩ := take_ok c hc rest (z.length : Int) (by omega)
  have hv : v.toNat < z.cps.toList.length := by
    have := str_len z
    by_cases h5 : (z.length : Int) < 2
    · have := h4 h5
      omega
    · have := h3 (by omega)
      omega
  obtain ⟨n, rfl⟩ : ∃ n : Nat, v = (n : Int) := ⟨v.toNat, by omega⟩
  rw [Int.toNat_natCast] at hv
  have e2 : atI z.cps.toList (n : Int) = some z.cps.toList[n] := Wf.atI_nat (List.getElem?_eq_getElem hv)
  have e3 := o_ixS (cs := c' :: rest) hl e2
  have hp := hP _ (List.getElem_mem hv)
  refine ⟨⟨#[z.cps.toList[n]]⟩, c', ?_, h1, rfl, all_sgn hp⟩
  clear hP hp
  unfold f__law_pick mDef m__law_pick
  walk_at "eva"
theorem picks_ok {P : Nat → Prop} {i : Nat} {env : Wf.Env} {z : Str} {rest : List D} (hz : 0 < z.length) (hz2 : z.length ≤ 16777216) (hP : AllC P z) (h0 : ∀ d, (env.set i (some d))[0]? = some (some (.ref 0))) (h1 : ∀ d, (env.set i (some d))[1]? = some (some (.str z))) (n : Nat) (hn : n < 100000) (c : D) (hc : StOk c) :
    ∃ ss c', mapR (lcF (gtN i) mYes (mCall f__law_pick (mCons (mV 0) (mCons (mV 1) mNil))) env) (rng 0 n) (c :: rest) = .ok (ss.map D.str) (c' :: rest) ∧ StOk c' ∧ ss.length < 16777216 ∧ (Txt.join Str.empty ss).length = n ∧ AllC P (Txt.join Str.empty ss) ∧
      joinD (.str Str.empty) [.lst (ss.map D.str)] (c' :: rest) = .ok (.str (Txt.join Str.empty ss)) (c' :: rest) := by
  obtain ⟨ys, c', e, h2, h3, h4⟩ := map_draws (f := lcF (gtN i) mYes (mCall f__law_pick (mCons (mV 0) (mCons (mV 1) mNil))) env) (rest := rest) (fun d => ∃ y, d = .str y ∧ (y.length = 1 ∧ AllC P y)) (ds := rng 0 n) (fun d _ c hc => by
    obtain ⟨y, c', e, h5, h6, h7⟩ := pick_c c hc rest z hz hz2 hP
    refine ⟨.str y, c', ?_, h5, y, rfl, h6, h7⟩
    have e0 := e_V (cs := c :: rest) (h0 d)
    have e1 := e_V (cs := c :: rest) (h1 d)
    clear h0 h1 hP h7
    walk_at "eva") c hc
  obtain ⟨ss, rfl, hs⟩ := strs_of (fun z => z.length = 1 ∧ AllC P z) h4
  have hl : ss.length = n := by
    rw [List.length_map] at h3
    rw [h3]
    unfold rng
    simp
  have hj : (Txt.join Str.empty ss).length = n := by rw [join_len, sum_ones fun z hz => (hs z hz).1, hl]
  refine ⟨ss, c', e, h2, by omega, hj, all_join fun s h => (hs s h).2, o_join ?_⟩
  rw [sum_ones fun z hz => (hs z hz).1, len_empty]
  omega
theorem cutS_drop (z : Str) (k : Nat) : L (cutS z (some (k : Int)) none) = (L z).drop k := by
  show (cutS z (some (k : Int)) none).cps.toList = _
  rw [cutS_list]
  have q1 : HT.sIx z.length z.length none = z.length := rfl
  have q2 : HT.sIx z.length 0 (some (k : Int)) = min k z.length := by
    unfold HT.sIx
    simp only
    rw [if_neg (by omega)]
    omega
  rw [q1, q2]
  have hz : z.length = (L z).length := str_len z
  by_cases h : k ≤ z.length
  · rw [Nat.min_eq_left h, List.take_of_length_le]
    rw [List.length_drop, hz]
    exact Nat.le_refl _
  · rw [Nat.min_eq_right (by omega), List.drop_of_length_le (show (L z).length ≤ k by omega), List.drop_of_length_le (show z.cps.toList.length ≤ z.length by rw [hz]; exact Nat.le_refl _)]
    simp
def abc : Str := Str.ofString "abcdefghijklmnopqrstuvwxyz"
theorem abc_L : L abc = List.range' 97 26 := by decide +kernel
theorem abc_len : abc.length = 26 := by decide +kernel
theorem abc_nodup : (L abc).Nodup := by
  rw [abc_L]
  exact List.nodup_range'
theorem abc_low : AllC (fun c => lowB c = true) abc := fun c hc => by
  have := low_mem c
  show lowB c = true
  rw [← this]
  exact decide_eq_true hc
structure GoodL (y : Str) : Prop where
  nd : (L y).Nodup
  lo : AllC (fun c => lowB c = true) y
theorem GoodL.alpha {y : Str} (h : GoodL y) (h1 : 1 ≤ y.length) (h2 : y.length ≤ 6) : alphaB y = true := by
  unfold alphaB
  rw [decide_eq_true h1, decide_eq_true h2, decide_eq_true h.nd]
  simp only [Bool.and_self, Bool.true_and]
  exact List.all_eq_true.mpr h.lo
theorem abc_cut {n : Nat} (hn : n ≤ 26) : GoodL (cutS abc none (some (n : Int))) ∧ (cutS abc none (some (n : Int))).length = n := by
  have e := cutS_take abc n
  have hl : (cutS abc none (some (n : Int))).length = (L (cutS abc none (some (n : Int)))).length := str_len _
  refine ⟨⟨?_, all_cut abc_low _ _⟩, ?_⟩
  · rw [e]
    exact abc_nodup.sublist (List.take_sublist _ _)
  · rw [hl, e, List.length_take, abc_L, List.length_range']
    omega
theorem letters_ok (c : D) (hc : StOk c) (rest : List D) (lo hi : Int) (h1 : 1 ≤ lo) (h2 : lo ≤ hi) (h3 : hi ≤ 8) :
    ∃ y c', f__law_letters [.ref 0, .int lo, .int hi] (c :: rest) = .ok (.str y) (c' :: rest) ∧ StOk c' ∧ lo ≤ (y.length : Int) ∧ (y.length : Int) ≤ hi ∧ GoodL y := by
  obtain ⟨v, c1, e1, g1, v1, v2⟩ := span_ok c hc rest lo hi h2 (by omega)
  obtain ⟨n, rfl⟩ : ∃ n : Nat, v = (n : Int) := ⟨v.toNat, by omega⟩
  obtain ⟨t, c2, e2, g2, t1, t2, t3⟩ := take_ok c1 g1 rest 3 (by decide)
  clear t1 t2 t3
  have habc : (Str.ofString "abcdefghijklmnopqrstuvwxyz") = abc := rfl
  have al : abc.length ≤ 16777216 := by rw [abc_len]; decide
  suffices hh : Ok (f__law_letters [.ref 0, .int lo, .int hi] (c :: rest)) (fun d cs' => ∃ y c', d = .str y ∧ cs' = c' :: rest ∧ StOk c' ∧ lo ≤ (y.length : Int) ∧ (y.length : Int) ≤ hi ∧ GoodL y) by
    obtain ⟨d, cs', e, y, c', q1, q2, q3⟩ := Ok_get hh
    exact ⟨y, c', by rw [e, q1, q2], q3⟩
  unfold f__law_letters mDef m__law_letters
  rw [habc]
  by_cases ht : t = 0
  · have x0 : decide (t = 0) = true := decide_eq_true ht
    have x1 := o_slS (cs := c2 :: rest) (lo := none) (hi := some (n : Int)) al
    obtain ⟨w1, w2⟩ := abc_cut (n := n) (by omega)
    clear ht
    repeat (first | simp only [e1, e2, x0, x1, n_ok, R.bind_ok] | walk_at "ev")
    exact ⟨_, c2, rfl, rfl, g2, by omega, by omega, w1⟩
  · have x0 : decide (t = 0) = false := decide_eq_false ht
    have q4 : -1000000000 ≤ ((n : Int)) ∧ ((n : Int)) < 1000000000 := by omega
    have x1 := k_rng1 (cs := c2 :: rest) q4
    clear ht
    repeat (first | simp only [e1, e2, x0, x1, n_ok, R.bind_ok] | walk_at "ev")
    refine Ok_for (fun ds r cs => ∃ (left out : Str) (c' : D) (o6 o7 : Option D), r = [some (.ref 0), some (.int lo), some (.int hi), some (.int (n : Int)), some (.str left), some (.str out), o6, o7] ∧ cs = c' :: rest ∧ StOk c' ∧ left.length + n = ds.length + 26 ∧ out.length + ds.length = n ∧ (L out ++ L left).Nodup ∧ ∀ x ∈ L out ++ L left, lowB x = true) ?_ ?_ _ _ _ ⟨abc, Str.empty, c2, none, none, ?_, rfl, g2, ?_, ?_, ?_, ?_⟩
    · rintro r cs ⟨left, out, c', o6, o7, rfl, rfl, g3, i1, i2, i3, i4⟩
      rw [List.length_nil] at i2
      repeat walk_at "ev"
      refine ⟨out, c', rfl, rfl, g3, by omega, by omega, ⟨(List.nodup_append.mp i3).1, fun x hx => i4 x (List.mem_append_left _ hx)⟩⟩
    · rintro d ds r cs ⟨left, out, c', o6, o7, rfl, rfl, g3, i1, i2, i3, i4⟩
      rw [List.length_cons] at i1 i2
      have ll : left.length ≤ 16777216 := by omega
      have lll : left.length = (L left).length := str_len left
      obtain ⟨s, c3, e3, g4, s1, s2, s3⟩ := take_ok c' g3 rest (left.length : Int) (by omega)
      have hs : s < (left.length : Int) := s2 (by omega)
      obtain ⟨m, rfl⟩ : ∃ m : Nat, s = (m : Int) := ⟨s.toNat, by omega⟩
      have hm : m < (L left).length := by omega
      have e4 := o_ixS (cs := c3 :: rest) ll (Wf.atI_nat (List.getElem?_eq_getElem hm))
      have hmem := List.getElem_mem hm
      have hdec : L left = (L left).take m ++ (L left)[m] :: (L left).drop (m + 1) := by
        rw [← List.drop_eq_getElem_cons hm, List.take_append_drop]
      generalize hx : (L left)[m] = x at e4 hmem hdec
      have e5 := o_addS (z := out) (y := Str.mk #[x]) (cs := c3 :: rest) (by rw [len_one]; omega)
      have e6 := o_slS (cs := c3 :: rest) (lo := none) (hi := some (m : Int)) ll
      have e7 := o_slS (cs := c3 :: rest) (lo := some ((m : Int) + 1)) (hi := none) ll
      have a1 := cutS_to left m
      have a2 := cutS_from left (m + 1)
      have e9 : (m : Int) + 1 = ((m + 1 : Nat) : Int) := by omega
      have e8 := o_addS (z := cutS left none (some (m : Int))) (y := cutS left (some ((m : Int) + 1)) none) (cs := c3 :: rest) (by rw [e9]; omega)
      have lenS := o_lenS (cs := c' :: rest) ll
      have L1 : L (out ++ Str.mk #[x]) = L out ++ [x] := L_app out (Str.mk #[x])
      have L2' : L (cutS left none (some (m : Int)) ++ cutS left (some ((m : Int) + 1)) none) = (L left).take m ++ (L left).drop (m + 1) := by
        rw [L_app, cutS_take, e9, cutS_drop]
      have hperm : (L (out ++ Str.mk #[x]) ++ L (cutS left none (some (m : Int)) ++ cutS left (some ((m : Int) + 1)) none)).Perm (L out ++ L left) := by
        rw [L1, L2']
        conv => rhs; rw [hdec]
        rw [List.append_assoc]
        refine List.Perm.append_left _ ?_
        exact (List.perm_middle (a := x) (l₁ := (L left).take m) (l₂ := (L left).drop (m + 1))).symm
      have ln : (cutS left none (some (m : Int)) ++ cutS left (some ((m : Int) + 1)) none).length + 1 = left.length := by
        have q1 : (cutS left none (some (m : Int)) ++ cutS left (some ((m : Int) + 1)) none).length = (L (cutS left none (some (m : Int)) ++ cutS left (some ((m : Int) + 1)) none)).length := str_len _
        rw [q1, L2', List.length_append, List.length_take, List.length_drop]
        omega
      have lo1 : (out ++ Str.mk #[x]).length = out.length + 1 := by rw [len_app, len_one]
      clear a1 a2 hdec hmem hx
      repeat (first | simp only [lenS, e3, e4, e5, e6, e7, e8, n_ok, R.bind_ok] | walk_at "ev")
      refine ⟨_, _, c3, _, _, rfl, rfl, g4, ?_, ?_, hperm.nodup_iff.mpr i3, fun y hy => i4 y (hperm.mem_iff.mp hy)⟩
      · omega
      · omega
    · rfl
    · rw [abc_len]
      unfold rng
      rw [List.length_map, List.length_range]
      omega
    · unfold rng
      rw [List.length_map, List.length_range, len_empty]
      omega
    · show (([] : List Nat) ++ L abc).Nodup
      exact abc_nodup
    · exact fun x hx => abc_low x hx
theorem ints_of {l : List D} (P : Int → Prop) : (∀ d ∈ l, ∃ z, d = .int z ∧ P z) → ∃ ss : List Int, l = ss.map D.int ∧ ∀ z ∈ ss, P z := by
  induction l with
  | nil => exact fun _ => ⟨[], rfl, fun z hz => by cases hz⟩
  | cons d l ih =>
    intro h
    obtain ⟨z, rfl, hz⟩ := h d (List.mem_cons_self ..)
    obtain ⟨ss, rfl, hs⟩ := ih fun e he => h e (List.mem_cons_of_mem _ he)
    refine ⟨z :: ss, rfl, fun y hy => ?_⟩
    rcases List.mem_cons.mp hy with hy | hy
    · rw [hy]
      exact hz
    · exact hs y hy
theorem heavy_ok (c : D) (hc : StOk c) (rest : List D) (n : Nat) (hn : n ≤ 1000) :
    ∃ (hs : List Int) (c' : D), f__law_heavy [.ref 0, .int (n : Nat)] (c :: rest) = .ok (.ref (rest.length + 1)) (c' :: (rest ++ [.lst (hs.map .int)])) ∧ StOk c' ∧ hs.length = n ∧ ∀ x ∈ hs, 1 ≤ x ∧ x ≤ 99 := by
  obtain ⟨t, c1, e1, g1, t1, t2, t3⟩ := take_ok c hc rest 4 (by decide)
  clear t1 t2 t3
  have q4 : -1000000000 ≤ ((n : Int)) ∧ ((n : Int)) < 1000000000 := by omega
  have x1 := k_rng1 (cs := c1 :: rest) q4
  have key : ∀ me : M, (∀ d ∈ rng 0 n, ∀ c, StOk c → ∃ y c', lcF (gtN 3) mYes me [some (.ref 0), some (.int (n : Int)), some (.int t), none] d (c :: rest) = .ok (some y) (c' :: rest) ∧ StOk c' ∧ ∃ z, y = .int z ∧ 1 ≤ z ∧ z ≤ 99) →
      ∃ (hs : List Int) (c' : D), mapR (lcF (gtN 3) mYes me [some (.ref 0), some (.int (n : Int)), some (.int t), none]) (rng 0 n) (c1 :: rest) = .ok (hs.map D.int) (c' :: rest) ∧ StOk c' ∧ hs.length = n ∧ (∀ x ∈ hs, 1 ≤ x ∧ x ≤ 99) ∧ (hs.map D.int).length < 16777216 ∧ nrs (hs.map D.int) = true := by
    intro me h
    obtain ⟨ys, c', e, h2, h3, h4⟩ := map_draws (fun y => ∃ z, y = .int z ∧ 1 ≤ z ∧ z ≤ 99) h c1 g1
    obtain ⟨hs, rfl, hp⟩ := ints_of (fun z => 1 ≤ z ∧ z ≤ 99) h4
    have hl : (hs.map D.int).length = n := by
      rw [h3]
      unfold rng
      simp
    exact ⟨hs, c', e, h2, by simpa using hl, hp, by omega, nrs_map fun _ => rfl⟩
  unfold f__law_heavy mDef m__law_heavy
  by_cases ht : t < 2
  · have x0 : decide (t < 2) = true := decide_eq_true ht
    obtain ⟨hs, c', k1, k2, k3, k4, k5, k6⟩ := key (mC (.int 1)) fun d _ c hc => ⟨.int 1, c, rfl, hc, 1, rfl, by decide, by decide⟩
    refine ⟨hs, c', ?_, k2, k3, k4⟩
    have x2 := k_lc2 (k := kDoneL) (cs := c' :: rest) k5
    have x3 := k_doneL (cs := c' :: rest) k6
    clear key ht k4 k3
    repeat (first | simp only [e1, x0, x1, k1, x2, x3, c_ok, n_ok, R.bind_ok] | walk_at "ev")
  · have x0 : decide (t < 2) = false := decide_eq_false ht
    by_cases ht2 : t = 2
    · have y0 : decide (t = 2) = true := decide_eq_true ht2
      obtain ⟨hs, c', k1, k2, k3, k4, k5, k6⟩ := key (mCall f__law_span (mCons (mV 0) (mCons (mC (.int 1)) (mCons (mC (.int 3)) mNil)))) fun d _ c hc => by
        obtain ⟨v, c', e, h1, h2, h3⟩ := span_ok c hc rest 1 3 (by decide) (by decide)
        refine ⟨.int v, c', ?_, h1, v, rfl, h2, by omega⟩
        repeat (first | simp only [e, n_ok, R.bind_ok] | walk_at "ev")
      refine ⟨hs, c', ?_, k2, k3, k4⟩
      have x2 := k_lc2 (k := kDoneL) (cs := c' :: rest) k5
      have x3 := k_doneL (cs := c' :: rest) k6
      clear key ht ht2 k4 k3
      repeat (first | simp only [e1, x0, y0, x1, k1, x2, x3, c_ok, n_ok, R.bind_ok] | walk_at "ev")
    · have y0 : decide (t = 2) = false := decide_eq_false ht2
      obtain ⟨hs, c', k1, k2, k3, k4, k5, k6⟩ := key (mCall f__law_in_range (mCons (mV 0) (mCons (mC (.int 1)) (mCons (mC (.int 99)) mNil)))) fun d _ c hc => by
        obtain ⟨v, c', e, h1, h2, h3⟩ := in_range_ok c hc rest 1 99 (by decide) (by decide)
        refine ⟨.int v, c', ?_, h1, v, rfl, h2, h3⟩
        repeat (first | simp only [e, n_ok, R.bind_ok] | walk_at "ev")
      refine ⟨hs, c', ?_, k2, k3, k4⟩
      have x2 := k_lc2 (k := kDoneL) (cs := c' :: rest) k5
      have x3 := k_doneL (cs := c' :: rest) k6
      clear key ht ht2 k4 k3
      repeat (first | simp only [e1, x0, y0, x1, k1, x2, x3, c_ok, n_ok, R.bind_ok] | walk_at "ev")
theorem word_ok {P : Nat → Prop} (c : D) (hc : StOk c) (rest : List D) (z : Str) (hz : 0 < z.length) (hz2 : z.length ≤ 16777216) (hP : AllC P z) (lo hi : Int) (h0 : 0 ≤ lo) (h1 : lo ≤ hi) (h2 : hi ≤ 32) :
    ∃ y c', f__law_word [.ref 0, .str z, .int lo, .int hi] (c :: rest) = .ok (.str y) (c' :: rest) ∧ StOk c' ∧ y.length ≤ 32 ∧ AllC P y := by
  obtain ⟨v, c1, e1, g1, v1, v2⟩ := in_range_ok c hc rest lo hi h1 (by omega)
  obtain ⟨n, rfl⟩ : ∃ n : Nat, v = (n : Int) := ⟨v.toNat, by omega⟩
  obtain ⟨t, c2, e2, g2, t1, t2, t3⟩ := take_ok c1 g1 rest 4 (by decide)
  clear t1 t2 t3
  have hn : n ≤ 32 := by omega
  unfold f__law_word mDef m__law_word
  by_cases ht : t = 0
  · have x0 : decide (t = 0) = true := decide_eq_true ht
    obtain ⟨y, c3, e3, g3, ly, py⟩ := pick_c c2 g2 rest z hz hz2 hP
    have e4 := o_mulS (z := y) (i := (n : Int)) (cs := c3 :: rest) ⟨by omega, by omega, by rw [ly, Int.toNat_natCast]; omega⟩
    refine ⟨strMul y (n : Int), c3, ?_, g3, by rw [mul_len, ly]; omega, all_mul py _⟩
    clear hP py ht
    repeat (first | simp only [e1, e2, e3, e4, x0, n_ok, R.bind_ok] | walk_at "ev")
  · have x0 : decide (t = 0) = false := decide_eq_false ht
    by_cases ht1 : t = 1
    · have x1 : decide (t = 1) = true := decide_eq_true ht1
      obtain ⟨y, c3, e3, g3, ly, py⟩ := pick_c c2 g2 rest z hz hz2 hP
      obtain ⟨y2, c4, e4, g4, ly2, py2⟩ := pick_c c3 g3 rest z hz hz2 hP
      have e5 := o_addS (z := y) (y := y2) (cs := c4 :: rest) (by omega)
      have l2 : (y ++ y2).length = 2 := by rw [len_app, ly, ly2]
      have e6 := o_mulS (z := y ++ y2) (i := (n : Int)) (cs := c4 :: rest) ⟨by omega, by omega, by rw [l2, Int.toNat_natCast]; omega⟩
      have l3 : (strMul (y ++ y2) (n : Int)).length ≤ 16777216 := by rw [mul_len, l2]; omega
      have e7 := o_slS (cs := c4 :: rest) (lo := none) (hi := some (n : Int)) l3
      have l4 := cutS_to (strMul (y ++ y2) (n : Int)) n
      refine ⟨cutS (strMul (y ++ y2) (n : Int)) none (some (n : Int)), c4, ?_, g4, by omega, all_cut (all_mul (all_app py py2) _) _ _⟩
      clear hP py py2 ht ht1 l4
      repeat (first | simp only [e1, e2, e3, e4, e5, e6, e7, x0, x1, n_ok, R.bind_ok] | walk_at "ev")
    · have x1 : decide (t = 1) = false := decide_eq_false ht1
      have q4 : -1000000000 ≤ ((n : Int)) ∧ ((n : Int)) < 1000000000 := by omega
      have x2 := k_rng1 (cs := c2 :: rest) q4
      obtain ⟨ss, c3, e3, g3, s1, s2, s3, s4⟩ := picks_ok (i := 7) (env := [some (.ref 0), some (.str z), some (.int lo), some (.int hi), some (.int (n : Int)), some (.int t), none, none]) (rest := rest) hz hz2 hP (fun _ => rfl) (fun _ => rfl) n (by omega) c2 g2
      have x3 := k_lc2 (k := kDone) (cs := c3 :: rest) (show (ss.map D.str).length < 16777216 by rw [List.length_map]; exact s1)
      refine ⟨Txt.join Str.empty ss, c3, ?_, g3, by omega, s3⟩
      clear hP s3 ht ht1 s2
      repeat (first | simp only [e1, e2, e3, s4, x0, x1, x2, x3, c_ok, n_ok, R.bind_ok] | walk_at "ev")
theorem near_ok {P : Nat → Prop} (c : D) (hc : StOk c) (rest : List D) (z w : Str) (hz : 0 < z.length) (hz2 : z.length ≤ 16777216) (hP : AllC P z) (hw : w.length ≤ 32) (hw2 : AllC P w) :
    ∃ y c', f__law_near [.ref 0, .str z, .str w] (c :: rest) = .ok (.str y) (c' :: rest) ∧ StOk c' ∧ y.length ≤ 32 ∧ AllC P y := by
  obtain ⟨t, c1, e1, g1, t1, t2, t3⟩ := take_ok c hc rest 7 (by decide)
  clear t1 t2 t3
  obtain ⟨s, c2, e2, g2, s1, s2, s3⟩ := take_ok c1 g1 rest ((w.length : Int) + 1) (by omega)
  obtain ⟨m, rfl⟩ : ∃ m : Nat, s = (m : Int) := ⟨s.toNat, by omega⟩
  have hm : m ≤ w.length := by
    by_cases h : (w.length : Int) + 1 < 2
    · have := s3 h
      omega
    · have := s2 (by omega)
      omega
  clear s1 s2 s3
  have lw : w.length ≤ 16777216 := by omega
  have lenw := fun cs => o_lenS (cs := cs) lw
  have sl1 := fun cs => o_slS (cs := cs) (lo := none) (hi := some (m : Int)) lw
  have sl2 := fun cs => o_slS (cs := cs) (lo := some (m : Int)) (hi := none) lw
  have sl3 := fun cs => o_slS (cs := cs) (lo := some ((m : Int) + 1)) (hi := none) lw
  have a1 := cutS_to w m
  have a2 := cutS_from w m
  have a3 := cutS_le w none (some (m : Int))
  have a4 := cutS_le w (some ((m : Int) + 1)) none
  have p1 := all_cut hw2 none (some (m : Int))
  have p2 := all_cut hw2 (some (m : Int)) none
  have p3 := all_cut hw2 (some ((m : Int) + 1)) none
  unfold f__law_near mDef m__law_near
  by_cases h0 : t = 0
  · have x0 : decide (t = 0) = true := decide_eq_true h0
    refine ⟨w, c2, ?_, g2, hw, hw2⟩
    clear h0 hP hw2 p1 p2 p3 a1 a2 a3 a4
    repeat (first | simp only [lenw, e1, e2, x0, n_ok, R.bind_ok] | walk_at "ev")
  · have x0 : decide (t = 0) = false := decide_eq_false h0
    by_cases h1 : t = 1
    · have x1 : decide (t = 1) = true := decide_eq_true h1
      refine ⟨cutS w none (some (m : Int)), c2, ?_, g2, by omega, p1⟩
      clear h0 h1 hP hw2 p1 p2 p3 a1 a2 a3 a4
      repeat (first | simp only [lenw, e1, e2, x0, x1, sl1, n_ok, R.bind_ok] | walk_at "ev")
    · have x1 : decide (t = 1) = false := decide_eq_false h1
      by_cases h2 : t = 2
      · have x2 : decide (t = 2) = true := decide_eq_true h2
        have ad := o_addS (z := cutS w (some (m : Int)) none) (y := cutS w none (some (m : Int))) (cs := c2 :: rest) (by omega)
        refine ⟨cutS w (some (m : Int)) none ++ cutS w none (some (m : Int)), c2, ?_, g2, by rw [len_app]; omega, all_app p2 p1⟩
        clear h0 h1 h2 hP hw2 p1 p2 p3 a1 a2 a3 a4
        repeat (first | simp only [lenw, e1, e2, x0, x1, x2, sl1, sl2, ad, n_ok, R.bind_ok] | walk_at "ev")
      · have x2 : decide (t = 2) = false := decide_eq_false h2
        by_cases h3 : t = 3
        · have x3 : decide (t = 3) = true := decide_eq_true h3
          have rv := k_revS (cs := c2 :: rest) lw
          refine ⟨revS w, c2, ?_, g2, by rw [revS_len]; exact hw, all_rev hw2⟩
          clear h0 h1 h2 h3 hP hw2 p1 p2 p3 a1 a2 a3 a4
          repeat (first | simp only [lenw, e1, e2, x0, x1, x2, x3, rv, n_ok, R.bind_ok] | walk_at "ev")
        · have x3 : decide (t = 3) = false := decide_eq_false h3
          by_cases h4 : t < 6
          · have x4 : decide (t < 6) = true := decide_eq_true h4
            obtain ⟨y, c3, e3, g3, ly, py⟩ := pick_c c2 g2 rest z hz hz2 hP
            have ad := o_addS (z := cutS w none (some (m : Int))) (y := y) (cs := c3 :: rest) (by omega)
            have l5 : (cutS w none (some (m : Int)) ++ y).length ≤ 33 := by rw [len_app]; omega
            have ad2 := o_addS (z := cutS w none (some (m : Int)) ++ y) (y := cutS w (some ((m : Int) + 1)) none) (cs := c3 :: rest) (by omega)
            have l6 : (cutS w none (some (m : Int)) ++ y ++ cutS w (some ((m : Int) + 1)) none).length ≤ 16777216 := by rw [len_app]; omega
            have sl4 := o_slS (cs := c3 :: rest) (lo := none) (hi := some 32) l6
            have l7 := cutS_to (cutS w none (some (m : Int)) ++ y ++ cutS w (some ((m : Int) + 1)) none) 32
            refine ⟨cutS (cutS w none (some (m : Int)) ++ y ++ cutS w (some ((m : Int) + 1)) none) none (some 32), c3, ?_, g3, l7, all_cut (all_app (all_app p1 py) p3) _ _⟩
            clear h0 h1 h2 h3 h4 hP hw2 p1 p2 p3 a1 a2 a3 a4 py l7
            repeat (first | simp only [lenw, e1, e2, e3, x0, x1, x2, x3, x4, sl1, sl3, sl4, ad, ad2, n_ok, R.bind_ok] | walk_at "ev")
          · have x4 : decide (t < 6) = false := decide_eq_false h4
            obtain ⟨y, c3, e3, g3, ly, py⟩ := word_ok c2 g2 rest z hz hz2 hP 0 32 (by decide) (by decide) (by decide)
            refine ⟨y, c3, ?_, g3, ly, py⟩
            clear h0 h1 h2 h3 h4 hP hw2 p1 p2 p3 a1 a2 a3 a4 py
            repeat (first | simp only [lenw, e1, e2, e3, x0, x1, x2, x3, x4, n_ok, R.bind_ok] | walk_at "ev")
theorem pick_r (c : D) (hc : StOk c) (rest : List D) (l : List D) (h : l ≠ []) (hl : l.length < 1000000000) (hn : nrs l = true) :
    ∃ d c', f__law_pick [.ref 0, .ref (rest.length + 1)] (c :: (rest ++ [.lst l])) = .ok d (c' :: (rest ++ [.lst l])) ∧ StOk c' ∧ d ∈ l := by
  obtain ⟨v, c', e, h1, h2, h3, h4⟩ := take_ok c hc (rest ++ [.lst l]) (l.length : Int) (by omega)
  have hp : 0 < l.length := List.length_pos_iff.mpr h
  have hv : v.toNat < l.length := by
    by_cases h5 : (l.length : Int) < 2
    · have := h4 h5
      omega
    · have := h3 (by omega)
      omega
  obtain ⟨n, rfl⟩ : ∃ n : Nat, v = (n : Int) := ⟨v.toNat, by omega⟩
  rw [Int.toNat_natCast] at hv
  have e2 : atI l (n : Int) = some l[n] := Wf.atI_nat (List.getElem?_eq_getElem hv)
  have e3 := o_ixR (cs := c' :: (rest ++ [.lst l])) (n := rest.length + 1) (l := l) (by simp) e2
  have e4 := o_lenR (cs := c :: (rest ++ [.lst l])) (n := rest.length + 1) (l := l) (by simp)
  have hd : nr l[n] = true := by
    rw [nrs_all, List.all_eq_true] at hn
    exact hn _ (List.getElem_mem hv)
  refine ⟨l[n], c', ?_, h1, List.getElem_mem hv⟩
  clear h3 h4 h2
  unfold f__law_pick mDef m__law_pick
  repeat (first | simp only [e, e3, e4, n_ok, R.bind_ok] | walk_at "ev")
  rw [f_nr hd, List.take_of_length_le (by simp)]
noncomputable def wordsTail : MS := (mSeq (mAsg (gtN 3) (mLstL (mCons (mCall f__law_word (mCons (mV 0) (mCons (mV 1) (mCons (mC (.int 0)) (mCons (mCall f__law_pick (mCons (mV 0) (mCons (mLst (mCons (mC (.int 6)) (mCons (mC (.int 6)) (mCons (mC (.int 32)) mNil)))) mNil))) mNil))))) mNil)))
  (mSeq (mFor (mRng1 (mCons (mOp subD (mV 2) (mC (.int 1))) mNil)) (gtN 4) (mSeq (mAsg (gtN 5) (mCall f__law_pick (mCons (mV 0) (mCons (mV 3) mNil))))
  (mExpr (mBM "list" appendD (mV 3) (mCons (mCall f__law_near (mCons (mV 0) (mCons (mV 1) (mCons (mV 5) mNil)))) mNil)))))
  (mRet (mV 3))))
theorem words_tail {P : Nat → Prop} (c3 : D) (g3 : StOk c3) (rest : List D) (z : Str) (hz : 0 < z.length) (hz2 : z.length ≤ 16777216) (hP : AllC P z) (n : Nat) (n1 : 2 ≤ n) (n2 : n ≤ 40) :
    Ok (finR (rest.length + 1) (wordsTail [some (.ref 0), some (.str z), some (.int (n : Nat)), none, none, none] (c3 :: rest))) (fun d cs' => ∃ (ws : List Str) (c' : D), d = .ref (rest.length + 1) ∧ cs' = c' :: (rest ++ [.lst (ws.map .str)]) ∧ StOk c' ∧ 2 ≤ ws.length ∧ ws.length ≤ 41 ∧ ∀ w ∈ ws, w.length ≤ 32 ∧ AllC P w) := by
  obtain ⟨d, c4, e4, g4, hd⟩ := pick_l c3 g3 rest [.int 6, .int 6, .int 32] (by simp) (by simp) (by rfl)
  obtain ⟨hi, rfl, hi1, hi2⟩ : ∃ hi : Int, d = .int hi ∧ 0 ≤ hi ∧ hi ≤ 32 := by
    simp at hd
    rcases hd with h | h
    · exact ⟨6, h, by decide, by decide⟩
    · exact ⟨32, h, by decide, by decide⟩
  obtain ⟨y, c5, e5, g5, ly, py⟩ := word_ok c4 g4 rest z hz hz2 hP 0 hi (by decide) hi1 hi2
  unfold wordsTail
  clear hd hi1 hi2
  have q4 : -1000000000 ≤ ((n : Int) - 1) ∧ ((n : Int) - 1) < 1000000000 := by omega
  have x1 := fun cs => k_rng1 (cs := cs) q4
  have hnr : nrs ([.str y] : List D) = true := rfl
  have hl0 : kLstL [.str y] (c5 :: rest) = .ok (.ref (rest.length + 1)) (c5 :: (rest ++ [.lst [.str y]])) := k_lstL ⟨by simp, hnr⟩
  repeat (first | simp only [e4, e5, hl0, x1, n_ok, R.bind_ok] | walk_at "ev")
  refine Ok_for (fun ds r cs => ∃ (ws : List Str) (c' : D) (o4 o5 : Option D), r = [some (.ref 0), some (.str z), some (.int (n : Nat)), some (.ref (rest.length + 1)), o4, o5] ∧ cs = c' :: (rest ++ [.lst (ws.map .str)]) ∧ StOk c' ∧ ws.length + ds.length = n ∧ 1 ≤ ws.length ∧ ∀ w ∈ ws, w.length ≤ 32 ∧ AllC P w) ?_ ?_ _ _ _ ⟨[y], c5, none, none, rfl, rfl, g5, ?_, by simp, fun w hw => ?_⟩
  · rintro r cs ⟨ws, c', o4, o5, rfl, rfl, g, i1, i2, i3⟩
    rw [List.length_nil] at i1
    repeat walk_at "ev"
    exact ⟨ws, c', rfl, g, by omega, by omega, i3⟩
  · rintro d ds r cs ⟨ws, c', o4, o5, rfl, rfl, g, i1, i2, i3⟩
    rw [List.length_cons] at i1
    have hnr : nrs (ws.map D.str) = true := nrs_map fun _ => rfl
    obtain ⟨d2, c6, e6, g6, hd2⟩ := pick_r c' g rest (ws.map D.str) (by intro h; rw [List.map_eq_nil_iff] at h; rw [h] at i2; simp at i2) (by rw [List.length_map]; omega) hnr
    obtain ⟨w0, hw0, rfl⟩ := List.mem_map.mp hd2
    obtain ⟨l0, p0⟩ := i3 w0 hw0
    obtain ⟨y2, c7, e7, g7, l7, p7⟩ := near_ok c6 g6 (rest ++ [.lst (ws.map D.str)]) z w0 hz hz2 hP l0 p0
    have ap := o_appendA1 (c0 := c7) (rest := rest) (l := ws.map D.str) (d := .str y2) ⟨by rw [List.length_map]; omega, rfl, hnr⟩
    have ty := t_last1 (c0 := c6) (rest := rest) (l := ws.map D.str)
    clear hd2
    repeat (first | simp only [e6, e7, ap, ty, n_ok, R.bind_ok] | walk_at "ev")
    refine ⟨ws ++ [y2], c7, _, _, rfl, by rw [List.map_append]; rfl, g7, ?_, ?_, fun w hw => ?_⟩
    · rw [List.length_append, List.length_singleton]
      omega
    · rw [List.length_append, List.length_singleton]
      omega
    · rcases List.mem_append.mp hw with h | h
      · exact i3 w h
      · rw [List.mem_singleton.mp h]
        exact ⟨l7, p7⟩
  · unfold rng
    rw [List.length_map, List.length_range, List.length_singleton]
    omega
  · rw [List.mem_singleton.mp hw]
    exact ⟨ly, py⟩
theorem words_ok {P : Nat → Prop} (c : D) (hc : StOk c) (rest : List D) (z : Str) (hz : 0 < z.length) (hz2 : z.length ≤ 16777216) (hP : AllC P z) :
    ∃ (ws : List Str) (c' : D), f__law_words [.ref 0, .str z] (c :: rest) = .ok (.ref (rest.length + 1)) (c' :: (rest ++ [.lst (ws.map .str)])) ∧ StOk c' ∧ 2 ≤ ws.length ∧ ws.length ≤ 41 ∧ ∀ w ∈ ws, w.length ≤ 32 ∧ AllC P w := by
  obtain ⟨t, c1, e1, g1, t1, t2, t3⟩ := take_ok c hc rest 7 (by decide)
  have t2' := t2 (by decide)
  clear t2 t3
  obtain ⟨b, c2, e2, g2⟩ := rare_ok c1 g1 rest 10 (by decide)
  suffices hh : Ok (f__law_words [.ref 0, .str z] (c :: rest)) (fun d cs' => ∃ (ws : List Str) (c' : D), d = .ref (rest.length + 1) ∧ cs' = c' :: (rest ++ [.lst (ws.map .str)]) ∧ StOk c' ∧ 2 ≤ ws.length ∧ ws.length ≤ 41 ∧ ∀ w ∈ ws, w.length ≤ 32 ∧ AllC P w) by
    obtain ⟨d, cs', e, ws, c', q1, q2, q3⟩ := Ok_get hh
    exact ⟨ws, c', by rw [e, q1, q2], q3⟩
  rw [show f__law_words = mDef 2 6 (mSeq (mAsg (gtN 2) (mOp addD (mC (.int 2)) (mCall f__law_take (mCons (mV 0) (mCons (mC (.int 7)) mNil))))) (mSeq (mIf (mB (mCall f__law_rare (mCons (mV 0) (mCons (mC (.int 10)) mNil)))) (mAsg (gtN 2) (mOp addD (mC (.int 20)) (mCall f__law_take (mCons (mV 0) (mCons (mC (.int 21)) mNil))))) mSkip) wordsTail)) from rfl]
  unfold mDef
  cases b with
  | false =>
    have wt := words_tail c2 g2 rest z hz hz2 hP (2 + t).toNat (by omega) (by omega)
    rw [show (((2 + t).toNat : Nat) : Int) = 2 + t by omega] at wt
    repeat (first | simp only [e1, e2, n_ok, R.bind_ok] | walk_at "ev")
    exact wt
  | true =>
    obtain ⟨v, c3, e3, g3, v1, v2, v3⟩ := take_ok c2 g2 rest 21 (by decide)
    have v2' := v2 (by decide)
    clear v2 v3
    have wt := words_tail c3 g3 rest z hz hz2 hP (20 + v).toNat (by omega) (by omega)
    rw [show (((20 + v).toNat : Nat) : Int) = 20 + v by omega] at wt
    repeat (first | simp only [e1, e2, e3, n_ok, R.bind_ok] | walk_at "ev")
    exact wt
theorem spot_ok (c : D) (hc : StOk c) (rest : List D) (n : Nat) (hn : n ≤ 100000) : ∃ (m : Nat) (c' : D), f__law_take [.ref 0, .int ((n : Int) + 1)] (c :: rest) = .ok (.int (m : Nat)) (c' :: rest) ∧ StOk c' ∧ m ≤ n := by
  obtain ⟨s, c2, e2, g2, s1, s2, s3⟩ := take_ok c hc rest ((n : Int) + 1) (by omega)
  refine ⟨s.toNat, c2, ?_, g2, ?_⟩
  · rw [e2, Int.toNat_of_nonneg s1]
  · by_cases h : (n : Int) + 1 < 2
    · have := s3 h
      omega
    · have := s2 (by omega)
      omega
theorem kind_ok (c : D) (hc : StOk c) (rest : List D) (n : Int) (hn : 2 ≤ n) (hn2 : n < 1000000) : ∃ (t : Int) (c' : D), f__law_take [.ref 0, .int n] (c :: rest) = .ok (.int t) (c' :: rest) ∧ StOk c' ∧ 0 ≤ t ∧ t < n := by
  obtain ⟨s, c2, e2, g2, s1, s2, s3⟩ := take_ok c hc rest n (by omega)
  exact ⟨s, c2, e2, g2, s1, s2 hn⟩
theorem tru (x : Nat) : (fun _ => True : Nat → Prop) x := trivial
theorem allT (z : Str) : AllC (fun _ => True) z := fun _ _ => trivial
theorem bad_letters_ok (c : D) (hc : StOk c) (rest : List D) : ∃ y c', f__law_bad_letters [.ref 0] (c :: rest) = .ok (.str y) (c' :: rest) ∧ StOk c' ∧ y.length ≤ 20 := by
  obtain ⟨t, c1, e1, g1, t1, t2⟩ := kind_ok c hc rest 5 (by decide) (by decide)
  clear t1 t2
  unfold f__law_bad_letters mDef m__law_bad_letters
  by_cases h0 : t = 0
  · have x0 : decide (t = 0) = true := decide_eq_true h0
    refine ⟨Str.ofString "", c1, ?_, g1, by decide +kernel⟩
    clear h0
    repeat (first | simp only [e1, x0, n_ok, R.bind_ok] | walk_at "ev")
  · have x0 : decide (t = 0) = false := decide_eq_false h0
    by_cases h1 : t = 1
    · have x1 : decide (t = 1) = true := decide_eq_true h1
      obtain ⟨y, c2, e2, g2, l1, l2, _⟩ := letters_ok c1 g1 rest 7 8 (by decide) (by decide) (by decide)
      refine ⟨y, c2, ?_, g2, by omega⟩
      clear h0 h1 l1 l2
      repeat (first | simp only [e1, e2, x0, x1, n_ok, R.bind_ok] | walk_at "ev")
    · have x1 : decide (t = 1) = false := decide_eq_false h1
      obtain ⟨y, c2, e2, g2, l1, l2, _⟩ := letters_ok c1 g1 rest 1 6 (by decide) (by decide) (by decide)
      have ly : y.length ≤ 16777216 := by omega
      have ly6 : y.length ≤ 6 := by omega
      have ly1 : 0 < y.length := by omega
      have leny := fun cs => o_lenS (cs := cs) ly
      obtain ⟨m, c3, e3, g3, hm⟩ := spot_ok c2 g2 rest y.length (by omega)
      have sl1 := fun cs => o_slS (cs := cs) (lo := none) (hi := some (m : Int)) ly
      have sl2 := fun cs => o_slS (cs := cs) (lo := some (m : Int)) (hi := none) ly
      have a1 := cutS_le y none (some (m : Int))
      have a2 := cutS_le y (some (m : Int)) none
      clear l1 l2
      have mid : ∀ (q : Str) (c4 : D), q.length = 1 → ∀ cs, addD (.str (cutS y none (some (m : Int)))) (.str q) cs = .ok (.str (cutS y none (some (m : Int)) ++ q)) cs ∧ addD (.str (cutS y none (some (m : Int)) ++ q)) (.str (cutS y (some (m : Int)) none)) cs = .ok (.str (cutS y none (some (m : Int)) ++ q ++ cutS y (some (m : Int)) none)) cs ∧ (cutS y none (some (m : Int)) ++ q ++ cutS y (some (m : Int)) none).length ≤ 20 := fun q c4 hq cs =>
        ⟨o_addS (by omega), o_addS (by rw [len_app]; omega), by rw [len_app, len_app]; omega⟩
      by_cases h2 : t = 2
      · have x2 : decide (t = 2) = true := decide_eq_true h2
        obtain ⟨q, c4, e4, g4, lq, _⟩ := pick_c c3 g3 rest y ly1 ly (allT y)
        obtain ⟨b1, b2, b3⟩ := mid q c4 lq (c4 :: rest)
        refine ⟨_, c4, ?_, g4, b3⟩
        clear h0 h1 h2 mid b3 a1 a2
        repeat (first | simp only [leny, e1, e2, e3, e4, x0, x1, x2, sl1, sl2, b1, b2, n_ok, R.bind_ok] | walk_at "ev")
      · have x2 : decide (t = 2) = false := decide_eq_false h2
        by_cases h3 : t = 3
        · have x3 : decide (t = 3) = true := decide_eq_true h3
          obtain ⟨q, c4, e4, g4, lq, _⟩ := pick_c c3 g3 rest (Str.ofString "AZ059 -_:~") (by decide +kernel) (by decide +kernel) (allT _)
          obtain ⟨b1, b2, b3⟩ := mid q c4 lq (c4 :: rest)
          refine ⟨_, c4, ?_, g4, b3⟩
          clear h0 h1 h2 h3 mid b3 a1 a2
          repeat (first | simp only [leny, e1, e2, e3, e4, x0, x1, x2, x3, sl1, sl2, b1, b2, n_ok, R.bind_ok] | walk_at "ev")
        · have x3 : decide (t = 3) = false := decide_eq_false h3
          obtain ⟨s, c4, e4, g4, s1, s2, s3⟩ := take_ok c3 g3 rest (y.length : Int) (by omega)
          clear s1 s2 s3
          obtain ⟨q, c5, e5, g5, lq, _⟩ := pick_c c4 g4 rest (Str.ofString "AQZ1 .") (by decide +kernel) (by decide +kernel) (allT _)
          have sl3 := fun cs => o_slS (cs := cs) (lo := none) (hi := some s) ly
          have sl4 := fun cs => o_slS (cs := cs) (lo := some (s + 1)) (hi := none) ly
          have a3 := cutS_le y none (some s)
          have a4 := cutS_le y (some (s + 1)) none
          have b1 := o_addS (z := cutS y none (some s)) (y := q) (cs := c5 :: rest) (by omega)
          have b2 := o_addS (z := cutS y none (some s) ++ q) (y := cutS y (some (s + 1)) none) (cs := c5 :: rest) (by rw [len_app]; omega)
          refine ⟨cutS y none (some s) ++ q ++ cutS y (some (s + 1)) none, c5, ?_, g5, by rw [len_app, len_app]; omega⟩
          clear h0 h1 h2 h3 mid a1 a2 a3 a4
          repeat (first | simp only [leny, e1, e2, e3, e4, e5, x0, x1, x2, x3, sl3, sl4, b1, b2, n_ok, R.bind_ok] | walk_at "ev")
theorem out_ok1 (c : D) (hc : StOk c) (rest : List D) : ∃ (x : Int) (c' : D), f__law_out_of_range [.ref 0, .int 1, .int 99] (c :: rest) = .ok (.int x) (c' :: rest) ∧ StOk c' := by
  obtain ⟨t, c1, e1, g1, t1, t2⟩ := kind_ok c hc rest 9 (by decide) (by decide)
  obtain ⟨u, c2, e2, g2, u1, u2⟩ := kind_ok c1 g1 rest 999 (by decide) (by decide)
  clear t1 t2 u1 u2
  have pw : ∀ cs, powD (.int 10) (.int 18) cs = .ok (.int 1000000000000000000) cs := fun cs => by
    rw [o_pow (i := 10) (j := 18) (by decide)]
    rw [show (10 : Int) ^ (18 : Int).toNat = 1000000000000000000 by decide +kernel]
  obtain ⟨d, c3, e3, g3, hd⟩ := pick_l c2 g2 rest ([.int (1 - 1), .int (99 + 1), .int (1 - 2 - t), .int (99 + 2 + u)] ++ [.int (1000000000000000000 - 1), .int (1 - 1000000000000000000)]) (by simp) (by simp) (by rfl)
  have : ∃ x, d = .int x := by
    simp only [List.cons_append, List.nil_append, List.mem_cons, List.not_mem_nil, or_false] at hd
    rcases hd with h | h | h | h | h | h <;> exact ⟨_, h⟩
  obtain ⟨x, rfl⟩ := this
  have ad := o_addL (l := [.int (1 - 1), .int (99 + 1), .int (1 - 2 - t), .int (99 + 2 + u)]) (k := [.int (1000000000000000000 - 1), .int (1 - 1000000000000000000)]) (cs := c2 :: rest) (by simp)
  refine ⟨x, c3, ?_, g3⟩
  clear hd
  simp only [List.cons_append, List.nil_append] at e3 ad
  unfold f__law_out_of_range mDef m__law_out_of_range
  repeat (first | simp only [e1, e2, pw, ad, e3, n_ok, R.bind_ok] | walk_at "ev")
theorem o_slR {n : Nat} {l : List D} {cs : List D} {lo hi : Option Int} (h : cs[n]? = some (.lst l)) : slD (.ref n) lo hi cs = .ok (.lst (cutD l lo hi)) cs := by
  unfold slD
  simp [lstOf, h]
theorem o_addR {n : Nat} {l k : List D} {cs : List D} (h : cs[n]? = some (.lst l)) (hl : l.length + k.length ≤ 16777216) : addD (.ref n) (.lst k) cs = .ok (.lst (l ++ k)) cs := by
  unfold addD
  simp [lstOwn, h, sz, hl]
theorem bad_heavy_ok (c : D) (hc : StOk c) (rest : List D) (n : Nat) (h1 : 1 ≤ n) (hn : n ≤ 100) :
    ∃ (hs : List Int) (c' : D), (f__law_bad_heavy [.ref 0, .int (n : Nat)] (c :: rest) = .ok (.lst (hs.map .int)) (c' :: rest) ∨ f__law_bad_heavy [.ref 0, .int (n : Nat)] (c :: rest) = .ok (.ref (rest.length + 1)) (c' :: (rest ++ [.lst (hs.map .int)]))) ∧ StOk c' ∧ hs.length ≤ 200 := by
  obtain ⟨hs, c1, e1, g1, l1, _⟩ := heavy_ok c hc rest n (by omega)
  obtain ⟨t, c2, e2, g2, t1, t2⟩ := kind_ok c1 g1 (rest ++ [.lst (hs.map .int)]) 5 (by decide) (by decide)
  clear t1 t2
  have cut_int : ∀ (lo hi : Option Int), ∃ q : List Int, cutD (hs.map D.int) lo hi = q.map D.int ∧ q.length ≤ hs.length := fun lo hi => by
    unfold cutD
    rw [← List.map_drop, ← List.map_take]
    exact ⟨_, rfl, by rw [List.length_take, List.length_drop]; omega⟩
  have tk : ∀ (c : D) (l : D), List.take (rest.length + 1) (c :: (rest ++ [l])) = c :: rest := fun c l => by simp
  have tk2 : ∀ (l : D), List.take rest.length (rest ++ [l]) = rest := fun l => by simp
  unfold f__law_bad_heavy mDef m__law_bad_heavy
  by_cases h0 : t = 0
  · have x0 : decide (t = 0) = true := decide_eq_true h0
    obtain ⟨q, q1, q2⟩ := cut_int none (some ((n : Int) - 1))
    have sl := o_slR (cs := c2 :: (rest ++ [.lst (hs.map .int)])) (n := rest.length + 1) (l := hs.map .int) (lo := none) (hi := some ((n : Int) - 1)) (by simp)
    rw [q1] at sl
    have fn := f_nr (n := rest.length + 1) (cs := c2 :: (rest ++ [.lst (hs.map .int)])) (d := .lst (q.map .int)) (nrs_map fun _ => rfl)
    refine ⟨q, c2, .inl ?_, g2, by omega⟩
    clear cut_int q1 q2 h0
    repeat (first | simp only [e1, e2, x0, sl, fn, tk, n_ok, R.bind_ok] | walk_at "ev")
    (try simp)
  · have x0 : decide (t = 0) = false := decide_eq_false h0
    by_cases h2 : t = 1
    · have x1 : decide (t = 1) = true := decide_eq_true h2
      obtain ⟨v, c3, e3, g3, _, _⟩ := in_range_ok c2 g2 (rest ++ [.lst (hs.map .int)]) 1 99 (by decide) (by decide)
      have ad := o_addR (cs := c3 :: (rest ++ [.lst (hs.map .int)])) (n := rest.length + 1) (l := hs.map .int) (k := [.int v]) (by simp) (by simp; omega)
      have em : hs.map D.int ++ [D.int v] = (hs ++ [v]).map D.int := by simp
      rw [em] at ad
      have fn := f_nr (n := rest.length + 1) (cs := c3 :: (rest ++ [.lst (hs.map .int)])) (d := .lst ((hs ++ [v]).map .int)) (nrs_map fun _ => rfl)
      refine ⟨hs ++ [v], c3, .inl ?_, g3, by rw [List.length_append, List.length_singleton]; omega⟩
      clear cut_int h0 h2 em
      repeat (first | simp only [e1, e2, e3, x0, x1, ad, fn, tk, n_ok, R.bind_ok] | walk_at "ev")
      (try simp)
    · have x1 : decide (t = 1) = false := decide_eq_false h2
      by_cases h3 : t = 2
      · have x2 : decide (t = 2) = true := decide_eq_true h3
        have kl : kLstL [] (c2 :: (rest ++ [.lst (hs.map .int)])) = .ok (.ref (rest.length + 1 + 1)) (c2 :: (rest ++ [.lst (hs.map .int), .lst []])) := by
          rw [k_lstL ⟨by simp, rfl⟩]
          simp
        have fo : finR (rest.length + 1) (.ok (.ret (.ref (rest.length + 1 + 1))) (c2 :: (rest ++ [.lst (hs.map .int), .lst []]))) = .ok (.ref (rest.length + 1)) (c2 :: (rest ++ [.lst []])) := by
          show outR (rest.length + 1) (.ref (rest.length + 1 + 1)) _ = _
          rw [out_ref (c := .lst []) (by omega) (by simp)]
          simp
        refine ⟨[], c2, .inr ?_, g2, by simp⟩
        clear cut_int h0 h2 h3
        repeat (first | simp only [e1, e2, x0, x1, x2, kl, fo, n_ok, R.bind_ok] | walk_at "ev")
        (try simp)
        exact fo
      · have x2 : decide (t = 2) = false := decide_eq_false h3
        obtain ⟨x, c3, e3, g3⟩ := out_ok1 c2 g2 (rest ++ [.lst (hs.map .int)])
        obtain ⟨s, c4, e4, g4, s1, s2, s3⟩ := take_ok c3 g3 (rest ++ [.lst (hs.map .int)]) (n : Int) (by omega)
        obtain ⟨m, rfl⟩ : ∃ m : Nat, s = (m : Int) := ⟨s.toNat, by omega⟩
        have hm : m < hs.length := by
          by_cases h : (n : Int) < 2
          · have := s3 h
            omega
          · have := s2 (by omega)
            omega
        clear s1 s2 s3
        have st := o_set (cs := c4 :: (rest ++ [.lst (hs.map .int)])) (n := rest.length + 1) (i := (m : Int)) (l := hs.map .int) (j' := m) (d := .int x) (by simp) (ixN_nat (by rw [List.length_map]; exact hm)) rfl
        have em : (hs.map D.int).set m (.int x) = (hs.set m x).map D.int := by rw [List.map_set]
        have es : (c4 :: (rest ++ [.lst (hs.map .int)])).set (rest.length + 1) (.lst ((hs.map D.int).set m (.int x))) = c4 :: (rest ++ [.lst ((hs.set m x).map .int)]) := by
          rw [em]
          simp
        rw [es] at st
        have ks := fun r : Wf.Env => k_sub3 (r := r) st
        refine ⟨hs.set m x, c4, .inr ?_, g4, by rw [List.length_set]; omega⟩
        clear cut_int h0 h2 h3 em es st
        repeat (first | simp only [e1, e2, e3, e4, x0, x1, x2, ks, n_ok, R.bind_ok] | walk_at "ev")
        (try simp)
theorem map_part {α : Type} {f : D → List D → R (Option D)} {g : α → D} {cs : List D} {p : α → Bool} : ∀ {l : List α}, (∀ a ∈ l, f (g a) cs = .ok (if p a then some (g a) else none) cs) → mapR f (l.map g) cs = .ok ((l.filter p).map g) cs
  | [], _ => rfl
  | a :: l, h => by
    rw [List.map_cons]
    unfold mapR
    rw [h a (List.mem_cons_self ..), R.bind_ok, map_part (l := l) fun e he => h e (List.mem_cons_of_mem _ he), R.bind_ok]
    cases hp : p a with
    | true => rw [List.filter_cons_of_pos hp]; rfl
    | false => rw [List.filter_cons_of_neg (by rw [hp]; exact Bool.false_ne_true)]; rfl
theorem nodup_le : ∀ {l m : List Nat}, l.Nodup → (∀ x ∈ l, x ∈ m) → l.length ≤ m.length
  | [], m, _, _ => Nat.zero_le _
  | a :: l, m, h, hs => by
    have ha : a ∈ m := hs a (List.mem_cons_self ..)
    have h1 := List.nodup_cons.mp h
    have h2 := nodup_le (l := l) (m := m.erase a) h1.2 fun x hx => (List.mem_erase_of_ne (fun e => h1.1 (by rw [← e]; exact hx))).mpr (hs x (List.mem_cons_of_mem _ hx))
    rw [List.length_erase_of_mem ha] at h2
    have := List.length_pos_of_mem ha
    rw [List.length_cons]
    omega
def lowP (c : Nat) : Prop := c < 1114112
theorem low_P {c : Nat} (h : lowB c = true) : lowP c := by
  unfold lowB at h
  unfold lowP
  have := (Bool.and_eq_true _ _ ▸ h)
  have h2 := of_decide_eq_true this.2
  omega
def outs (z : Str) : List Nat := (L abc).filter fun c => !decide (c ∈ L z)
theorem outs_ne {z : Str} (h : z.length ≤ 8) : outs z ≠ [] := fun e => by
  have h1 : ∀ x ∈ L abc, x ∈ L z := fun x hx => by
    by_cases hz : x ∈ L z
    · exact hz
    · have : x ∈ outs z := List.mem_filter.mpr ⟨hx, by rw [decide_eq_false hz]; rfl⟩
      rw [e] at this
      cases this
  have h2 := nodup_le abc_nodup h1
  have h3 : z.length = (L z).length := str_len z
  rw [abc_L, List.length_range'] at h2
  omega
theorem stranger_ok (c : D) (hc : StOk c) (rest : List D) (z : Str) (hz : z.length ≤ 8) : ∃ y c', f__law_stranger [.ref 0, .str z] (c :: rest) = .ok (.str y) (c' :: rest) ∧ StOk c' ∧ y.length = 1 ∧ AllC lowP y := by
  have hm : mapR (lcF (gtN 2) (mB (mOp notInD (mV 2) (mV 1))) (mV 2) [some (.ref 0), some (.str z), none]) (chrs abc) (c :: rest) = .ok ((outs z).map fun c => D.str (sgn c)) (c :: rest) := by
    rw [chrs_eq]
    refine map_part fun a ha => ?_
    have := o_notS z a (c :: rest)
    by_cases h : a ∈ L z
    · have q := decide_eq_true h
      rw [q] at this
      rw [q]
      clear h q ha
      walk_at "eva"
      rfl
    · have q := decide_eq_false h
      rw [q] at this
      rw [q]
      clear h q ha
      walk_at "eva"
  have hl : ((outs z).map fun c => D.str (sgn c)).length < 16777216 := by
    rw [List.length_map]
    have h1 : (outs z).length ≤ (L abc).length := List.length_filter_le ..
    have h2 : (L abc).length = 26 := by rw [abc_L, List.length_range']
    omega
  have hn : nrs ((outs z).map fun c => D.str (sgn c)) = true := nrs_map fun _ => rfl
  obtain ⟨d, c1, e1, g1, hd⟩ := pick_l c hc rest _ (by intro h; exact outs_ne hz (List.map_eq_nil_iff.mp h)) (by omega) hn
  obtain ⟨a, ha, rfl⟩ := List.mem_map.mp hd
  have ha2 := (List.mem_filter.mp ha).1
  refine ⟨sgn a, c1, ?_, g1, rfl, all_sgn (low_P (abc_low a ha2))⟩
  have x2 := k_lc2 (k := kDone) (cs := c :: rest) hl
  have habc : (Str.ofString "abcdefghijklmnopqrstuvwxyz") = abc := rfl
  clear hd ha ha2
  unfold f__law_stranger mDef m__law_stranger
  rw [habc]
  repeat (first | simp only [hm, x2, e1, c_ok, n_ok, R.bind_ok] | walk_at "ev")
noncomputable def badTail : MS := (mSeq (mAsg (gtN 4) (mBM "str" joinD (mC (.str "")) (mCons (mLc [5] (mRng1 (mCons (mV 3) mNil)) (gtN 5) mYes (mCall f__law_pick (mCons (mV 0) (mCons (mV 1) mNil)))) mNil)))
  (mSeq (mIf (mB (mOp eqD (mV 2) (mC (.int 2)))) (mRet (mTup (mCons (mV 4) (mCons (mTup (mCons (mC (.str "TooLong")) mNil)) mNil)))) mSkip)
  (mSeq (mAsg (gtN 6) (mCall f__law_take (mCons (mV 0) (mCons (mOp addD (mV 3) (mC (.int 1))) mNil))))
  (mSeq (mAsg (gtN 7) (mCall f__law_pick (mCons (mV 0) (mCons (mC (.str " !\"#$&'()*+,-./0123456789:;<=>?@AMZ[\\]^_`{|}~")) mNil))))
  (mSeq (mAsg (gtN 4) (mOp addD (mOp addD (mSl slD (mV 4) mNoP (mP (mV 6))) (mCall f__law_pick (mCons (mV 0) (mCons (mLst (mCons (mCall f__law_stranger (mCons (mV 0) (mCons (mV 1) mNil))) (mCons (mV 7) mNil))) mNil)))) (mSl slD (mV 4) (mP (mV 6)) mNoP)))
  (mRet (mTup (mCons (mV 4) (mCons (mTup (mCons (mC (.str "BadWord")) (mCons (mV 4) mNil))) mNil)))))))))
theorem f_tupR {n : Nat} {w : Str} {X : D} {cs : List D} (h : nr X = true) : finR n (.ok (.ret (.tup [.str w, X])) cs) = .ok (.tup [.str w, X]) (cs.take n) :=
  f_nr (by rw [n_tup, n_cons, n_cons, n_nil, n_str, h]; rfl)
theorem bad_tail (c : D) (hc : StOk c) (rest : List D) (z : Str) (hz0 : 0 < z.length) (hz : z.length ≤ 8) (hP : AllC lowP z) (n : Nat) (hn : n ≤ 40) (t : Int) :
    ∃ w X c', finR (rest.length + 1) (badTail [some (.ref 0), some (.str z), some (.int t), some (.int (n : Nat)), none, none, none, none] (c :: rest)) = .ok (.tup [.str w, X]) (c' :: rest) ∧ StOk c' ∧ w.length ≤ 100 ∧ AllC lowP w ∧ nr X = true := by
  have q4 : -1000000000 ≤ ((n : Int)) ∧ ((n : Int)) < 1000000000 := by omega
  have x2 := k_rng1 (cs := c :: rest) q4
  obtain ⟨ss, c3, e3, g3, s1, s2, s3, s4⟩ := picks_ok (i := 5) (env := [some (.ref 0), some (.str z), some (.int t), some (.int (n : Int)), none, none, none, none]) (rest := rest) hz0 (by omega) hP (fun _ => rfl) (fun _ => rfl) n (by omega) c hc
  have x3 := k_lc2 (k := kDone) (cs := c3 :: rest) (show (ss.map D.str).length < 16777216 by rw [List.length_map]; exact s1)
  generalize Txt.join Str.empty ss = y at s2 s3 s4
  unfold badTail
  by_cases h2 : t = 2
  · have y2 : decide (t = 2) = true := decide_eq_true h2
    refine ⟨y, .tup [.str "TooLong"], c3, ?_, g3, by omega, s3, rfl⟩
    have fr := f_tupR (n := rest.length + 1) (w := y) (X := .tup [.str "TooLong"]) (cs := c3 :: rest) rfl
    clear hP h2 s2
    repeat (first | simp only [e3, s4, x2, x3, y2, c_ok, n_ok, R.bind_ok] | walk_at "ev")
    rw [fr, List.take_succ_cons, List.take_length]
  · have y2 : decide (t = 2) = false := decide_eq_false h2
    obtain ⟨m, c4, e4, g4, hm⟩ := spot_ok c3 g3 rest n (by omega)
    obtain ⟨o, c5, e5, g5, lo, po⟩ := pick_c (P := lowP) c4 g4 rest (Str.ofString " !\"#$&'()*+,-./0123456789:;<=>?@AMZ[\\]^_`{|}~") (by decide +kernel) (by decide +kernel) (fun c hc => by
      have : ∀ c ∈ L (Str.ofString " !\"#$&'()*+,-./0123456789:;<=>?@AMZ[\\]^_`{|}~"), c < 1114112 := by decide +kernel
      exact this c hc)
    obtain ⟨st, c6, e6, g6, ls, ps⟩ := stranger_ok c5 g5 rest z hz
    obtain ⟨d, c7, e7, g7, hd⟩ := pick_l c6 g6 rest [.str st, .str o] (by simp) (by simp) (by rfl)
    obtain ⟨q, rfl, lq, pq⟩ : ∃ q, d = .str q ∧ q.length = 1 ∧ AllC lowP q := by
      rcases List.mem_cons.mp hd with h | h
      · exact ⟨st, h, ls, ps⟩
      · exact ⟨o, List.mem_singleton.mp h, lo, po⟩
    have ly : y.length ≤ 16777216 := by omega
    have a1 := cutS_le y none (some (m : Int))
    have a2 := cutS_le y (some (m : Int)) none
    have sl1 := fun cs => o_slS (cs := cs) (lo := none) (hi := some (m : Int)) ly
    have sl2 := fun cs => o_slS (cs := cs) (lo := some (m : Int)) (hi := none) ly
    have b1 := o_addS (z := cutS y none (some (m : Int))) (y := q) (cs := c7 :: rest) (by omega)
    have b2 := o_addS (z := cutS y none (some (m : Int)) ++ q) (y := cutS y (some (m : Int)) none) (cs := c7 :: rest) (by rw [len_app]; omega)
    have p3 : AllC lowP (cutS y none (some (m : Int)) ++ q ++ cutS y (some (m : Int)) none) := all_app (all_app (all_cut s3 _ _) pq) (all_cut s3 _ _)
    have l3 : (cutS y none (some (m : Int)) ++ q ++ cutS y (some (m : Int)) none).length ≤ 100 := by rw [len_app, len_app]; omega
    refine ⟨cutS y none (some (m : Int)) ++ q ++ cutS y (some (m : Int)) none, .tup [.str "BadWord", .str (cutS y none (some (m : Int)) ++ q ++ cutS y (some (m : Int)) none)], c7, ?_, g7, l3, p3, rfl⟩
    have fr := f_tupR (n := rest.length + 1) (w := cutS y none (some (m : Int)) ++ q ++ cutS y (some (m : Int)) none) (X := .tup [.str "BadWord", .str (cutS y none (some (m : Int)) ++ q ++ cutS y (some (m : Int)) none)]) (cs := c7 :: rest) rfl
    clear hP h2 s2 s3 p3 l3 pq lq hd ps ls po lo a1 a2
    repeat (first | simp only [e3, e4, e5, e6, e7, s4, x2, x3, y2, sl1, sl2, b1, b2, c_ok, n_ok, R.bind_ok] | walk_at "ev")
    rw [fr, List.take_succ_cons, List.take_length]
theorem bad_is : f__law_bad_word = mDef 2 8 (mSeq (mAsg (gtN 2) (mCall f__law_take (mCons (mV 0) (mCons (mC (.int 4)) mNil))))
  (mSeq (mAsg (gtN 3) (mCall f__law_take (mCons (mV 0) (mCons (mC (.int 7)) mNil))))
  (mSeq (mIf (mB (mOp gtD (mV 2) (mC (.int 1)))) (mAsg (gtN 3) (mOp addD (mC (.int 33)) (mCall f__law_take (mCons (mV 0) (mCons (mC (.int 8)) mNil))))) mSkip) badTail))) := rfl
theorem bad_word_ok (c : D) (hc : StOk c) (rest : List D) (z : Str) (hz0 : 0 < z.length) (hz : z.length ≤ 8) (hP : AllC lowP z) :
    ∃ w X c', f__law_bad_word [.ref 0, .str z] (c :: rest) = .ok (.tup [.str w, X]) (c' :: rest) ∧ StOk c' ∧ w.length ≤ 100 ∧ AllC lowP w ∧ nr X = true := by
  obtain ⟨t, c1, e1, g1, t1, t2⟩ := kind_ok c hc rest 4 (by decide) (by decide)
  obtain ⟨s, c2, e2, g2, s1, s2⟩ := kind_ok c1 g1 rest 7 (by decide) (by decide)
  rw [bad_is]
  unfold mDef
  by_cases h : 1 < t
  · have y1 : decide (1 < t) = true := decide_eq_true h
    obtain ⟨u, c3, e3, g3, u1, u2⟩ := kind_ok c2 g2 rest 8 (by decide) (by decide)
    obtain ⟨w, X, c4, e4, rest4⟩ := bad_tail c3 g3 rest z hz0 hz hP (33 + u).toNat (by omega) t
    refine ⟨w, X, c4, ?_, rest4⟩
    rw [show (((33 + u).toNat : Nat) : Int) = 33 + u by omega] at e4
    clear h t1 t2 s1 s2 u1 u2 rest4
    repeat (first | simp only [e1, e2, e3, e4, y1, n_ok, R.bind_ok] | walk_at "ev")
  · have y1 : decide (1 < t) = false := decide_eq_false h
    obtain ⟨w, X, c4, e4, rest4⟩ := bad_tail c2 g2 rest z hz0 hz hP s.toNat (by omega) t
    refine ⟨w, X, c4, ?_, rest4⟩
    rw [show ((s.toNat : Nat) : Int) = s by omega] at e4
    clear h t1 t2 s1 s2 rest4
    repeat (first | simp only [e1, e2, e4, y1, n_ok, R.bind_ok] | walk_at "ev")
theorem no_words {z : Str} : ∀ {ws : List Str}, (∀ w ∈ ws, w.length ≤ 32 ∧ lettersB z w = true) → wordsF z ws = .no
  | [], _ => rfl
  | w :: ws, h => by
    have h1 := h w (List.mem_cons_self ..)
    have h2 : wordF z w = .no := by
      unfold wordF
      rw [h1.2, if_pos rfl, if_neg (by omega)]
    show (match wordF z w with
      | .no => wordsF z ws
      | f => f) = .no
    rw [h2]
    exact no_words fun v hv => h v (List.mem_cons_of_mem _ hv)
theorem perm_rep1 {α : Type} (a : α) (l : List α) : ∀ t : Nat, ((List.replicate t (a :: l)).flatten).Perm (List.replicate t a ++ (List.replicate t l).flatten)
  | 0 => List.Perm.refl _
  | t + 1 => by
    rw [List.replicate_succ, List.replicate_succ, List.replicate_succ, List.flatten_cons, List.flatten_cons, List.cons_append, List.cons_append]
    refine List.Perm.cons a ?_
    exact (List.Perm.append_left l (perm_rep1 a l t)).trans (List.perm_append_comm_assoc _ _ _)
theorem perm_rep {α : Type} (t : Nat) : ∀ l : List α, ((List.replicate t l).flatten).Perm (l.flatMap fun a => List.replicate t a)
  | [] => by
    have : ∀ t : Nat, (List.replicate t ([] : List α)).flatten = [] := fun t => by
      induction t with
      | zero => rfl
      | succ t ih => rw [List.replicate_succ, List.flatten_cons, ih]; rfl
    rw [this]
    exact List.Perm.refl _
  | a :: l => by
    rw [List.flatMap_cons]
    exact (perm_rep1 a l t).trans (List.Perm.append_left _ (perm_rep t l))
theorem srt_rep {z : Str} {hs : List Int} {ws : List Str} (t : Nat) (hw : ∀ w ∈ ws, lettersB z w = true) : (srt z hs ws).flatMap (fun w => List.replicate t w) = srt z hs (List.replicate t ws).flatten := by
  have o := leW_ok z hs
  refine srt_unique (fun w hw' => ?_) ?_ ?_
  · obtain ⟨l, hl, hwl⟩ := List.mem_flatten.mp hw'
    rw [(List.mem_replicate.mp hl).2] at hwl
    exact hw w hwl
  · exact (List.Perm.flatMap_right _ (List.mergeSort_perm ws (leW z hs))).trans (perm_rep t ws).symm
  · refine List.pairwise_flatMap.mpr ⟨fun a _ => List.pairwise_replicate.mpr (.inr ?_), ?_⟩
    · rcases o.total a a with h | h <;> exact h
    · refine (List.pairwise_mergeSort o.trans (fun a b => by
        have := o.total a b
        rw [Bool.or_eq_true]
        exact this) ws).imp fun {a b} h x hx y hy => ?_
      rw [(List.mem_replicate.mp hx).2, (List.mem_replicate.mp hy).2]
      exact h
noncomputable def repBody : MS := (mAsg (gtN 6) (mOp addD (mV 6) (mOp mulD (mLst (mCons (mV 7) mNil)) (mV 5))))
theorem rep_loop (t : Nat) (ht : t ≤ 1000) (cs : List D) (a0 a1 a2 a3 a4 a8 a9 a10 a11 a12 a13 : Option D) : ∀ (ss : List Str) (acc : List Str) (o7 : Option D), acc.length + ss.length * t ≤ 10000 → ∃ o7' : Option D,
    forR (bFor (gtN 7) repBody) (ss.map D.str) [a0, a1, a2, a3, a4, some (.int (t : Nat)), some (.lst (acc.map .str)), o7, a8, a9, a10, a11, a12, a13] cs =
      .ok (.nx [a0, a1, a2, a3, a4, some (.int (t : Nat)), some (.lst ((acc ++ ss.flatMap fun w => List.replicate t w).map .str)), o7', a8, a9, a10, a11, a12, a13]) cs
  | [], acc, o7, _ => ⟨o7, by simp only [List.flatMap_nil, List.append_nil]; rfl⟩
  | w :: ss, acc, o7, h => by
    rw [List.length_cons, Nat.succ_mul] at h
    obtain ⟨o7', ih⟩ := rep_loop t ht cs a0 a1 a2 a3 a4 a8 a9 a10 a11 a12 a13 ss (acc ++ List.replicate t w) (some (.str w)) (by rw [List.length_append, List.length_replicate]; omega)
    refine ⟨o7', ?_⟩
    have e1 := o_mulL (l := [.str w]) (i := (t : Int)) (cs := cs) ⟨by omega, by omega, by rw [List.length_singleton, Int.toNat_natCast]; omega⟩
    have e0 : (List.replicate (t : Int).toNat ([D.str w] : List D)).flatten = (List.replicate t w).map D.str := by
      rw [Int.toNat_natCast]
      have aux : ∀ t : Nat, (List.replicate t ([D.str w] : List D)).flatten = (List.replicate t w).map D.str := fun t => by
        induction t with
        | zero => rfl
        | succ t ih => rw [List.replicate_succ, List.flatten_cons, ih, List.replicate_succ]; rfl
      exact aux t
    rw [e0] at e1
    have e2 := o_addL (l := acc.map .str) (k := (List.replicate t w).map .str) (cs := cs) (by rw [List.length_map, List.length_map, List.length_replicate]; omega)
    rw [← List.map_append] at e2
    rw [List.flatMap_cons, ← List.append_assoc, ← ih, List.map_cons]
    refine forR_nx ?_
    rw [b_for]
    clear ih h
    unfold repBody
    repeat (first | simp only [e1, e2, n_ok, R.bind_ok] | walk_at "ev")
theorem few_times : ∀ f : Nat, 2 ≤ f → f ≤ 5 → ((401 : Int).fdiv f + 1 ≤ (1000 : Int).fdiv f ∧ (1000 : Int).fdiv f ≤ 500 ∧ 1 ≤ (401 : Int).fdiv f + 1 ∧ (f : Int) * (1000 : Int).fdiv f ≤ 1000) := by
  intro f h1 h2
  have : f = 2 ∨ f = 3 ∨ f = 4 ∨ f = 5 := by omega
  rcases this with rfl | rfl | rfl | rfl <;> decide +kernel
theorem strok {w : Str} (h : AllC lowP w) : okS w := by
  unfold okS PyData.strOk
  rw [Array.all_eq_true']
  intro c hc
  exact decide_eq_true (h c (Array.mem_toList_iff.mpr hc))
theorem e_V10 {x0 : Option D} {x1 : Option D} {x2 : Option D} {x3 : Option D} {x4 : Option D} {x5 : Option D} {x6 : Option D} {x7 : Option D} {x8 : Option D} {x9 : Option D} {d : D} {t : List (Option D)} {cs : List D} : mV 10 (x0 :: x1 :: x2 :: x3 :: x4 :: x5 :: x6 :: x7 :: x8 :: x9 :: some d :: t) cs = .ok d cs := (rfl)
theorem e_V11 {x0 : Option D} {x1 : Option D} {x2 : Option D} {x3 : Option D} {x4 : Option D} {x5 : Option D} {x6 : Option D} {x7 : Option D} {x8 : Option D} {x9 : Option D} {x10 : Option D} {d : D} {t : List (Option D)} {cs : List D} : mV 11 (x0 :: x1 :: x2 :: x3 :: x4 :: x5 :: x6 :: x7 :: x8 :: x9 :: x10 :: some d :: t) cs = .ok d cs := (rfl)
theorem e_V12 {x0 : Option D} {x1 : Option D} {x2 : Option D} {x3 : Option D} {x4 : Option D} {x5 : Option D} {x6 : Option D} {x7 : Option D} {x8 : Option D} {x9 : Option D} {x10 : Option D} {x11 : Option D} {d : D} {t : List (Option D)} {cs : List D} : mV 12 (x0 :: x1 :: x2 :: x3 :: x4 :: x5 :: x6 :: x7 :: x8 :: x9 :: x10 :: x11 :: some d :: t) cs = .ok d cs := (rfl)
theorem e_V13 {x0 : Option D} {x1 : Option D} {x2 : Option D} {x3 : Option D} {x4 : Option D} {x5 : Option D} {x6 : Option D} {x7 : Option D} {x8 : Option D} {x9 : Option D} {x10 : Option D} {x11 : Option D} {x12 : Option D} {d : D} {t : List (Option D)} {cs : List D} : mV 13 (x0 :: x1 :: x2 :: x3 :: x4 :: x5 :: x6 :: x7 :: x8 :: x9 :: x10 :: x11 :: x12 :: some d :: t) cs = .ok d cs := (rfl)
noncomputable def pairBody : MS := (mIf (mNot (mB (mCall f__law_all_right (mCons (mV 1) (mCons (mV 2) (mCons (mV 13) mNil)))))) (mRet (mC (.bl false))) mSkip)
theorem pair_loop (A B : D) (cs : List D) (a0 a3 a4 a5 a6 a7 a8 a9 a10 a11 a12 : Option D) : ∀ (ds : List D) (o : Option D), (∀ d ∈ ds, f__law_all_right [A, B, d] cs = .ok (.bl true) cs) → ∃ o' : Option D,
    forR (bFor (gtN 13) pairBody) ds [a0, some A, some B, a3, a4, a5, a6, a7, a8, a9, a10, a11, a12, o] cs = .ok (.nx [a0, some A, some B, a3, a4, a5, a6, a7, a8, a9, a10, a11, a12, o']) cs
  | [], o, _ => ⟨o, rfl⟩
  | d :: ds, o, h => by
    obtain ⟨o', ih⟩ := pair_loop A B cs a0 a3 a4 a5 a6 a7 a8 a9 a10 a11 a12 ds (some d) fun e he => h e (List.mem_cons_of_mem _ he)
    refine ⟨o', ?_⟩
    rw [← ih]
    refine forR_nx ?_
    have e1 := h d (List.mem_cons_self ..)
    rw [b_for]
    clear ih h
    unfold pairBody
    repeat (first | simp only [e1, e_V13, n_ok, R.bind_ok] | walk_at "ev")
noncomputable def largeTail : MS := (mSeq (mAsg (gtN 9) (mCall f__law_in_range (mCons (mV 0) (mCons (mC (.int 33)) (mCons (mC (.int 4990)) mNil)))))
  (mSeq (mAsg (gtN 10) (mOp mulD (mSl slD (mV 1) mNoP (mP (mC (.int 1)))) (mV 9)))
  (mSeq (mAsg (gtN 11) (mCall f__law_take (mCons (mV 0) (mCons (mOp addD (mV 9) (mC (.int 1))) mNil))))
  (mSeq (mAsg (gtN 12) (mOp addD (mOp addD (mSl slD (mV 10) mNoP (mP (mV 11))) (mCall f__law_pick (mCons (mV 0) (mCons (mC (.str "?A 1-")) mNil)))) (mSl slD (mV 10) (mP (mV 11)) mNoP)))
  (mSeq (mFor (mIt itA (mLst (mCons (mLst (mCons (mV 10) (mCons (mOp ixD (mV 3) (mC (.int 0))) mNil))) (mCons (mLst (mCons (mOp ixD (mV 3) (mC (.int 0))) (mCons (mV 12) mNil))) (mCons (mLst (mCons (mV 12) (mCons (mV 10) mNil))) mNil))))) (gtN 13) pairBody)
  (mRet (mCall f__law_all_right (mCons (mOp mulD (mV 1) (mC (.int 800))) (mCons (mV 2) (mCons (mLst (mCons (mOp ixD (mV 3) (mC (.int 0))) (mCons (mV 12) mNil))) mNil))))))))))
theorem large_is : f__law_large_right = mDef 4 14 (mSeq (mAsg (gtN 4) (mSl slD (mV 3) mNoP (mP (mC (.int 5)))))
  (mSeq (mAsg (gtN 5) (mCall f__law_in_range (mCons (mV 0) (mCons (mOp addD (mOp fdivD (mC (.int 401)) (mCB lenD (mCons (mV 4) mNil))) (mC (.int 1))) (mCons (mOp fdivD (mC (.int 1000)) (mCB lenD (mCons (mV 4) mNil))) mNil)))))
  (mSeq (mAsg (gtN 6) (mLst mNil))
  (mSeq (mFor (mIt itA (mCall f__law_sorted (mCons (mV 1) (mCons (mV 2) (mCons (mV 4) mNil))))) (gtN 7) repBody)
  (mSeq (mAsg (gtN 8) (mOp mulD (mV 4) (mV 5)))
  (mSeq (mIf (mOr (mNot (mB (mCall (f__law_same 8) (mCons (mFrzT (mCall f__law_ask (mCons (mC (.int 2)) (mCons (mV 1) (mCons (mCB listD (mCons (mV 2) mNil)) (mCons (mV 8) mNil)))))) (mCons (mTup (mCons (mC (.str "told")) (mCons (mV 6) mNil))) mNil))))) (mB (mOp neD (mV 8) (mOp mulD (mV 4) (mV 5))))) (mRet (mC (.bl false))) mSkip) largeTail)))))) := rfl
theorem mul_le1 {q : Str} {n : Nat} (h : q.length ≤ 1) (hn : n ≤ 4990) : q.length * n ≤ 4990 := by
  have := Nat.mul_le_mul h hn
  omega
theorem large_tail (c : D) (hc : StOk c) (rest : List D) (z : Str) (hs : List Int) (w0 w1 : Str) (ws : List Str) (hz1 : 1 ≤ z.length) (hz6 : z.length ≤ 6) (hz : AllC lowP z) (hl : hs.length ≤ 10000) (hw0 : w0.length ≤ 32) (hk0 : AllC lowP w0) (a4 a5 a6 a7 a8 : Option D) :
    ∃ c', finR (rest.length + 1) (largeTail [some (.ref 0), some (.str z), some (.lst (hs.map .int)), some (.lst ((w0 :: w1 :: ws).map .str)), a4, a5, a6, a7, a8, none, none, none, none, none] (c :: rest)) = .ok (.bl true) (c' :: rest) ∧ StOk c' := by
  obtain ⟨v, c1, e1, g1, v1, v2⟩ := in_range_ok c hc rest 33 4990 (by decide) (by decide)
  obtain ⟨n, rfl⟩ : ∃ n : Nat, v = (n : Int) := ⟨v.toNat, by omega⟩
  obtain ⟨m, c2, e2, g2, hm⟩ := spot_ok c1 g1 rest n (by omega)
  have sl1 := fun cs => o_slS (cs := cs) (z := z) (lo := none) (hi := some 1) (by omega)
  have l1 : (cutS z none (some 1)).length ≤ 1 := by
    have := cutS_to z 1
    have e : ((1 : Nat) : Int) = 1 := rfl
    rw [e] at this
    omega
  have p1 : AllC lowP (cutS z none (some 1)) := all_cut hz _ _
  generalize cutS z none (some 1) = q at sl1 l1 p1
  have l2 : q.length * n ≤ 4990 := mul_le1 l1 (by omega)
  have m1 := fun cs => o_mulS (z := q) (i := (n : Int)) (cs := cs) ⟨by omega, by omega, by rw [Int.toNat_natCast]; omega⟩
  have p2 : AllC lowP (strMul q (n : Int)) := all_mul p1 _
  have l3 : (strMul q (n : Int)).length ≤ 4990 := by rw [mul_len]; exact l2
  generalize strMul q (n : Int) = far at m1 p2 l3
  obtain ⟨o, c3, e3, g3, lo, po⟩ := pick_c (P := lowP) c2 g2 rest (Str.ofString "?A 1-") (by decide +kernel) (by decide +kernel) (fun c hc => by
      have : ∀ c ∈ L (Str.ofString "?A 1-"), c < 1114112 := by decide +kernel
      exact this c hc)
  have a1 := cutS_le far none (some (m : Int))
  have a2 := cutS_le far (some (m : Int)) none
  have sl2 := fun cs => o_slS (cs := cs) (z := far) (lo := none) (hi := some (m : Int)) (by omega)
  have sl3 := fun cs => o_slS (cs := cs) (z := far) (lo := some (m : Int)) (hi := none) (by omega)
  have b1 := o_addS (z := cutS far none (some (m : Int))) (y := o) (cs := c3 :: rest) (by omega)
  have b2 := o_addS (z := cutS far none (some (m : Int)) ++ o) (y := cutS far (some (m : Int)) none) (cs := c3 :: rest) (by rw [len_app]; omega)
  have p3 : AllC lowP (cutS far none (some (m : Int)) ++ o ++ cutS far (some (m : Int)) none) := all_app (all_app (all_cut p2 _ _) po) (all_cut p2 _ _)
  have l4 : (cutS far none (some (m : Int)) ++ o ++ cutS far (some (m : Int)) none).length ≤ 10000 := by rw [len_app, len_app]; omega
  generalize cutS far none (some (m : Int)) ++ o ++ cutS far (some (m : Int)) none = bad at b2 p3 l4
  have m2 := fun cs => o_mulS (z := z) (i := 800) (cs := cs) ⟨by decide, by decide, by show z.length * 800 ≤ _; omega⟩
  have l5 : (strMul z 800).length ≤ 10000 := by
    have := mul_len z 800
    have e : ((800 : Nat) : Int) = 800 := rfl
    rw [e] at this
    omega
  have r := fun (x y : Str) (hx : x.length ≤ 10000) (hy : y.length ≤ 10000) (px : AllC lowP x) (py : AllC lowP y) (u : Str) (hu : u.length ≤ 10000) => all_right_eq u hs x y [] (c3 :: rest) hu hl (by simp) (fun w hw => by
      rcases List.mem_cons.mp hw with h | hw
      · rw [h]; exact hx
      · rw [List.mem_singleton.mp hw]; exact hy) (fun w hw => by
      rcases List.mem_cons.mp hw with h | hw
      · rw [h]; exact strok px
      · rw [List.mem_singleton.mp hw]; exact strok py)
  have r1 := r far w0 (by omega) (by omega) p2 hk0 z (by omega)
  have r2 := r w0 bad (by omega) (by omega) hk0 p3 z (by omega)
  have r3 := r bad far (by omega) (by omega) p3 p2 z (by omega)
  have r4 := r w0 bad (by omega) (by omega) hk0 p3 (strMul z 800) l5
  simp only [List.map_cons, List.map_nil] at r1 r2 r3 r4
  obtain ⟨o', lp⟩ := pair_loop (.str z) (.lst (hs.map .int)) (c3 :: rest) (some (.ref 0)) (some (.lst ((w0 :: w1 :: ws).map .str))) a4 a5 a6 a7 a8 (some (.int (n : Int))) (some (.str far)) (some (.int (m : Int))) (some (.str bad)) [.lst [.str far, .str w0], .lst [.str w0, .str bad], .lst [.str bad, .str far]] none (fun d hd => by
    rcases List.mem_cons.mp hd with h | hd
    · rw [h]; exact r1
    · rcases List.mem_cons.mp hd with h | hd
      · rw [h]; exact r2
      · rw [List.mem_singleton.mp hd]; exact r3)
  have i0 : ∀ cs, ixD (.lst ((w0 :: w1 :: ws).map .str)) (.int 0) cs = .ok (.str w0) cs := fun cs => o_ixL at0
  refine ⟨c3, ?_, g3⟩
  unfold largeTail
  simp only [List.map_cons] at lp i0 ⊢
  clear r r1 r2 r3 p1 p2 p3 l1 l2 l3 l4 l5 a1 a2 hz hk0 hw0 po lo v1 v2 hm
  repeat (first | simp only [e_V10, e_V11, e_V12, e1, e2, e3, sl1, sl2, sl3, b1, b2, m1, m2, i0, lp, r4, n_ok, R.bind_ok] | walk_at "ev")
theorem rep_map (t : Nat) (l : List Str) : (List.replicate t (l.map D.str)).flatten = ((List.replicate t l).flatten).map D.str := by
  rw [List.map_flatten, List.map_replicate]
theorem rep_len {α : Type} (l : List α) : ∀ t : Nat, ((List.replicate t l).flatten).length = l.length * t
  | 0 => rfl
  | t + 1 => by rw [List.replicate_succ, List.flatten_cons, List.length_append, rep_len l t, Nat.mul_succ]; omega
theorem large_ok (c : D) (hc : StOk c) (rest : List D) (z : Str) (hs : List Int) (w0 w1 : Str) (ws : List Str) (hz1 : 1 ≤ z.length) (hz6 : z.length ≤ 6) (hg : GoodL z) (hwB : wB z hs = true) (hl : hs.length ≤ 10000) (hn : ws.length ≤ 100) (hw : ∀ w ∈ w0 :: w1 :: ws, w.length ≤ 32 ∧ lettersB z w = true ∧ AllC lowP w) :
    ∃ c', f__law_large_right [.ref 0, .str z, .lst (hs.map .int), .lst ((w0 :: w1 :: ws).map .str)] (c :: rest) = .ok (.bl true) (c' :: rest) ∧ StOk c' := by
  have hzP : AllC lowP z := fun x hx => low_P (hg.lo x hx)
  have sl1 : cutD ((w0 :: w1 :: ws).map D.str) none (some 5) = ((w0 :: w1 :: ws).take 5).map D.str := by
    rw [show (5 : Int) = ((5 : Nat) : Int) from rfl, cutD_to, List.map_take]
  have f2 : ∀ w ∈ (w0 :: w1 :: ws).take 5, w.length ≤ 32 ∧ lettersB z w = true ∧ AllC lowP w := fun w h => hw w (List.mem_of_mem_take h)
  have f3 : 2 ≤ ((w0 :: w1 :: ws).take 5).length ∧ ((w0 :: w1 :: ws).take 5).length ≤ 5 := by
    rw [List.length_take, List.length_cons, List.length_cons]
    omega
  generalize (w0 :: w1 :: ws).take 5 = few at sl1 f2 f3
  obtain ⟨q1, q2, q3, q4⟩ := few_times few.length f3.1 f3.2
  have fd1 := fun cs => o_fdiv (i := 401) (j := (few.length : Int)) (cs := cs) (by omega)
  have fd2 := fun cs => o_fdiv (i := 1000) (j := (few.length : Int)) (cs := cs) (by omega)
  obtain ⟨v, c1, e1, g1, v1, v2⟩ := in_range_ok c hc rest ((401 : Int).fdiv few.length + 1) ((1000 : Int).fdiv few.length) q1 (by omega)
  have v3 : (few.length : Int) * v ≤ 1000 := Int.le_trans (Int.mul_le_mul_of_nonneg_left v2 (by omega)) q4
  obtain ⟨t, rfl⟩ : ∃ t : Nat, v = (t : Int) := ⟨v.toNat, by omega⟩
  have ht : t ≤ 1000 := by omega
  have v4 : few.length * t ≤ 1000 := by exact_mod_cast v3
  have e2 := law_sorted_eq z hs few (c1 :: rest) hwB (by omega) (fun w h => ⟨(f2 w h).2.1, by have := (f2 w h).1; omega⟩)
  obtain ⟨o7, rl⟩ := rep_loop t ht (c1 :: rest) (some (.ref 0)) (some (.str z)) (some (.lst (hs.map .int))) (some (.lst ((w0 :: w1 :: ws).map .str))) (some (.lst (few.map .str))) none none none none none none (srt z hs few) [] none (by rw [srt_len]; simp; omega)
  rw [List.nil_append, srt_rep t (fun w h => (f2 w h).2.1), List.map_nil] at rl
  have m1 := fun cs => o_mulL (l := few.map D.str) (i := (t : Int)) (cs := cs) ⟨by omega, by omega, by rw [List.length_map, Int.toNat_natCast]; omega⟩
  rw [Int.toNat_natCast, rep_map] at m1
  have G1 : ((List.replicate t few).flatten).length ≤ 1000 := by rw [rep_len]; exact v4
  have G2 : ∀ w ∈ (List.replicate t few).flatten, w.length ≤ 32 ∧ lettersB z w = true ∧ AllC lowP w := fun w h => by
    obtain ⟨l, hl, hwl⟩ := List.mem_flatten.mp h
    rw [(List.mem_replicate.mp hl).2] at hwl
    exact f2 w hwl
  generalize (List.replicate t few).flatten = G at rl m1 G1 G2
  have no : faultF z hs G = .no := by
    unfold faultF
    rw [hg.alpha hz1 hz6, if_pos rfl, hwB, if_pos rfl]
    exact no_words fun w h => ⟨(G2 w h).1, (G2 w h).2.1⟩
  have a2 := ask2 2 (.inl rfl) z hs G (c1 :: rest) (by omega) hl (by omega) (fun w h => by have := (G2 w h).1; omega)
  unfold ask2D ask2C at a2
  rw [no] at a2
  simp only at a2
  have fz := k_frzT_ref (cs := c1 :: rest) (l := (srt z hs G).map .str) (x := .str "told") rfl
  have sm := same_eq 8 (.tup [.str "told", .lst ((srt z hs G).map .str)]) (c1 :: rest) (deep_pair trivial (deep_strs 5 _ (by rw [srt_len]; omega)))
  have ne := ne_strs G (c1 :: rest) (fun w h => strok (G2 w h).2.2)
  have w0h := hw w0 (List.mem_cons_self ..)
  obtain ⟨c2, e3, g2⟩ := large_tail c1 g1 rest z hs w0 w1 ws hz1 hz6 hzP hl w0h.1 w0h.2.2 (some (.lst (few.map .str))) (some (.int (t : Int))) (some (.lst ((srt z hs G).map .str))) o7 (some (.lst (G.map .str)))
  refine ⟨c2, ?_, g2⟩
  have a2' : f__law_ask [.int 2, .str z, .lst (hs.map .int), .lst (G.map .str)] (c1 :: rest) = .ok (.tup [.str "told", .ref (c1 :: rest).length]) ((c1 :: rest) ++ [.lst ((srt z hs G).map .str)]) := a2
  rw [large_is]
  unfold mDef
  unfold repBody at rl
  unfold repBody
  clear hw hg hzP f2 f3 q1 q2 q3 q4 v1 v2 v3 v4 ht G1 G2 no a2 w0h hwB hn
  simp only [List.map_cons, List.length_cons, List.cons_append] at *
  repeat (first | simp only [sl1, fd1, fd2, e1, e2, rl, m1, a2', fz, sm, ne, e3, n_ok, R.bind_ok] | walk_at "ev")
theorem right_w (z : Str) (hs : List Int) (ws : List Str) (cs : List D) (hz : z.length ≤ 10000) (hl : hs.length ≤ 10000) (h2 : 2 ≤ ws.length) (hn : ws.length ≤ 10000) (hw : ∀ w ∈ ws, w.length ≤ 100 ∧ AllC lowP w) :
    f__law_all_right [.str z, .lst (hs.map .int), .lst (ws.map .str)] cs = .ok (.bl true) cs := by
  match ws, h2 with
  | a :: b :: rest, _ => exact all_right_eq z hs a b rest cs hz hl hn (fun w h => by have := (hw w h).1; omega) (fun w h => strok (hw w h).2)
  | [_], h => exact absurd h (by simp)
noncomputable def tupBody : MS := (mIf (mNot (mB (mCall f__law_all_right (mCons (mOp ixD (mV 11) (mC (.int 0))) (mCons (mOp ixD (mV 11) (mC (.int 1))) (mCons (mOp ixD (mV 11) (mC (.int 2))) mNil)))))) (mRet (mC (.bl false))) mSkip)
theorem tup_loop (cs : List D) (a0 a1 a2 a3 a4 a5 a6 a7 a8 a9 a10 : Option D) : ∀ (ds : List D) (o : Option D), (∀ d ∈ ds, ∃ A B C, d = .tup [A, B, C] ∧ f__law_all_right [A, B, C] cs = .ok (.bl true) cs) → ∃ o' : Option D,
    forR (bFor (gtN 11) tupBody) ds [a0, a1, a2, a3, a4, a5, a6, a7, a8, a9, a10, o] cs = .ok (.nx [a0, a1, a2, a3, a4, a5, a6, a7, a8, a9, a10, o']) cs
  | [], o, _ => ⟨o, rfl⟩
  | d :: ds, o, h => by
    obtain ⟨o', ih⟩ := tup_loop cs a0 a1 a2 a3 a4 a5 a6 a7 a8 a9 a10 ds (some d) fun e he => h e (List.mem_cons_of_mem _ he)
    refine ⟨o', ?_⟩
    rw [← ih]
    refine forR_nx ?_
    obtain ⟨A, B, C, rfl, e1⟩ := h d (List.mem_cons_self ..)
    have t0 : ∀ c, ixD (.tup [A, B, C]) (.int 0) c = .ok A c := fun c => o_ixT rfl
    have t1 : ∀ c, ixD (.tup [A, B, C]) (.int 1) c = .ok B c := fun c => o_ixT rfl
    have t2 : ∀ c, ixD (.tup [A, B, C]) (.int 2) c = .ok C c := fun c => o_ixT rfl
    rw [b_for]
    clear ih h
    unfold tupBody
    repeat (first | simp only [e1, e_V11, t0, t1, t2, n_ok, R.bind_ok] | walk_at "ev")
noncomputable def lawD : MS := (mSeq (mFrzV 8)
  (mSeq (mFor (mIt itA (mLst (mCons (mTup (mCons (mV 6) (mCons (mV 3) (mCons (mV 4) mNil)))) (mCons (mTup (mCons (mV 2) (mCons (mV 7) (mCons (mV 4) mNil)))) (mCons (mTup (mCons (mV 2) (mCons (mV 3) (mCons (mV 8) mNil)))) mNil))))) (gtN 11) tupBody)
  (mSeq (mIf (mNot (mB (mCall f__law_all_right (mCons (mV 6) (mCons (mV 7) (mCons (mV 8) mNil)))))) (mRet (mC (.bl false))) mSkip)
  (mSeq (mIf (mAnd (mB (mCall f__law_rare (mCons (mV 1) (mCons (mC (.int 4)) mNil)))) (mNot (mB (mCall f__law_large_right (mCons (mV 1) (mCons (mV 2) (mCons (mV 3) (mCons (mV 4) mNil)))))))) (mRet (mC (.bl false))) mSkip)
  (mRet (mCall f__law_all_right (mCons (mV 2) (mCons (mV 3) (mCons (mV 4) mNil)))))))))
structure Dat (z : Str) (hs : List Int) (ws : List Str) : Prop where
  z1 : 1 ≤ z.length
  z6 : z.length ≤ 6
  zg : GoodL z
  hb : wB z hs = true
  hl : hs.length ≤ 6
  w2 : 2 ≤ ws.length
  wn : ws.length ≤ 41
  ww : ∀ w ∈ ws, w.length ≤ 32 ∧ lettersB z w = true ∧ AllC lowP w
theorem fin0 (cs : List D) : finR 0 (.ok (.ret (.bl true)) cs) = .ok (.bl true) (cs.take 0) := by
  rw [f_nr (n_bl)]
theorem law_d (c : D) (hc : StOk c) (rest : List D) (z : Str) (hs : List Int) (ws : List Str) (d : Dat z hs ws) (z' : Str) (hs' : List Int) (ws' : List Str) (hz' : z'.length ≤ 20) (hh' : hs'.length ≤ 200) (w2' : 2 ≤ ws'.length) (wn' : ws'.length ≤ 41) (hw' : ∀ w ∈ ws', w.length ≤ 100 ∧ AllC lowP w) (a0 a5 a9 a10 a11 : Option D) :
    ∃ cs, finR 0 (lawD [a0, some (.ref 0), some (.str z), some (.lst (hs.map .int)), some (.lst (ws.map .str)), a5, some (.str z'), some (.lst (hs'.map .int)), some (.ref (rest.length + 1)), a9, a10, a11] (c :: (rest ++ [.lst (ws'.map .str)]))) = .ok (.bl true) cs := by
  have hw : ∀ w ∈ ws, w.length ≤ 100 ∧ AllC lowP w := fun w h => ⟨by have := (d.ww w h).1; omega, (d.ww w h).2.2⟩
  have hz := d.z6
  have hl := d.hl
  have wn := d.wn
  have fv : mFrzV 8 [a0, some (.ref 0), some (.str z), some (.lst (hs.map .int)), some (.lst (ws.map .str)), a5, some (.str z'), some (.lst (hs'.map .int)), some (.ref (rest.length + 1)), a9, a10, a11] (c :: (rest ++ [.lst (ws'.map .str)])) = .ok (.nx [a0, some (.ref 0), some (.str z), some (.lst (hs.map .int)), some (.lst (ws.map .str)), a5, some (.str z'), some (.lst (hs'.map .int)), some (.lst (ws'.map .str)), a9, a10, a11]) (c :: (rest ++ [.non])) := by
    rw [e_frzV (i := rest.length + 1) (l := ws'.map .str) rfl (by simp)]
    simp
  have r1 := fun cs => right_w z' hs ws cs (by omega) (by omega) d.w2 (by omega) hw
  have r2 := fun cs => right_w z hs' ws cs (by omega) (by omega) d.w2 (by omega) hw
  have r3 := fun cs => right_w z hs ws' cs (by omega) (by omega) w2' (by omega) hw'
  have r4 := fun cs => right_w z' hs' ws' cs (by omega) (by omega) w2' (by omega) hw'
  have r5 := fun cs => right_w z hs ws cs (by omega) (by omega) d.w2 (by omega) hw
  obtain ⟨o', lp⟩ := tup_loop (c :: (rest ++ [.non])) a0 (some (.ref 0)) (some (.str z)) (some (.lst (hs.map .int))) (some (.lst (ws.map .str))) a5 (some (.str z')) (some (.lst (hs'.map .int))) (some (.lst (ws'.map .str))) a9 a10 [.tup [.str z', .lst (hs.map .int), .lst (ws.map .str)], .tup [.str z, .lst (hs'.map .int), .lst (ws.map .str)], .tup [.str z, .lst (hs.map .int), .lst (ws'.map .str)]] a11 (fun e he => by
    rcases List.mem_cons.mp he with h | he
    · exact ⟨_, _, _, h, r1 _⟩
    · rcases List.mem_cons.mp he with h | he
      · exact ⟨_, _, _, h, r2 _⟩
      · exact ⟨_, _, _, List.mem_singleton.mp he, r3 _⟩)
  obtain ⟨b, c1, e1, g1⟩ := rare_ok c hc (rest ++ [.non]) 4 (by decide)
  have lg : ∃ c2, f__law_large_right [.ref 0, .str z, .lst (hs.map .int), .lst (ws.map .str)] (c1 :: (rest ++ [.non])) = .ok (.bl true) (c2 :: (rest ++ [.non])) := by
    have w2 := d.w2
    have ww := d.ww
    match ws, w2 with
    | a :: b :: more, _ =>
      obtain ⟨c2, e, _⟩ := large_ok c1 g1 (rest ++ [.non]) z hs a b more d.z1 d.z6 d.zg d.hb (by omega) (by simp at wn; omega) ww
      exact ⟨c2, e⟩
    | [_], h => exact absurd h (by simp)
  obtain ⟨c2, e2⟩ := lg
  unfold lawD
  clear r1 r2 r3 hw' hw hz' hh' wn' w2'
  cases b with
  | false =>
    refine ⟨[], ?_⟩
    repeat (first | simp only [List.take_zero, fv, lp, e1, r4, r5, n_ok, R.bind_ok] | walk_at "ev")
  | true =>
    refine ⟨[], ?_⟩
    repeat (first | simp only [List.take_zero, fv, lp, e1, e2, r4, r5, n_ok, R.bind_ok] | walk_at "ev")
noncomputable def blS : MS := (mIf (mB (mOp eqD (mCall f__law_take (mCons (mV 1) (mCons (mC (.int 3)) mNil))) (mC (.int 0)))) (mAsg (gtN 6) (mCall f__law_bad_letters (mCons (mV 1) mNil))) mSkip)
theorem bl_step (c : D) (hc : StOk c) (rest : List D) (a0 a2 a3 a4 a5 a7 a8 a9 a10 a11 : Option D) (z : Str) (hz : z.length ≤ 20) :
    ∃ z' c', blS [a0, some (.ref 0), a2, a3, a4, a5, some (.str z), a7, a8, a9, a10, a11] (c :: rest) = .ok (.nx [a0, some (.ref 0), a2, a3, a4, a5, some (.str z'), a7, a8, a9, a10, a11]) (c' :: rest) ∧ StOk c' ∧ z'.length ≤ 20 := by
  obtain ⟨t, c1, e1, g1, t1, t2⟩ := kind_ok c hc rest 3 (by decide) (by decide)
  obtain ⟨y, c2, e2, g2, ly⟩ := bad_letters_ok c1 g1 rest
  unfold blS
  by_cases h : t = 0
  · have x0 : decide (t = 0) = true := decide_eq_true h
    refine ⟨y, c2, ?_, g2, ly⟩
    clear h t1 t2 ly hz
    repeat (first | simp only [e1, e2, x0, n_ok, R.bind_ok] | walk_at "ev")
  · have x0 : decide (t = 0) = false := decide_eq_false h
    refine ⟨z, c1, ?_, g1, hz⟩
    clear h t1 t2 ly hz
    repeat (first | simp only [e1, x0, n_ok, R.bind_ok] | walk_at "ev")
noncomputable def bhS : MS := (mIf (mB (mOp eqD (mCall f__law_take (mCons (mV 1) (mCons (mC (.int 3)) mNil))) (mC (.int 0)))) (mAsg (gtN 7) (mFrz (mCall f__law_bad_heavy (mCons (mV 1) (mCons (mCB lenD (mCons (mV 2) mNil)) mNil))))) mSkip)
theorem bh_step (c : D) (hc : StOk c) (rest : List D) (a0 a3 a4 a5 a6 a8 a9 a10 a11 : Option D) (z : Str) (hz1 : 1 ≤ z.length) (hz : z.length ≤ 20) (hs : List Int) (hh : hs.length ≤ 200) :
    ∃ (hs' : List Int) (c' : D), bhS [a0, some (.ref 0), some (.str z), a3, a4, a5, a6, some (.lst (hs.map .int)), a8, a9, a10, a11] (c :: rest) = .ok (.nx [a0, some (.ref 0), some (.str z), a3, a4, a5, a6, some (.lst (hs'.map .int)), a8, a9, a10, a11]) (c' :: rest) ∧ StOk c' ∧ hs'.length ≤ 200 := by
  obtain ⟨t, c1, e1, g1, t1, t2⟩ := kind_ok c hc rest 3 (by decide) (by decide)
  obtain ⟨hs', c2, e2, g2, lh⟩ := bad_heavy_ok c1 g1 rest z.length hz1 (by omega)
  have ln := fun cs => o_lenS (z := z) (cs := cs) (by omega)
  unfold bhS
  by_cases h : t = 0
  · have x0 : decide (t = 0) = true := decide_eq_true h
    refine ⟨hs', c2, ?_, g2, lh⟩
    clear h t1 t2 lh hz hz1 hh
    rcases e2 with e2 | e2 <;> repeat (first | simp only [e1, e2, x0, ln, n_ok, R.bind_ok] | walk_at "ev")
  · have x0 : decide (t = 0) = false := decide_eq_false h
    refine ⟨hs, c1, ?_, g1, hh⟩
    clear h t1 t2 lh hz hz1 hh e2
    repeat (first | simp only [e1, x0, n_ok, R.bind_ok] | walk_at "ev")
noncomputable def bwBody : MS := (mSeq (mAsg (gtN 10) (mCall f__law_pick (mCons (mV 1) (mCons (mLst (mCons (mC (.int 0)) (mCons (mC (.int 1)) (mCons (mCall f__law_take (mCons (mV 1) (mCons (mCB lenD (mCons (mV 4) mNil)) mNil))) mNil)))) mNil))))
  (mSub setD (mOp ixD (mCall f__law_bad_word (mCons (mV 1) (mCons (mV 2) mNil))) (mC (.int 0))) (mV 8) (mV 10)))
theorem bw_one (c : D) (hc : StOk c) (rest : List D) (z : Str) (ws ws' : List Str) (hz1 : 1 ≤ z.length) (hz : z.length ≤ 6) (hP : AllC lowP z) (w2 : 2 ≤ ws.length) (wn : ws.length ≤ 41) (hl : ws'.length = ws.length) (hw : ∀ w ∈ ws', w.length ≤ 100 ∧ AllC lowP w) (a0 a3 a5 a6 a7 a9 a10 a11 : Option D) :
    ∃ (ws'' : List Str) (c' : D) (o10 : Option D), bwBody [a0, some (.ref 0), some (.str z), a3, some (.lst (ws.map .str)), a5, a6, a7, some (.ref (rest.length + 1)), a9, a10, a11] (c :: (rest ++ [.lst (ws'.map .str)])) =
      .ok (.nx [a0, some (.ref 0), some (.str z), a3, some (.lst (ws.map .str)), a5, a6, a7, some (.ref (rest.length + 1)), a9, o10, a11]) (c' :: (rest ++ [.lst (ws''.map .str)])) ∧ StOk c' ∧ ws''.length = ws.length ∧ ∀ w ∈ ws'', w.length ≤ 100 ∧ AllC lowP w := by
  obtain ⟨t, c1, e1, g1, t1, t2⟩ := kind_ok c hc (rest ++ [.lst (ws'.map .str)]) (ws.length : Int) (by omega) (by omega)
  obtain ⟨d, c2, e2, g2, hd⟩ := pick_l c1 g1 (rest ++ [.lst (ws'.map .str)]) [.int 0, .int 1, .int t] (by simp) (by simp) (by rfl)
  obtain ⟨s, rfl, hs⟩ : ∃ s : Nat, d = .int (s : Nat) ∧ s < ws'.length := by
    rcases List.mem_cons.mp hd with h | hd
    · exact ⟨0, h, by omega⟩
    · rcases List.mem_cons.mp hd with h | hd
      · exact ⟨1, h, by omega⟩
      · refine ⟨t.toNat, ?_, by omega⟩
        rw [List.mem_singleton.mp hd, Int.toNat_of_nonneg t1]
  obtain ⟨w, X, c3, e3, g3, lw, pw, nX⟩ := bad_word_ok c2 g2 (rest ++ [.lst (ws'.map .str)]) z (by omega) (by omega) hP
  have i0 : ∀ cs, ixD (.tup [.str w, X]) (.int 0) cs = .ok (.str w) cs := fun cs => o_ixT rfl
  have ln : ∀ cs, lenD [.lst (ws.map D.str)] cs = .ok (.int (ws.length : Int)) cs := fun cs => by rw [o_lenL, List.length_map]
  have st := o_set (cs := c3 :: (rest ++ [.lst (ws'.map .str)])) (n := rest.length + 1) (i := (s : Int)) (l := ws'.map .str) (j' := s) (d := .str w) (by simp) (ixN_nat (by rw [List.length_map]; exact hs)) rfl
  have es : (c3 :: (rest ++ [.lst (ws'.map D.str)])).set (rest.length + 1) (.lst ((ws'.map D.str).set s (.str w))) = c3 :: (rest ++ [.lst ((ws'.set s w).map .str)]) := by
    rw [List.map_set]
    simp
  rw [es] at st
  have ks := fun r : Wf.Env => k_sub3 (r := r) st
  refine ⟨ws'.set s w, c3, some (.int (s : Int)), ?_, g3, by rw [List.length_set]; exact hl, fun v hv => ?_⟩
  · unfold bwBody
    clear hw hP hd t1 t2 hs lw pw es st nX hl wn w2 hz hz1
    repeat (first | simp only [e1, e2, e3, i0, ln, ks, e_V10, n_ok, R.bind_ok] | walk_at "ev")
  · rcases List.mem_or_eq_of_mem_set hv with h | h
    · exact hw v h
    · rw [h]
      exact ⟨lw, pw⟩
theorem bw_loop (rest : List D) (z : Str) (ws : List Str) (hz1 : 1 ≤ z.length) (hz : z.length ≤ 6) (hP : AllC lowP z) (w2 : 2 ≤ ws.length) (wn : ws.length ≤ 41) (a0 a3 a5 a6 a7 a11 : Option D) : ∀ (ds : List D) (c : D), StOk c → ∀ (ws' : List Str) (a9 a10 : Option D), ws'.length = ws.length → (∀ w ∈ ws', w.length ≤ 100 ∧ AllC lowP w) →
    ∃ (ws'' : List Str) (c' : D) (o9 o10 : Option D), forR (bFor (gtN 9) bwBody) ds [a0, some (.ref 0), some (.str z), a3, some (.lst (ws.map .str)), a5, a6, a7, some (.ref (rest.length + 1)), a9, a10, a11] (c :: (rest ++ [.lst (ws'.map .str)])) =
      .ok (.nx [a0, some (.ref 0), some (.str z), a3, some (.lst (ws.map .str)), a5, a6, a7, some (.ref (rest.length + 1)), o9, o10, a11]) (c' :: (rest ++ [.lst (ws''.map .str)])) ∧ StOk c' ∧ ws''.length = ws.length ∧ ∀ w ∈ ws'', w.length ≤ 100 ∧ AllC lowP w
  | [], c, hc, ws', a9, a10, hl, hw => ⟨ws', c, a9, a10, rfl, hc, hl, hw⟩
  | d :: ds, c, hc, ws', a9, a10, hl, hw => by
    obtain ⟨ws1, c1, o10, e1, g1, l1, h1⟩ := bw_one c hc rest z ws ws' hz1 hz hP w2 wn hl hw a0 a3 a5 a6 a7 (some d) a10 a11
    obtain ⟨ws2, c2, p9, p10, e2, q⟩ := bw_loop rest z ws hz1 hz hP w2 wn a0 a3 a5 a6 a7 a11 ds c1 g1 ws1 (some d) o10 l1 h1
    refine ⟨ws2, c2, p9, p10, ?_, q⟩
    rw [← e2]
    refine forR_nx ?_
    rw [b_for, ← e1]
    rfl
theorem o_listDL {l : List D} {cs : List D} (h : nrs l = true) : listDL [.lst l] cs = .ok (.ref cs.length) (cs ++ [.lst l]) := by
  show (if nrs l = true then R.ok (D.ref cs.length) (cs ++ [.lst l]) else .bad) = _
  rw [if_pos h]
noncomputable def lawC : MS := (mSeq (mAsg (gtN 6) (mV 2))
  (mSeq (mAsg (gtN 7) (mV 3))
  (mSeq (mAsg (gtN 8) (mCB listDL (mCons (mV 4) mNil)))
  (mSeq blS
  (mSeq bhS
  (mSeq (mFor (mRng1 (mCons (mOp addD (mC (.int 1)) (mCall f__law_take (mCons (mV 1) (mCons (mC (.int 2)) mNil)))) mNil)) (gtN 9) bwBody)
  lawD))))))
theorem law_c (c : D) (hc : StOk c) (rest : List D) (z : Str) (hs : List Int) (ws : List Str) (d : Dat z hs ws) (a0 a5 : Option D) :
    ∃ cs, finR 0 (lawC [a0, some (.ref 0), some (.str z), some (.lst (hs.map .int)), some (.lst (ws.map .str)), a5, none, none, none, none, none, none] (c :: rest)) = .ok (.bl true) cs := by
  have hz := d.z6
  have hl := d.hl
  have hzP : AllC lowP z := fun x hx => low_P (d.zg.lo x hx)
  obtain ⟨z', c1, e1, g1, lz'⟩ := bl_step c hc (rest ++ [.lst (ws.map .str)]) a0 (some (.str z)) (some (.lst (hs.map .int))) (some (.lst (ws.map .str))) a5 (some (.lst (hs.map .int))) (some (.ref (rest.length + 1))) none none none z (by omega)
  obtain ⟨hs', c2, e2, g2, lh'⟩ := bh_step c1 g1 (rest ++ [.lst (ws.map .str)]) a0 (some (.lst (hs.map .int))) (some (.lst (ws.map .str))) a5 (some (.str z')) (some (.ref (rest.length + 1))) none none none z d.z1 (by omega) hs (by omega)
  obtain ⟨t, c3, e3, g3, t1, t2⟩ := kind_ok c2 g2 (rest ++ [.lst (ws.map .str)]) 2 (by decide) (by decide)
  have x1 := k_rng1 (j := 1 + t) (cs := c3 :: (rest ++ [.lst (ws.map .str)])) (by omega)
  obtain ⟨ws', c4, o9, o10, e4, g4, lw', hw'⟩ := bw_loop rest z ws d.z1 hz hzP d.w2 d.wn a0 (some (.lst (hs.map .int))) a5 (some (.str z')) (some (.lst (hs'.map .int))) none (rng 0 (1 + t).toNat) c3 g3 ws none none rfl (fun w h => ⟨by have := (d.ww w h).1; omega, (d.ww w h).2.2⟩)
  have w2 := d.w2
  have wn := d.wn
  obtain ⟨cs, e5⟩ := law_d c4 g4 rest z hs ws d z' hs' ws' lz' lh' (by omega) (by omega) hw' a0 a5 o9 o10 none
  refine ⟨cs, ?_⟩
  have ld := o_listDL (l := ws.map D.str) (cs := c :: rest) (nrs_map fun _ => rfl)
  clear hzP hw' t1 t2 lw' lh' lz' hl hz d w2 wn
  simp only [List.length_cons, List.cons_append] at ld
  unfold lawC
  repeat (first | simp only [ld, e1, e2, e3, x1, e4, e5, n_ok, R.bind_ok] | walk_at "ev")
noncomputable def pair5 : MS := (mIf (mNot (mB (mCall f__law_all_right (mCons (mV 2) (mCons (mV 3) (mCons (mV 5) mNil)))))) (mRet (mC (.bl false))) mSkip)
theorem pair5_loop (A B : D) (cs : List D) (a0 a1 a4 a6 a7 a8 a9 a10 a11 : Option D) : ∀ (ds : List D) (o : Option D), (∀ d ∈ ds, f__law_all_right [A, B, d] cs = .ok (.bl true) cs) → ∃ o' : Option D,
    forR (bFor (gtN 5) pair5) ds [a0, a1, some A, some B, a4, o, a6, a7, a8, a9, a10, a11] cs = .ok (.nx [a0, a1, some A, some B, a4, o', a6, a7, a8, a9, a10, a11]) cs
  | [], o, _ => ⟨o, rfl⟩
  | d :: ds, o, h => by
    obtain ⟨o', ih⟩ := pair5_loop A B cs a0 a1 a4 a6 a7 a8 a9 a10 a11 ds (some d) fun e he => h e (List.mem_cons_of_mem _ he)
    refine ⟨o', ?_⟩
    rw [← ih]
    refine forR_nx ?_
    have e1 := h d (List.mem_cons_self ..)
    rw [b_for]
    clear ih h
    unfold pair5
    repeat (first | simp only [e1, n_ok, R.bind_ok] | walk_at "ev")
noncomputable def lawB : MS := (mSeq (mIf (mNot (mB (mCall f__law_all_right (mCons (mV 2) (mCons (mV 3) (mCons (mV 4) mNil)))))) (mRet (mC (.bl false))) mSkip)
  (mSeq (mFor (mIt itA (mLst (mCons (mLst (mCons (mOp ixD (mV 4) (mC (.int 1))) (mCons (mOp ixD (mV 4) (mC (.int 0))) mNil))) (mCons (mLst (mCons (mOp ixD (mV 4) (mC (.int 0))) (mCons (mOp ixD (mV 4) (mC (.int 0))) mNil))) (mCons (mLst (mCons (mOp ixD (mV 4) (mUn negD (mC (.int 1)))) (mCons (mOp ixD (mV 4) (mC (.int 0))) mNil))) mNil))))) (gtN 5) pair5)
  (mSeq (mIf (mNot (mB (mCall (f__law_same 8) (mCons (mFrzT (mCall f__law_ask (mCons (mC (.int 2)) (mCons (mV 2) (mCons (mCB listD (mCons (mV 3) mNil)) (mCons (mLst mNil) mNil)))))) (mCons (mTup (mCons (mC (.str "told")) (mCons (mLst mNil) mNil))) mNil))))) (mRet (mC (.bl false))) mSkip)
  (mSeq (mIf (mNot (mB (mCall f__law_all_right (mCons (mRev (mV 2)) (mCons (mRev (mV 3)) (mCons (mV 4) mNil)))))) (mRet (mC (.bl false))) mSkip)
  lawC))))
theorem law_is : f_law = mDef 1 12 (mSeq (mAsg (gtN 1) (mCall f__law_draws (mCons (mV 0) mNil)))
  (mSeq (mAsg (gtN 2) (mCall f__law_letters (mCons (mV 1) (mCons (mC (.int 1)) (mCons (mC (.int 6)) mNil)))))
  (mSeq (mAsg (gtN 3) (mFrz (mCall f__law_heavy (mCons (mV 1) (mCons (mCB lenD (mCons (mV 2) mNil)) mNil)))))
  (mSeq (mAsg (gtN 4) (mFrz (mCall f__law_words (mCons (mV 1) (mCons (mV 2) mNil))))) lawB)))) := rfl
theorem law_b (c : D) (hc : StOk c) (rest : List D) (z : Str) (hs : List Int) (ws : List Str) (d : Dat z hs ws) (a0 : Option D) :
    ∃ cs, finR 0 (lawB [a0, some (.ref 0), some (.str z), some (.lst (hs.map .int)), some (.lst (ws.map .str)), none, none, none, none, none, none, none] (c :: rest)) = .ok (.bl true) cs := by
  have hz := d.z6
  have hl := d.hl
  have wn := d.wn
  have hw : ∀ w ∈ ws, w.length ≤ 100 ∧ AllC lowP w := fun w h => ⟨by have := (d.ww w h).1; omega, (d.ww w h).2.2⟩
  have lz : z.length ≤ 16777216 := by omega
  have rv := fun cs => k_revS (z := z) (cs := cs) lz
  have r1 := right_w z hs ws (c :: rest) (by omega) (by omega) d.w2 (by omega) hw
  have r2 := right_w (revS z) hs.reverse ws (c :: rest) (by rw [revS_len]; omega) (by rw [List.length_reverse]; omega) d.w2 (by omega) hw
  rw [List.map_reverse] at r2
  have no : faultF z hs [] = .no := by
    unfold faultF
    rw [d.zg.alpha d.z1 d.z6, if_pos rfl, d.hb, if_pos rfl]
    rfl
  have a2 := ask2 2 (.inl rfl) z hs [] (c :: rest) (by omega) (by omega) (by decide) (fun w h => by cases h)
  unfold ask2D ask2C at a2
  rw [no] at a2
  simp only at a2
  have es : srt z hs [] = [] := List.eq_nil_of_length_eq_zero (srt_len z hs [])
  rw [es, List.map_nil] at a2
  have a2' : f__law_ask [.int 2, .str z, .lst (hs.map .int), .lst []] (c :: rest) = .ok (.tup [.str "told", .ref (rest.length + 1)]) (c :: (rest ++ [.lst []])) := a2
  have fz : kFrzT (rest.length + 1) (.tup [.str "told", .ref (rest.length + 1)]) (c :: (rest ++ [.lst []])) = .ok (.tup [.str "told", .lst []]) (c :: rest) := k_frzT_ref (cs := c :: rest) (l := []) (x := .str "told") rfl
  have sm := same_eq 8 (.tup [.str "told", .lst []]) (c :: rest) (deep_pair trivial (deep_strs 5 [] (by simp)))
  obtain ⟨a, b, more, ew⟩ : ∃ a b more, ws = a :: b :: more := by
    have w2 := d.w2
    match ws, w2 with
    | a :: b :: more, _ => exact ⟨a, b, more, rfl⟩
    | [_], h => exact absurd h (by simp)
  have i0 : ∀ cs, ixD (.lst (ws.map .str)) (.int 0) cs = .ok (.str a) cs := fun cs => by
    rw [ew]
    exact o_ixL at0
  have i1 : ∀ cs, ixD (.lst (ws.map .str)) (.int 1) cs = .ok (.str b) cs := fun cs => by
    rw [ew]
    exact o_ixL at1
  obtain ⟨y, hy, i2⟩ : ∃ y, y ∈ ws ∧ ∀ cs, ixD (.lst (ws.map .str)) (.int (-1)) cs = .ok (.str y) cs := by
    have w2 := d.w2
    have hlt : ws.length - 1 < ws.length := by omega
    refine ⟨ws[ws.length - 1], List.getElem_mem hlt, fun cs => o_ixL ?_⟩
    have q : atI (ws.map D.str) (-1) = (ws.map D.str)[ws.length - 1]? := by
      unfold atI ixN
      rw [if_neg (by decide), List.length_map, if_pos (by omega), Option.bind_some]
      congr 1
      omega
    rw [q, List.getElem?_map, List.getElem?_eq_getElem hlt]
    rfl
  have ha : a ∈ ws := by rw [ew]; simp
  have hb : b ∈ ws := by rw [ew]; simp
  have r := fun (x y : Str) (hx : x ∈ ws) (hy : y ∈ ws) => right_w z hs [x, y] (c :: rest) (by omega) (by omega) (by simp) (by simp) (fun w hw' => by
    rcases List.mem_cons.mp hw' with h | hw'
    · rw [h]; exact hw x hx
    · rw [List.mem_singleton.mp hw']; exact hw y hy)
  obtain ⟨o', lp⟩ := pair5_loop (.str z) (.lst (hs.map .int)) (c :: rest) a0 (some (.ref 0)) (some (.lst (ws.map .str))) none none none none none none [.lst [.str b, .str a], .lst [.str a, .str a], .lst [.str y, .str a]] none (fun e he => by
    rcases List.mem_cons.mp he with h | he
    · rw [h]; exact r b a hb ha
    · rcases List.mem_cons.mp he with h | he
      · rw [h]; exact r a a ha ha
      · rw [List.mem_singleton.mp he]; exact r y a hy ha)
  obtain ⟨cs, e5⟩ := law_c c hc rest z hs ws d a0 o'
  refine ⟨cs, ?_⟩
  unfold lawB
  clear hw r ha hb hy no a2 es ew hz hl wn d lz
  repeat (first | simp only [r1, r2, rv, a2', fz, sm, i0, i1, i2, lp, e5, n_ok, R.bind_ok] | walk_at "ev")
theorem letters_mem {z w : Str} (h : AllC (fun c => c ∈ L z) w) : lettersB z w = true := by
  unfold lettersB
  exact List.all_eq_true.mpr fun c hc => decide_eq_true (h c hc)
theorem law_true (ns : List Int) (hl : ns.length ≤ 63) : ∃ cs, f_law [.wl ns] [] = .ok (.bl true) cs := by
  obtain ⟨c, e1, g1⟩ := draws_ok ns hl
  obtain ⟨z, c2, e2, g2, l1, l2, zg⟩ := letters_ok c g1 [] 1 6 (by decide) (by decide) (by decide)
  have lz := fun cs => o_lenS (z := z) (cs := cs) (by omega)
  obtain ⟨hs, c3, e3, g3, lh, hh⟩ := heavy_ok c2 g2 [] z.length (by omega)
  obtain ⟨ws, c4, e4, g4, w2, wn, hw⟩ := words_ok (P := fun c => c ∈ L z) c3 g3 [] z (by omega) (by omega) (fun x hx => hx)
  have d : Dat z hs ws := by
    refine ⟨by omega, by omega, zg, ?_, by omega, w2, wn, fun w h => ⟨(hw w h).1, letters_mem (hw w h).2, fun x hx => low_P (zg.lo x ((hw w h).2 x hx))⟩⟩
    unfold wB
    rw [decide_eq_true lh]
    exact List.all_eq_true.mpr fun x hx => by
      rw [decide_eq_true (hh x hx).1, decide_eq_true (hh x hx).2]
      rfl
  obtain ⟨cs, e5⟩ := law_b c4 g4 [] z hs ws d (some (.wl ns))
  refine ⟨cs, ?_⟩
  rw [law_is]
  unfold mDef
  have fz1 := fun (c : D) (l : List D) => k_frz1 (rest := []) (c0 := c) (l := l)
  clear d hw hh w2 wn lh l1 l2 zg
  simp only [List.length_nil, List.nil_append, Nat.zero_add] at *
  repeat (first | simp only [e1, e2, e3, e4, e5, lz, fz1, n_ok, R.bind_ok] | walk_at "ev")
end K00
open PySem PySem.W PyProof.Rows
set_option maxHeartbeats 0 in
theorem PySem.Challenge.cw_wayfill_k00_word_order_holds : PySem.Challenge.rw_wayfill_k00_word_order.Holds := by
  w_on; o_law; k_head; (case hw => w_witness2)
  k_fill
  refine L2.walk_of (l := PySem.Challenge.rw_wayfill_k00_word_order) (n := 63) (k := 12) (x := "script") (CX := fun w => L2.CX PySem.Challenge.rw_wayfill_k00_word_order.prog w) (sp := fun w => Wf.spF _ K00.f_law) rfl (by decide) rfl ⟨rfl, by decide, by decide⟩ (fun w h Y => PySem.W.kIn_of Y) ?F (fun w H a ns hl hO hS => Wf.law_sp (K00.law_true ns hl) hS) (fun w H s e s' h => Wf.cx_none h)
  case F =>
    intro w mg fa h KX G hmg
    refine' K00.all_mk KX G hmg ?a0 ?l0 ?c0 ?k0 ?a1 ?l1 ?c1 ?k1 ?a2 ?l2 ?c2 ?k2 ?a3 ?l3 ?c3 ?k3 ?a4 ?l4 ?c4 ?k4 ?a5 ?l5 ?c5 ?k5 ?a6 ?l6 ?c6 ?k6 ?a7 ?l7 ?c7 ?k7 ?a8 ?l8 ?c8 ?k8 ?a9 ?l9 ?c9 ?k9 ?a10 ?l10 ?c10 ?k10 ?a11 ?l11 ?c11 ?k11 ?a12 ?l12 ?c12 ?k12 ?a13 ?l13 ?c13 ?k13 ?a14 ?l14 ?c14 ?k14 ?a15 ?l15 ?c15 ?k15 ?a16 ?l16 ?c16 ?k16 ?a17 ?l17 ?c17 ?k17 ?a18 ?l18 ?c18 ?k18 ?a19 ?l19 ?c19 ?k19 ?a20 ?l20 ?c20 ?k20 ?a21 ?l21 ?c21 ?k21 ?a22 ?l22 ?c22 ?k22 ?a23 ?l23 ?c23 ?k23 ?a24 ?l24 ?c24 ?k24 ?a25 ?l25 ?c25 ?k25 ?a26 ?l26 ?c26 ?k26 ?a27 ?l27 ?c27 ?k27 ?a28 ?l28 ?c28 ?k28 ?a29 ?l29 ?c29 ?k29 ?a30 ?l30 ?c30 ?k30 ?a31 ?l31 ?c31 ?k31 ?a32 ?l32 ?c32 ?k32 ?a33 ?l33 ?c33 ?k33 ?a34 ?l34 ?c34 ?k34 ?a35 ?l35 ?c35 ?k35 ?a36 ?l36 ?c36 ?k36 ?a37 ?l37 ?c37 ?k37 ?z_ValueError ?z_abs ?z_all ?z_bool ?z_int ?z_isinstance ?z_len ?z_list ?z_range ?z_set ?z_sorted ?z_str ?z_sum ?z_tuple ?g_LETTERS ?g_WEIGHT ?g_WORD ?k_BadLetters ?k_BadWeights ?k_BadWord ?k_BoundError ?k_TooLong ?k_TooMany ?k_WayfillError ?sg ?tk ?L_WayfillError ?ke_WayfillError ?ga_WayfillError ?gg_WayfillError ?gc_WayfillError ?sa_WayfillError ?no_WayfillError_text ?L_BoundError ?ke_BoundError ?ga_BoundError ?gg_BoundError ?gc_BoundError ?sa_BoundError ?no_BoundError_text ?L_TooLong ?ke_TooLong ?ga_TooLong ?gg_TooLong ?gc_TooLong ?sa_TooLong ?no_TooLong_text ?L_TooMany ?ke_TooMany ?ga_TooMany ?gg_TooMany ?gc_TooMany ?sa_TooMany ?no_TooMany_text ?L_BadWeights ?ke_BadWeights ?ga_BadWeights ?gg_BadWeights ?gc_BadWeights ?sa_BadWeights ?no_BadWeights_text ?L_BadLetters ?ke_BadLetters ?ga_BadLetters ?gg_BadLetters ?gc_BadLetters ?sa_BadLetters ?no_BadLetters_text ?L_BadWord ?ke_BadWord ?ga_BadWord ?gg_BadWord ?gc_BadWord ?sa_BadWord ?no_BadWord_text ?q_BadWeights ?q_TooLong ?i_BadLetters ?t_BadLetters_i ?l_BadLetters_i ?c_BadLetters_i ?ki_BadLetters_i ?i_BadWord ?t_BadWord_i ?l_BadWord_i ?c_BadWord_i ?ki_BadWord_i
    (case a0 => k_is)
    (case l0 => k_is)
    (case c0 => k_is)
    (case k0 => k_is)
    (case a1 => k_is)
    (case l1 => k_is)
    (case c1 => k_is)
    (case k1 => k_is)
    (case a2 => k_is)
    (case l2 => k_is)
    (case c2 => k_is)
    (case k2 => k_is)
    (case a3 => k_is)
    (case l3 => k_is)
    (case c3 => k_is)
    (case k3 => k_is)
    (case a4 => k_is)
    (case l4 => k_is)
    (case c4 => k_is)
    (case k4 => k_is)
    (case a5 => k_is)
    (case l5 => k_is)
    (case c5 => k_is)
    (case k5 => k_is)
    (case a6 => k_is)
    (case l6 => k_is)
    (case c6 => k_is)
    (case k6 => k_is)
    (case a7 => k_is)
    (case l7 => k_is)
    (case c7 => k_is)
    (case k7 => k_is)
    (case a8 => k_is)
    (case l8 => k_is)
    (case c8 => k_is)
    (case k8 => k_is)
    (case a9 => k_is)
    (case l9 => k_is)
    (case c9 => k_is)
    (case k9 => k_is)
    (case a10 => k_is)
    (case l10 => k_is)
    (case c10 => k_is)
    (case k10 => k_is)
    (case a11 => k_is)
    (case l11 => k_is)
    (case c11 => k_is)
    (case k11 => k_is)
    (case a12 => k_is)
    (case l12 => k_is)
    (case c12 => k_is)
    (case k12 => k_is)
    (case a13 => k_is)
    (case l13 => k_is)
    (case c13 => k_is)
    (case k13 => k_is)
    (case a14 => k_is)
    (case l14 => k_is)
    (case c14 => k_is)
    (case k14 => k_is)
    (case a15 => k_is)
    (case l15 => k_is)
    (case c15 => k_is)
    (case k15 => k_is)
    (case a16 => k_is)
    (case l16 => k_is)
    (case c16 => k_is)
    (case k16 => k_is)
    (case a17 => k_is)
    (case l17 => k_is)
    (case c17 => k_is)
    (case k17 => k_is)
    (case a18 => k_is)
    (case l18 => k_is)
    (case c18 => k_is)
    (case k18 => k_is)
    (case a19 => k_is)
    (case l19 => k_is)
    (case c19 => k_is)
    (case k19 => k_is)
    (case a20 => k_is)
    (case l20 => k_is)
    (case c20 => k_is)
    (case k20 => k_is)
    (case a21 => k_is)
    (case l21 => k_is)
    (case c21 => k_is)
    (case k21 => k_is)
    (case a22 => k_is)
    (case l22 => k_is)
    (case c22 => k_is)
    (case k22 => k_is)
    (case a23 => k_is)
    (case l23 => k_is)
    (case c23 => k_is)
    (case k23 => k_is)
    (case a24 => k_is)
    (case l24 => k_is)
    (case c24 => k_is)
    (case k24 => k_is)
    (case a25 => k_is)
    (case l25 => k_is)
    (case c25 => k_is)
    (case k25 => k_is)
    (case a26 => k_is)
    (case l26 => k_is)
    (case c26 => k_is)
    (case k26 => k_is)
    (case a27 => k_is)
    (case l27 => k_is)
    (case c27 => k_is)
    (case k27 => k_is)
    (case a28 => k_is)
    (case l28 => k_is)
    (case c28 => k_is)
    (case k28 => k_is)
    (case a29 => k_is)
    (case l29 => k_is)
    (case c29 => k_is)
    (case k29 => k_is)
    (case a30 => k_is)
    (case l30 => k_is)
    (case c30 => k_is)
    (case k30 => k_is)
    (case a31 => k_is)
    (case l31 => k_is)
    (case c31 => k_is)
    (case k31 => k_is)
    (case a32 => k_is)
    (case l32 => k_is)
    (case c32 => k_is)
    (case k32 => k_is)
    (case a33 => k_is)
    (case l33 => k_is)
    (case c33 => k_is)
    (case k33 => k_is)
    (case a34 => k_is)
    (case l34 => k_is)
    (case c34 => k_is)
    (case k34 => k_is)
    (case a35 => k_is)
    (case l35 => k_is)
    (case c35 => k_is)
    (case k35 => k_is)
    (case a36 => k_is)
    (case l36 => k_is)
    (case c36 => k_is)
    (case k36 => k_is)
    (case a37 => k_is)
    (case l37 => k_is)
    (case c37 => k_is)
    (case k37 => k_is)
    (case z_ValueError => k_is)
    (case z_abs => k_is)
    (case z_all => k_is)
    (case z_bool => k_is)
    (case z_int => k_is)
    (case z_isinstance => k_is)
    (case z_len => k_is)
    (case z_list => k_is)
    (case z_range => k_is)
    (case z_set => k_is)
    (case z_sorted => k_is)
    (case z_str => k_is)
    (case z_sum => k_is)
    (case z_tuple => k_is)
    (case g_LETTERS => k_is)
    (case g_WEIGHT => k_is)
    (case g_WORD => k_is)
    (case k_BadLetters => k_is)
    (case k_BadWeights => k_is)
    (case k_BadWord => k_is)
    (case k_BoundError => k_is)
    (case k_TooLong => k_is)
    (case k_TooMany => k_is)
    (case k_WayfillError => k_is)
    (case sg => k_is)
    (case tk => k_is)
    (case L_WayfillError => k_is)
    (case ke_WayfillError => k_is)
    (case ga_WayfillError => k_is)
    (case gg_WayfillError => k_is)
    (case gc_WayfillError => k_is)
    (case sa_WayfillError => k_is)
    (case no_WayfillError_text => k_is)
    (case L_BoundError => k_is)
    (case ke_BoundError => k_is)
    (case ga_BoundError => k_is)
    (case gg_BoundError => k_is)
    (case gc_BoundError => k_is)
    (case sa_BoundError => k_is)
    (case no_BoundError_text => k_is)
    (case L_TooLong => k_is)
    (case ke_TooLong => k_is)
    (case ga_TooLong => k_is)
    (case gg_TooLong => k_is)
    (case gc_TooLong => k_is)
    (case sa_TooLong => k_is)
    (case no_TooLong_text => k_is)
    (case L_TooMany => k_is)
    (case ke_TooMany => k_is)
    (case ga_TooMany => k_is)
    (case gg_TooMany => k_is)
    (case gc_TooMany => k_is)
    (case sa_TooMany => k_is)
    (case no_TooMany_text => k_is)
    (case L_BadWeights => k_is)
    (case ke_BadWeights => k_is)
    (case ga_BadWeights => k_is)
    (case gg_BadWeights => k_is)
    (case gc_BadWeights => k_is)
    (case sa_BadWeights => k_is)
    (case no_BadWeights_text => k_is)
    (case L_BadLetters => k_is)
    (case ke_BadLetters => k_is)
    (case ga_BadLetters => k_is)
    (case gg_BadLetters => k_is)
    (case gc_BadLetters => k_is)
    (case sa_BadLetters => k_is)
    (case no_BadLetters_text => k_is)
    (case L_BadWord => k_is)
    (case ke_BadWord => k_is)
    (case ga_BadWord => k_is)
    (case gg_BadWord => k_is)
    (case gc_BadWord => k_is)
    (case sa_BadWord => k_is)
    (case no_BadWord_text => k_is)
    (case q_BadWeights => first | (with_unfolding_all rfl) | kernel_rfl | decide)
    (case q_TooLong => first | (with_unfolding_all rfl) | kernel_rfl | decide)
    (case i_BadLetters => k_is)
    (case t_BadLetters_i => k_is)
    (case l_BadLetters_i => k_is)
    (case c_BadLetters_i => k_is)
    (case ki_BadLetters_i => k_is)
    (case i_BadWord => k_is)
    (case t_BadWord_i => k_is)
    (case l_BadWord_i => k_is)
    (case c_BadWord_i => k_is)
    (case ki_BadWord_i => k_is)
