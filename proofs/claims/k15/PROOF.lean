import PyProof.Rows.All
import Wide.All
import OpenK.AllK
import Wide.FinOn
import HandS.ForMost
import HandS.Wide
import HandS.ExcValue
import HandS.IsInst
import HandS.SortInts
import HandS.Defaults
import HandS.HeadEnd
import HandS.Strs
import HandS.SetFor
import HandS.Zip
import HandS.Conv
import PyProof.ReprRoads
import PyProof.ReprLen
import HandS.List
import HandS.DictComp
import KE.KDictList
import HandS.ListItems
import HandS.Sort
import HandS.Iter
import HandS.TupLe
import KE.KDictZip
import HandS.More
import KE.KRevSl
import HandS.NoneIn
import HandS.Records
import KE.SortData
import HandS.Deep
import PyProof.ListIndex
import HandS.Style
import HandS.Gcd
import HandS.Exc
import HandS.ExcInit
import HandS.ExcField
import HandS.ExcOwn
import HandS.SetBool
import HandS.HeadHook1
import HandS.HeadHook2
import HandS.HeadHook4
import KE.KDictKeyed
import HandS.TupLen
import KE.GoesEnum
import KE.KMathGC
import HandS.ExcIs
import PyProof.NeKinds
import HandS.DictEq
import KE.KStateDown
import HandS.Head0
import HandS.Head1
import HandS.Head2
import Lean
import PySem.Challenge.RW_ringrestart_k15_certificates_judged
set_option Elab.async false
set_option linter.all false
set_option maxRecDepth 100000
/-! data over the heap: values as trees (D), owned cells, and judgements over them -/
namespace Rg
open PySem PySem.Spec
open PyProof.Rows L2

inductive D where
  | non | bl (b : Bool) | int (i : Int) | str (s : Str) | ty (n : String) | obj (a : Addr)
  | lst (xs : List D) | tup (xs : List D) | own (k : Nat) | set (S : Int → Bool) (n : Nat) | scr (ns : List Int) | dct (ks : List Key) (xs : List D)
  | dcT (kss : List (List Key)) (xs : List D) | exc (c : Addr)
  deriving Inhabited

abbrev Cs := List (List D)
abbrev Ro := List (Option D)

/-- an error of the class at c, held as a value: caught, or not raised yet -/
def ExK (c a : Addr) : HO := .ext fun h => ∃ (oe : Obj) (vs : Array Value), h.get? a = some oe ∧ Zc (.ref c) none oe ∧ oe.data = .fields vs
mutual
/-- v stands for the tree d; none of its objects is among the owned (as) or hidden (hs) ones -/
inductive Rep (as hs : List Addr) (H : Hp) : D → V → Prop
  | non : Rep as hs H .non .non
  | bl {b} : Rep as hs H (.bl b) (.bl b)
  | int {i} : Rep as hs H (.int i) (.int i)
  | str {s} : Rep as hs H (.str s) (.str s)
  | ty {n} : Rep as hs H (.ty n) (.ty n)
  | obj {a} : Rep as hs H (.obj a) (.ref a)
  | lst {a vs xs} : a ∉ as → a ∉ hs → H a = some (.lst vs) → RepL as hs H xs vs → Rep as hs H (.lst xs) (.ref a)
  | tup {a vs xs} : a ∉ as → a ∉ hs → H a = some (.tup vs) → RepL as hs H xs vs → Rep as hs H (.tup xs) (.ref a)
  | own {a k} : as[k]? = some a → Rep as hs H (.own k) (.ref a)
  | set {a S n} : a ∉ as → a ∉ hs → H a = some (.set S n) → Rep as hs H (.set S n) (.ref a)
  | scr {a o ns} : a ∉ as → a ∉ hs → H a = some (.frz o (.lst (ns.map V.int))) → Rep as hs H (.scr ns) (.ref a)
  | dct {a ks vs xs} : a ∉ as → a ∉ hs → H a = some (.dK (ks.zip vs)) → ks.length = xs.length → RepL as hs H xs vs → Rep as hs H (.dct ks xs) (.ref a)
  | dcT {a o ks vs xs} : a ∉ as → a ∉ hs → H a = some (.frz o (.dT (ks.zip vs))) → ks.length = xs.length → RepL as hs H xs vs → Rep as hs H (.dcT ks xs) (.ref a)
  | exc {a c} : a ∉ as → a ∉ hs → H a = some (ExK c a) → Rep as hs H (.exc c) (.ref a)
inductive RepL (as hs : List Addr) (H : Hp) : List D → List V → Prop
  | nil : RepL as hs H [] []
  | cons {x xs v vs} : Rep as hs H x v → RepL as hs H xs vs → RepL as hs H (x :: xs) (v :: vs)
end

theorem RepL.length {as hs H} : ∀ {xs vs}, RepL as hs H xs vs → xs.length = vs.length
  | _, _, .nil => rfl
  | _, _, .cons _ t => by simp [RepL.length t]
theorem RepL.get {as hs H} : ∀ {xs : List D} {vs : List V} {i : Nat} {x : D}, RepL as hs H xs vs → xs[i]? = some x → ∃ v, vs[i]? = some v ∧ Rep as hs H x v
  | _, _, _, _, .nil, ez => by simp at ez
  | _, _, 0, _, .cons r0 _, ez => by simp at ez; subst ez; exact ⟨_, rfl, r0⟩
  | _, _, i + 1, x, .cons _ t, ez => by
    obtain ⟨v, h, r⟩ := RepL.get (i := i) (x := x) t (by simpa using ez)
    exact ⟨v, by simpa using h, r⟩
theorem RepL.get' {as hs H} : ∀ {xs : List D} {vs : List V} {i : Nat} {v : V}, RepL as hs H xs vs → vs[i]? = some v → ∃ x, xs[i]? = some x ∧ Rep as hs H x v
  | _, _, _, _, .nil, ez => by simp at ez
  | _, _, 0, _, .cons r0 _, ez => by simp at ez; subst ez; exact ⟨_, rfl, r0⟩
  | _, _, i + 1, x, .cons _ t, ez => by
    obtain ⟨v, h, r⟩ := RepL.get' (i := i) (v := x) t (by simpa using ez)
    exact ⟨v, by simpa using h, r⟩
theorem RepL.append {as hs H} : ∀ {xs ys : List D} {vs us : List V}, RepL as hs H xs vs → RepL as hs H ys us → RepL as hs H (xs ++ ys) (vs ++ us)
  | _, _, _, _, .nil, s => s
  | _, _, _, _, .cons r t, s => .cons r (RepL.append t s)
theorem RepL.set {as hs H} {x : D} {v : V} (r : Rep as hs H x v) : ∀ {xs : List D} {vs : List V} (i : Nat), RepL as hs H xs vs → RepL as hs H (xs.set i x) (vs.set i v)
  | _, _, _, .nil => .nil
  | _, _, 0, .cons _ tl => .cons r tl
  | _, _, i + 1, .cons q t => .cons q (RepL.set r i t)
theorem RepL.take {as hs H} : ∀ {xs : List D} {vs : List V} (n : Nat), RepL as hs H xs vs → RepL as hs H (xs.take n) (vs.take n)
  | _, _, 0, _ => .nil
  | _, _, _ + 1, .nil => .nil
  | _, _, n + 1, .cons r t => .cons r (RepL.take n t)
theorem RepL.drop {as hs H} : ∀ {xs : List D} {vs : List V} (n : Nat), RepL as hs H xs vs → RepL as hs H (xs.drop n) (vs.drop n)
  | _, _, 0, r => r
  | _, _, _ + 1, .nil => .nil
  | _, _, n + 1, .cons _ t => RepL.drop n t
theorem RepL.eraseIdx {as hs H} : ∀ {xs : List D} {vs : List V} (i : Nat), RepL as hs H xs vs → RepL as hs H (xs.eraseIdx i) (vs.eraseIdx i)
  | _, _, _, .nil => .nil
  | _, _, 0, .cons _ t => t
  | _, _, i + 1, .cons r t => .cons r (RepL.eraseIdx i t)
theorem RepL.reverse {as hs H} {xs : List D} {vs : List V} (h : RepL as hs H xs vs) : RepL as hs H xs.reverse vs.reverse := by
  induction xs generalizing vs with
  | nil => cases h; exact .nil
  | cons x xs ih =>
    cases h with
    | cons r t => rw [List.reverse_cons, List.reverse_cons]; exact (ih t).append (.cons r .nil)
theorem RepL.dropLast {as hs H} {xs : List D} {vs : List V} (h : RepL as hs H xs vs) : RepL as hs H xs.dropLast vs.dropLast := by
  rw [List.dropLast_eq_take, List.dropLast_eq_take, ← h.length]; exact h.take _
theorem RepL.rep {as hs H} {xs : List D} {vs : List V} (h : RepL as hs H xs vs) : ∀ k : Nat, RepL as hs H (List.replicate k xs).flatten (List.replicate k vs).flatten
  | 0 => .nil
  | k + 1 => by
    have hk := h.append (RepL.rep h k)
    simpa [List.replicate_succ] using hk

/-! ### heaps that grow -/
structure Grow (as as' : List Addr) (H H' : Hp) : Prop where
  ext : ∃ more, as' = as ++ more
  new : ∀ a ∈ as', a ∉ as → H a = none
  keep : ∀ a o, a ∉ as → H a = some o → H' a = some o
/-- with the first B owned ones staying -/
structure GrowB (B : Nat) (as as' : List Addr) (H H' : Hp) : Prop where
  ext : ∃ more, as' = as.take B ++ more
  new : ∀ a ∈ as', a ∉ as → H a = none
  keep : ∀ a o, a ∉ as → H a = some o → H' a = some o

theorem Grow.refl (as H) : Grow as as H H := ⟨⟨[], by simp⟩, fun a h n => absurd h n, fun _ _ _ h => h⟩
theorem Grow.trans {as as1 as2 H H1 H2} (a : Grow as as1 H H1) (b : Grow as1 as2 H1 H2) : Grow as as2 H H2 := by
  obtain ⟨m1, e1⟩ := a.ext
  obtain ⟨m2, e2⟩ := b.ext
  have nin : ∀ x o, x ∉ as → H x = some o → x ∉ as1 := fun x o h1 h2 h3 => by rw [a.new x h3 h1] at h2; cases h2
  refine ⟨⟨m1 ++ m2, by rw [e2, e1, List.append_assoc]⟩, fun x hx n => ?_, fun x o n h => b.keep x o (nin x o n h) (a.keep x o n h)⟩
  by_cases h1 : x ∈ as1
  · exact a.new x h1 n
  · have := b.new x hx h1
    cases q : H x with
    | none => rfl
    | some o => rw [a.keep x o n q] at this; cases this
theorem GrowB.refl (B as H) : GrowB B as as H H := ⟨⟨as.drop B, by simp⟩, fun a h n => absurd h n, fun _ _ _ h => h⟩
theorem Grow.B {as as' H H'} (g : Grow as as' H H') (B : Nat) : GrowB B as as' H H' := by
  obtain ⟨m, e⟩ := g.ext
  exact ⟨⟨as.drop B ++ m, by rw [e, ← List.append_assoc, List.take_append_drop]⟩, g.new, g.keep⟩
theorem GrowB.take {B as as' H H'} (g : GrowB B as as' H H') (hB : B ≤ as.length) : as'.take B = as.take B := by
  obtain ⟨m, e⟩ := g.ext
  rw [e, List.take_append_of_le_length (by simp [List.length_take]; omega), List.take_take, Nat.min_self]
theorem GrowB.le {B as as' H H'} (g : GrowB B as as' H H') (hB : B ≤ as.length) : B ≤ as'.length := by
  obtain ⟨m, e⟩ := g.ext
  rw [e, List.length_append, List.length_take]; omega
theorem GrowB.trans {B as as1 as2 H H1 H2} (a : GrowB B as as1 H H1) (b : GrowB B as1 as2 H1 H2) (hB : B ≤ as.length) : GrowB B as as2 H H2 := by
  obtain ⟨m2, e2⟩ := b.ext
  have nin : ∀ x o, x ∉ as → H x = some o → x ∉ as1 := fun x o h1 h2 h3 => by rw [a.new x h3 h1] at h2; cases h2
  refine ⟨⟨m2, by rw [e2, a.take hB]⟩, fun x hx n => ?_, fun x o n h => b.keep x o (nin x o n h) (a.keep x o n h)⟩
  by_cases h1 : x ∈ as1
  · exact a.new x h1 n
  · have := b.new x hx h1
    cases q : H x with
    | none => rfl
    | some o => rw [a.keep x o n q] at this; cases this
theorem GrowB.grow {as as' H H'} (g : GrowB as.length as as' H H') : Grow as as' H H' := by
  obtain ⟨m, e⟩ := g.ext
  exact ⟨⟨m, by rw [e, List.take_length]⟩, g.new, g.keep⟩

theorem Grow.out {as as' H H'} (g : Grow as as' H H') {a : Addr} {o : HO} (n : a ∉ as) (h : H a = some o) : a ∉ as' := fun m => by
  have e := g.new a m n
  rw [e] at h; cases h
mutual
theorem Rep.grow {as as' hs H H'} (g : Grow as as' H H') : ∀ {d v}, Rep as hs H d v → Rep as' hs H' d v
  | _, _, .non => .non
  | _, _, .bl => .bl
  | _, _, .int => .int
  | _, _, .str => .str
  | _, _, .ty => .ty
  | _, _, .obj => .obj
  | _, _, .lst n m h l => .lst (g.out n h) m (g.keep _ _ n h) (RepL.grow g l)
  | _, _, .tup n m h l => .tup (g.out n h) m (g.keep _ _ n h) (RepL.grow g l)
  | _, _, .own e => .own (by
      obtain ⟨m, q⟩ := g.ext
      rw [q, List.getElem?_append_left (List.getElem?_eq_some_iff.mp e).1]; exact e)
  | _, _, .set n m h => .set (g.out n h) m (g.keep _ _ n h)
  | _, _, .scr n m h => .scr (g.out n h) m (g.keep _ _ n h)
  | _, _, .exc n m h => .exc (g.out n h) m (g.keep _ _ n h)
  | _, _, .dct n m h e l => .dct (g.out n h) m (g.keep _ _ n h) e (RepL.grow g l)
  | _, _, .dcT n m h e l => .dcT (g.out n h) m (g.keep _ _ n h) e (RepL.grow g l)
theorem RepL.grow {as as' hs H H'} (g : Grow as as' H H') : ∀ {d v}, RepL as hs H d v → RepL as' hs H' d v
  | _, _, .nil => .nil
  | _, _, .cons r t => .cons (Rep.grow g r) (RepL.grow g t)
end
/-! an owned or hidden object changes -/
mutual
theorem Rep.mut {as hs : List Addr} {H H' : Hp} (k : ∀ a, a ∉ as → a ∉ hs → H' a = H a) : ∀ {d v}, Rep as hs H d v → Rep as hs H' d v
  | _, _, .non => .non
  | _, _, .bl => .bl
  | _, _, .int => .int
  | _, _, .str => .str
  | _, _, .ty => .ty
  | _, _, .obj => .obj
  | _, _, .lst n m h l => .lst n m ((k _ n m).trans h) (RepL.mut k l)
  | _, _, .tup n m h l => .tup n m ((k _ n m).trans h) (RepL.mut k l)
  | _, _, .own e => .own e
  | _, _, .set n m h => .set n m ((k _ n m).trans h)
  | _, _, .scr n m h => .scr n m ((k _ n m).trans h)
  | _, _, .exc n m h => .exc n m ((k _ n m).trans h)
  | _, _, .dct n m h e l => .dct n m ((k _ n m).trans h) e (RepL.mut k l)
  | _, _, .dcT n m h e l => .dcT n m ((k _ n m).trans h) e (RepL.mut k l)
theorem RepL.mut {as hs : List Addr} {H H' : Hp} (k : ∀ a, a ∉ as → a ∉ hs → H' a = H a) : ∀ {d v}, RepL as hs H d v → RepL as hs H' d v
  | _, _, .nil => .nil
  | _, _, .cons r t => .cons (Rep.mut k r) (RepL.mut k t)
end
/-! fewer hidden -/
mutual
theorem Rep.show {as hs hs' : List Addr} {H : Hp} (k : ∀ a, a ∈ hs' → a ∈ hs) : ∀ {d v}, Rep as hs H d v → Rep as hs' H d v
  | _, _, .non => .non
  | _, _, .bl => .bl
  | _, _, .int => .int
  | _, _, .str => .str
  | _, _, .ty => .ty
  | _, _, .obj => .obj
  | _, _, .lst n m h l => .lst n (fun z => m (k _ z)) h (RepL.show k l)
  | _, _, .tup n m h l => .tup n (fun z => m (k _ z)) h (RepL.show k l)
  | _, _, .own e => .own e
  | _, _, .set n m h => .set n (fun z => m (k _ z)) h
  | _, _, .scr n m h => .scr n (fun z => m (k _ z)) h
  | _, _, .exc n m h => .exc n (fun z => m (k _ z)) h
  | _, _, .dct n m h e l => .dct n (fun z => m (k _ z)) h e (RepL.show k l)
  | _, _, .dcT n m h e l => .dcT n (fun z => m (k _ z)) h e (RepL.show k l)
theorem RepL.show {as hs hs' : List Addr} {H : Hp} (k : ∀ a, a ∈ hs' → a ∈ hs) : ∀ {d v}, RepL as hs H d v → RepL as hs' H d v
  | _, _, .nil => .nil
  | _, _, .cons r t => .cons (Rep.show k r) (RepL.show k t)
end
/-! one more hidden: an address that is new -/
mutual
theorem Rep.hide {as hs : List Addr} {H : Hp} {p : Addr} (k : H p = none) : ∀ {d v}, Rep as hs H d v → Rep as (p :: hs) H d v
  | _, _, .non => .non
  | _, _, .bl => .bl
  | _, _, .int => .int
  | _, _, .str => .str
  | _, _, .ty => .ty
  | _, _, .obj => .obj
  | _, _, .lst n m h l => .lst n (fun z => (List.mem_cons.mp z).elim (fun e => by rw [e, k] at h; cases h) m) h (RepL.hide k l)
  | _, _, .tup n m h l => .tup n (fun z => (List.mem_cons.mp z).elim (fun e => by rw [e, k] at h; cases h) m) h (RepL.hide k l)
  | _, _, .own e => .own e
  | _, _, .set n m h => .set n (fun z => (List.mem_cons.mp z).elim (fun e => by rw [e, k] at h; cases h) m) h
  | _, _, .scr n m h => .scr n (fun z => (List.mem_cons.mp z).elim (fun e => by rw [e, k] at h; cases h) m) h
  | _, _, .exc n m h => .exc n (fun z => (List.mem_cons.mp z).elim (fun e => by rw [e, k] at h; cases h) m) h
  | _, _, .dct n m h e l => .dct n (fun z => (List.mem_cons.mp z).elim (fun e => by rw [e, k] at h; cases h) m) h e (RepL.hide k l)
  | _, _, .dcT n m h e l => .dcT n (fun z => (List.mem_cons.mp z).elim (fun e => by rw [e, k] at h; cases h) m) h e (RepL.hide k l)
theorem RepL.hide {as hs : List Addr} {H : Hp} {p : Addr} (k : H p = none) : ∀ {d v}, RepL as hs H d v → RepL as (p :: hs) H d v
  | _, _, .nil => .nil
  | _, _, .cons r t => .cons (Rep.hide k r) (RepL.hide k t)
end

/-! ### what is owned, the slots -/
/-- no tuple -/
def NoT : HO → Prop
  | .tup _ => False
  | _ => True
structure Cells (as hs : List Addr) (cs : Cs) (H : Hp) : Prop where
  nd : as.Nodup
  len : cs.length = as.length
  at_ : ∀ (k : Nat) (a : Addr), as[k]? = some a → ∃ ds vs, cs[k]? = some ds ∧ H a = some (.lst vs) ∧ RepL as hs H ds vs
  hid : ∀ a ∈ hs, a ∉ as ∧ ∃ o, H a = some o ∧ NoT o
structure Fit (as hs : List Addr) (ρ : Ro) (cs : Cs) (σ : L2.St) (H : Hp) : Prop where
  cells : Cells as hs cs H
  slen : ρ.length = σ.length
  slot : ∀ (i : Nat) (d : D), ρ[i]? = some (some d) → ∃ v, σ[i]? = some (some v) ∧ Rep as hs H d v
theorem Fit.grow {as as' hs ρ cs cs' σ H H'} (f : Fit as hs ρ cs σ H) (g : Grow as as' H H') (c : Cells as' hs cs' H') : Fit as' hs ρ cs' σ H' :=
  ⟨c, f.slen, fun i d e => by
    obtain ⟨v, h, r⟩ := f.slot i d e
    exact ⟨v, h, r.grow g⟩⟩
theorem Cells.there {as hs cs H} (c : Cells as hs cs H) {a : Addr} (h : a ∈ as) : ∃ o, H a = some o := by
  obtain ⟨k, e⟩ := List.getElem?_of_mem h
  obtain ⟨_, vs, _, h, _⟩ := c.at_ k a e
  exact ⟨_, h⟩
theorem Cells.fresh {as hs cs H} (c : Cells as hs cs H) {p : Addr} (n : H p = none) : p ∉ as ∧ p ∉ hs :=
by
  refine ⟨fun z1 => ?_, fun z => ?_⟩
  · obtain ⟨o, e⟩ := c.there z1
    rw [n] at e; cases e
  · obtain ⟨_, o, e, _⟩ := c.hid p z
    rw [n] at e; cases e
theorem Cells.noTup {as hs cs H} (c : Cells as hs cs H) {p : Addr} {xs : List V} (n : H p = some (.tup xs)) : p ∉ as ∧ p ∉ hs := by
  refine (⟨fun z => ?_, fun z => ?_⟩)
  · obtain ⟨k, e⟩ := List.getElem?_of_mem z
    obtain ⟨_, vs, _, h, _⟩ := c.at_ k p e
    rw [n] at h; cases h
  · obtain ⟨_, o, e, t⟩ := c.hid p z
    rw [n] at e; cases e
    exact t
theorem Grow.laid {as H} {p : Addr} {o : HO} (n : H p = none) : Grow as as H (upd H p o) :=
  ⟨⟨[], by simp⟩, fun a h n => absurd h n, fun a u _ h => by rw [upd_ne (ne_of_none h n)]; exact h⟩
theorem Cells.laid {as hs cs H} (c : Cells as hs cs H) {p : Addr} {o : HO} (n : H p = none) : Cells as hs cs (upd H p o) :=
  ⟨c.nd, c.len, fun k a e => by
    obtain ⟨ds, vs, h1, h2, h3⟩ := c.at_ k a e
    exact ⟨ds, vs, h1, by rw [upd_ne (ne_of_none h2 n)]; exact h2, h3.grow (Grow.laid n)⟩, fun a h => by
    obtain ⟨h1, u, h2, ht⟩ := c.hid a h
    exact ⟨h1, u, by rw [upd_ne (ne_of_none h2 n)]; exact h2, ht⟩⟩
/-- .. as a new cell -/
theorem Grow.cell {as H} {p : Addr} {o : HO} (n : H p = none) : Grow as (as ++ [p]) H (upd H p o) :=
  ⟨⟨[p], rfl⟩, fun a h m => by
    rcases List.mem_append.mp h with hl | hr
    · exact absurd hl m
    · rw [List.mem_singleton.mp hr]; exact n, fun a u _ h => by rw [upd_ne (ne_of_none h n)]; exact h⟩
theorem Cells.cell {as hs cs H} (c : Cells as hs cs H) {p : Addr} {ds : List D} {vs : List V} (n : H p = none) (r : RepL as hs H ds vs) : Cells (as ++ [p]) hs (cs ++ [ds]) (upd H p (.lst vs)) := by
  have np := c.fresh n
  refine ⟨?_, by simp [c.len], fun k a e => ?_, fun a h => ?_⟩
  · rw [List.nodup_append]
    refine ⟨c.nd, by simp, fun a ha b hb => ?_⟩
    rw [List.mem_singleton.mp hb]
    exact fun e => np.1 (e ▸ ha)
  · by_cases hk : k < as.length
    · rw [List.getElem?_append_left hk] at e
      obtain ⟨d, v, h1, h2, h3⟩ := c.at_ k a e
      refine ⟨d, v, ?_, by rw [upd_ne (ne_of_none h2 n)]; exact h2, h3.grow (Grow.cell n)⟩
      rw [List.getElem?_append_left (by rw [c.len]; exact hk)]; exact h1
    · rw [List.getElem?_append_right (by omega)] at e
      have hk0 : k - as.length = 0 := by
        have := (List.getElem?_eq_some_iff.mp e).1
        simp at this; omega
      rw [hk0] at e
      have ea : p = a := by simpa using e
      subst ea
      refine ⟨ds, vs, ?_, upd_same, r.grow (Grow.cell n)⟩
      rw [List.getElem?_append_right (by rw [c.len]; omega), c.len, hk0]; rfl
  · obtain ⟨h1, u, h2, ht⟩ := c.hid a h
    refine ⟨fun z => ?_, u, by rw [upd_ne (ne_of_none h2 n)]; exact h2, ht⟩
    rcases List.mem_append.mp z with z | z
    · exact h1 z
    · rw [List.mem_singleton.mp z, n] at h2; cases h2

/-! ### readings over the data -/
abbrev PD := D → Cs → Prop
def tD (ρ : Ro) (cs : Cs) (P : PD) : TE := fun σ H Q => ∃ as hs, Fit as hs ρ cs σ H ∧ ∀ v H' as' d cs', Grow as as' H H' → Cells as' hs cs' H' → Rep as' hs H' d v → P d cs' → Q v H'
/-- a new list that nobody else has -/
def tN (ρ : Ro) (cs : Cs) (P : List D → Cs → Prop) : TE := fun σ H Q => ∃ as hs, Fit as hs ρ cs σ H ∧ ∀ p H1 as' ds vs cs', Grow as as' H H1 → Cells as' hs cs' H1 → H1 p = none → RepL as' hs H1 ds vs → P ds cs' → Q (.ref p) (upd H1 p (.lst vs))
def tDT (ρ : Ro) (cs : Cs) (P : Bool → Cs → Prop) : TT := fun σ H Q => ∃ as hs, Fit as hs ρ cs σ H ∧ ∀ b H' as' cs', Grow as as' H H' → Cells as' hs cs' H' → P b cs' → Q b H'
def tDA (ρ : Ro) (cs : Cs) (P : List D → Cs → Prop) : TA := fun σ H Q => ∃ as hs, Fit as hs ρ cs σ H ∧ ∀ vs H' as' ds cs', Grow as as' H H' → Cells as' hs cs' H' → RepL as' hs H' ds vs → P ds cs' → Q vs H'

def W (X : Cx) (e : Expr) (ρ : Ro) (cs : Cs) (P : PD) : Prop := PE X e (tD ρ cs P)
def WN (X : Cx) (e : Expr) (ρ : Ro) (cs : Cs) (P : List D → Cs → Prop) : Prop := PE X e (tN ρ cs P)
def WT (X : Cx) (e : Expr) (ρ : Ro) (cs : Cs) (P : Bool → Cs → Prop) : Prop := PT X e (tDT ρ cs P)
def WA (X : Cx) (es : List Expr) (ρ : Ro) (cs : Cs) (P : List D → Cs → Prop) : Prop := PA X es (tDA ρ cs P)

theorem pe_imp {X : Cx} {e : Expr} {t t' : TE} (h : PE X e t) (i : ∀ σ H Q, t' σ H Q → t σ H Q) : PE X e t' := ⟨fun pins s σ H Q I q => h.run pins s σ H Q I (i _ _ _ q)⟩
theorem pt_imp {X : Cx} {e : Expr} {t t' : TT} (h : PT X e t) (i : ∀ σ H Q, t' σ H Q → t σ H Q) : PT X e t' := ⟨fun pins s σ H Q I q => h.run pins s σ H Q I (i _ _ _ q)⟩
theorem pa_imp {X : Cx} {e : List Expr} {t t' : TA} (h : PA X e t) (i : ∀ σ H Q, t' σ H Q → t σ H Q) : PA X e t' := ⟨fun pos pins s σ H Q I q => h.run pos pins s σ H Q I (i _ _ _ q)⟩
theorem ps_imp {X : Cx} {e : Stmt} {t t' : TS} (h : PS X e t) (i : ∀ D σ H, t' D σ H → t D σ H) : PS X e t' := ⟨fun pins s σ H D I q => h.run pins s σ H D I (i _ _ _ q)⟩
theorem pss_imp {X : Cx} {e : List Stmt} {t t' : TS} (h : PSs X e t) (i : ∀ D σ H, t' D σ H → t D σ H) : PSs X e t' := ⟨fun pins s σ H D I q => h.run pins s σ H D I (i _ _ _ q)⟩

/-- the reading that fits all of a family -/
def tAny (S : Ro → Cs → PD → Prop) : TE := fun σ H Q => ∃ ρ cs P, S ρ cs P ∧ tD ρ cs P σ H Q
theorem pe_any {X : Cx} {e : Expr} {S : Ro → Cs → PD → Prop} (h : ∀ ρ cs P, S ρ cs P → W X e ρ cs P) : PE X e (tAny S) :=
  ⟨fun pins s σ H Q I ⟨ρ, cs, P, hs, q⟩ => (h ρ cs P hs).run pins s σ H Q I q⟩
def tAnyT (S : Ro → Cs → (Bool → Cs → Prop) → Prop) : TT := fun σ H Q => ∃ ρ cs P, S ρ cs P ∧ tDT ρ cs P σ H Q
theorem pt_any {X : Cx} {e : Expr} {S : Ro → Cs → (Bool → Cs → Prop) → Prop} (h : ∀ ρ cs P, S ρ cs P → WT X e ρ cs P) : PT X e (tAnyT S) :=
  ⟨fun pins s σ H Q I ⟨ρ, cs, P, hs, q⟩ => (h ρ cs P hs).run pins s σ H Q I q⟩
def tAnyA (S : Ro → Cs → (List D → Cs → Prop) → Prop) : TA := fun σ H Q => ∃ ρ cs P, S ρ cs P ∧ tDA ρ cs P σ H Q
theorem pa_any {X : Cx} {e : List Expr} {S : Ro → Cs → (List D → Cs → Prop) → Prop} (h : ∀ ρ cs P, S ρ cs P → WA X e ρ cs P) : PA X e (tAnyA S) :=
  ⟨fun pos pins s σ H Q I ⟨ρ, cs, P, hs, q⟩ => (h ρ cs P hs).run pos pins s σ H Q I q⟩

/-! ### statements -/
structure En where
  nx : Ro → Cs → Prop
  rt : D → Cs → Prop
  bk : Ro → Cs → Prop := fun _ _ => False
  ct : Ro → Cs → Prop := fun _ _ => False
def tS (B : Nat) (E : En) (ρ : Ro) (cs : Cs) : TS := fun DD σ H => B ≤ cs.length ∧ ∃ as hs, Fit as hs ρ cs σ H ∧
  (∀ σ' H' as' ρ' cs', GrowB B as as' H H' → Fit as' hs ρ' cs' σ' H' → E.nx ρ' cs' → DD.nx σ' H') ∧
  (∀ v H' as' d cs', GrowB B as as' H H' → Cells as' hs cs' H' → Rep as' hs H' d v → E.rt d cs' → DD.rt v H') ∧
  (∀ σ' H' as' ρ' cs', GrowB B as as' H H' → Fit as' hs ρ' cs' σ' H' → E.bk ρ' cs' → DD.bk σ' H') ∧
  (∀ σ' H' as' ρ' cs', GrowB B as as' H H' → Fit as' hs ρ' cs' σ' H' → E.ct ρ' cs' → DD.ct σ' H')
def WS (X : Cx) (B : Nat) (st : Stmt) (E : En) (ρ : Ro) (cs : Cs) : Prop := PS X st (tS B E ρ cs)
def WSs (X : Cx) (B : Nat) (sts : List Stmt) (E : En) (ρ : Ro) (cs : Cs) : Prop := PSs X sts (tS B E ρ cs)

end Rg
set_option Elab.async false
set_option linter.all false
set_option maxRecDepth 100000
namespace Rg
open PySem PySem.Spec
open PyProof.Rows L2

/-! ### the end of an expression -/
abbrev Fin (as hs : List Addr) (H : Hp) (P : PD) (Q : VK) : Prop := ∀ v H' as' d cs', Grow as as' H H' → Cells as' hs cs' H' → Rep as' hs H' d v → P d cs' → Q v H'
abbrev FinN (as hs : List Addr) (H : Hp) (P : List D → Cs → Prop) (Q : VK) : Prop := ∀ p H1 as' ds vs cs', Grow as as' H H1 → Cells as' hs cs' H1 → H1 p = none → RepL as' hs H1 ds vs → P ds cs' → Q (.ref p) (upd H1 p (.lst vs))
abbrev FinT (as hs : List Addr) (H : Hp) (P : Bool → Cs → Prop) (Q : Bool → Hp → Prop) : Prop := ∀ b H' as' cs', Grow as as' H H' → Cells as' hs cs' H' → P b cs' → Q b H'
abbrev FinA (as hs : List Addr) (H : Hp) (P : List D → Cs → Prop) (Q : List V → Hp → Prop) : Prop := ∀ vs H' as' ds cs', Grow as as' H H' → Cells as' hs cs' H' → RepL as' hs H' ds vs → P ds cs' → Q vs H'
theorem Fin.next {as as1 hs H H1 P Q} (q : Fin as hs H P Q) (g : Grow as as1 H H1) : Fin as1 hs H1 P Q := fun v H' as' d cs' g' => q v H' as' d cs' (g.trans g')
theorem FinN.next {as as1 hs H H1 P Q} (q : FinN as hs H P Q) (g : Grow as as1 H H1) : FinN as1 hs H1 P Q := fun p H1 as' ds vs cs' g' => q p H1 as' ds vs cs' (g.trans g')
theorem FinT.next {as as1 hs H H1 P Q} (q : FinT as hs H P Q) (g : Grow as as1 H H1) : FinT as1 hs H1 P Q := fun b H' as' cs' g' => q b H' as' cs' (g.trans g')
theorem FinA.next {as as1 hs H H1 P Q} (q : FinA as hs H P Q) (g : Grow as as1 H H1) : FinA as1 hs H1 P Q := fun vs H' as' ds cs' g' => q vs H' as' ds cs' (g.trans g')

section
variable {X : Cx} {ρ : Ro} {cs : Cs} {e a b c : Expr} {es rest : List Expr} {P : PD} {PN : List D → Cs → Prop} {PT' : Bool → Cs → Prop} {pos : Pos}

theorem w_of {t : TE} (h : PE X e t) (i : ∀ as hs σ H Q, Fit as hs ρ cs σ H → Fin as hs H P Q → t σ H Q) : W X e ρ cs P :=
  pe_imp h fun σ H Q ⟨as, hs, f, q⟩ => i as hs σ H Q f q
theorem wn_of {t : TE} (h : PE X e t) (i : ∀ as hs σ H Q, Fit as hs ρ cs σ H → FinN as hs H PN Q → t σ H Q) : WN X e ρ cs PN :=
  pe_imp h fun σ H Q ⟨as, hs, f, q⟩ => i as hs σ H Q f q
theorem wt_of {t : TT} (h : PT X e t) (i : ∀ as hs σ H Q, Fit as hs ρ cs σ H → FinT as hs H PT' Q → t σ H Q) : WT X e ρ cs PT' :=
  pt_imp h fun σ H Q ⟨as, hs, f, q⟩ => i as hs σ H Q f q
theorem wa_of {t : TA} (h : PA X es t) (i : ∀ as hs σ H Q, Fit as hs ρ cs σ H → FinA as hs H PN Q → t σ H Q) : WA X es ρ cs PN :=
  pa_imp h fun σ H Q ⟨as, hs, f, q⟩ => i as hs σ H Q f q
theorem sub1 {as hs σ H} {Q : VK} (f : Fit as hs ρ cs σ H) (k : ∀ v H' as' d cs', Grow as as' H H' → Fit as' hs ρ cs' σ H' → Rep as' hs H' d v → P d cs' → Q v H') : tD ρ cs P σ H Q :=
  ⟨as, hs, f, fun v H' as' d cs' g c r p => k v H' as' d cs' g (f.grow g c) r p⟩
theorem subT {as hs σ H} {Q : Bool → Hp → Prop} (f : Fit as hs ρ cs σ H) (k : ∀ b H' as' cs', Grow as as' H H' → Fit as' hs ρ cs' σ H' → PT' b cs' → Q b H') : tDT ρ cs PT' σ H Q :=
  ⟨as, hs, f, fun v H' as' cs' g c p => k v H' as' cs' g (f.grow g c) p⟩
theorem subA {as hs σ H} {Q : List V → Hp → Prop} (f : Fit as hs ρ cs σ H) (k : ∀ vs H' as' ds cs', Grow as as' H H' → Fit as' hs ρ cs' σ H' → RepL as' hs H' ds vs → PN ds cs' → Q vs H') : tDA ρ cs PN σ H Q :=
  ⟨as, hs, f, fun v H' as' d cs' g c r p => k v H' as' d cs' g (f.grow g c) r p⟩

/-! ### constants, names -/
theorem w_int {i : Int} {j} (h : P (.int i) cs) : W X (.Constant (.int i) j pos) ρ cs P := w_of pe_int fun as hs σ H Q f q => q _ _ _ _ _ (Grow.refl as H) f.cells .int h
theorem w_bl {i : Bool} {j} (h : P (.bl i) cs) : W X (.Constant (.bool i) j pos) ρ cs P := w_of pe_bl fun as hs σ H Q f q => q _ _ _ _ _ (Grow.refl as H) f.cells .bl h
theorem w_non {j} (h : P .non cs) : W X (.Constant .none j pos) ρ cs P := w_of pe_non fun as hs σ H Q f q => q _ _ _ _ _ (Grow.refl as H) f.cells .non h
theorem w_str {x : Str} {j} (h : P (.str x) cs) : W X (.Constant (.str x) j pos) ρ cs P := w_of pe_str fun as hs σ H Q f q => q _ _ _ _ _ (Grow.refl as H) f.cells .str h
theorem w_nm (i : Nat) {x : Str} {d : D} (h : P d cs) (hd : ρ[i]? = some (some d) := by rfl) (hN : X.N[i]? = some x := by rfl) (hv : Vis X.env.scope x := by first | exact Or.inl rfl | exact Or.inr (Or.inl rfl) | exact Or.inr (Or.inr rfl))
    (hdb : (x == ("__debug__" : Str)) = false := by decide) (hcd : (x == ("__classdict__" : Str)) = false := by decide) : W X (.Name x pos) ρ cs P :=
  w_of (pe_var (i := i) hN hv hdb hcd) fun as hs σ H Q f q => by
    obtain ⟨v, e1, r⟩ := f.slot i d hd
    exact ⟨v, e1, q _ _ _ _ _ (Grow.refl as H) f.cells r h⟩
/-- a module's int -/
theorem w_gint {x : Str} {i : Int} {u : Value} (hm : X.mg x = some u) (r : RelV (.int i) u) (h : P (.int i) cs) (hg : Gl X x := by rfl) (hd : (x == ("__debug__" : Str)) = false := by decide) : W X (.Name x pos) ρ cs P :=
  w_of (pe_glob hg hm r hd) fun as hs σ H Q f q => q _ _ _ _ _ (Grow.refl as H) f.cells .int h
/-- a class of the module -/
theorem w_gobj {x : Str} {p : Addr} (hm : X.mg x = some (.ref p)) (h : P (.obj p) cs) (hg : Gl X x := by rfl) (hd : (x == ("__debug__" : Str)) = false := by decide) : W X (.Name x pos) ρ cs P :=
  w_of (pe_glob (v := .ref p) hg hm rfl hd) fun as hs σ H Q f q => q _ _ _ _ _ (Grow.refl as H) f.cells .obj h
/-- a built-in class as a value -/
theorem w_gty {x : Str} {n : String} (hm : X.mg x = none) (hv : bootBuiltins x = some (.type n)) (h : P (.ty n) cs) (hg : Gl X x := by rfl) (hn : x ≠ "__name__" := by decide) (hd : (x == ("__debug__" : Str)) = false := by decide) : W X (.Name x pos) ρ cs P :=
  w_of (pe_bltn (v := .ty n) hg hm hv rfl hn hd) fun as hs σ H Q f q => q _ _ _ _ _ (Grow.refl as H) f.cells .ty h

/-! ### a new list, kept as it is or as a cell -/
theorem w_new (h : WN X e ρ cs fun ds cs' => P (.lst ds) cs') : W X e ρ cs P := by
  refine w_of h fun as hs σ H Q f q => ⟨as, hs, f, fun p H1 as' ds vs cs' g c n r hp => ?_⟩
  have np := c.fresh n
  exact q _ _ as' _ cs' (g.trans (Grow.laid n)) (c.laid n) (.lst np.1 np.2 upd_same (r.grow (Grow.laid n))) hp
theorem w_cell (h : WN X e ρ cs fun ds cs' => P (.own cs'.length) (cs' ++ [ds])) : W X e ρ cs P := by
  refine w_of h fun as hs σ H Q f q => ⟨as, hs, f, fun p H1 as' ds vs cs' g c n r hp => ?_⟩
  refine q _ _ (as' ++ [p]) _ _ (g.trans (Grow.cell n)) (c.cell n r) (.own ?_) hp
  rw [List.getElem?_append_right (by rw [c.len]; omega), c.len]; simp

/-! ### operators -/
abbrev GD2 := D → D → Cs → PD → Prop
def OpD (r : R2) (g : GD2) : Prop := ∀ as hs H x y d1 d2 cs P (Q : VK), Cells as hs cs H → Rep as hs H d1 x → Rep as hs H d2 y → g d1 d2 cs P → Fin as hs H P Q → r x y H Q
def OpN (r : R2) (g : D → D → Cs → (List D → Cs → Prop) → Prop) : Prop := ∀ as hs H x y d1 d2 cs P (Q : VK), Cells as hs cs H → Rep as hs H d1 x → Rep as hs H d2 y → g d1 d2 cs P → FinN as hs H P Q → r x y H Q
theorem two_t {r : R2} {P1 : D → Cs → PD} {P' : PD} {as hs σ H} {Q : VK} (f : Fit as hs ρ cs σ H) (h : ∀ d1 cs1, P' d1 cs1 → W X b ρ cs1 (P1 d1 cs1))
    (k : ∀ x y H2 as2 d1 d2 cs1 cs2, Grow as as2 H H2 → Fit as2 hs ρ cs2 σ H2 → Rep as2 hs H2 d1 x → Rep as2 hs H2 d2 y → P1 d1 cs1 d2 cs2 → r x y H2 Q) :
    tOp r (tD ρ cs P') (tAny (W X b)) σ H Q :=
  sub1 f fun v1 H1 as1 d1 cs1 g1 f1 r1 p1 => ⟨ρ, cs1, _, h d1 cs1 p1, sub1 f1 fun v2 H2 as2 d2 cs2 g2 f2 r2 p2 => k v1 v2 H2 as2 d1 d2 cs1 cs2 (g1.trans g2) f2 (r1.grow g2) r2 p2⟩
theorem w_op {op : Operator} {r : R2} {g : GD2} (ho : OpR X (binaryOp op) r) (hd : OpD r g) (h : W X a ρ cs fun d1 cs1 => W X b ρ cs1 fun d2 cs2 => g d1 d2 cs2 P) : W X (.BinOp a op b pos) ρ cs P :=
  w_of (pe_op ho h (pe_any (S := W X b) fun _ _ _ z => z)) fun as hs σ H Q f q =>
    two_t (P1 := fun d1 _ d2 cs2 => g d1 d2 cs2 P) f (fun d1 cs1 z => z) fun x y H2 as2 d1 d2 cs1 cs2 g2 f2 r1 r2 p => hd as2 hs H2 x y d1 d2 cs2 P Q f2.cells r1 r2 p (q.next g2)
theorem wn_op {op : Operator} {r : R2} {g : D → D → Cs → (List D → Cs → Prop) → Prop} (ho : OpR X (binaryOp op) r) (hd : OpN r g) (h : W X a ρ cs fun d1 cs1 => W X b ρ cs1 fun d2 cs2 => g d1 d2 cs2 PN) : WN X (.BinOp a op b pos) ρ cs PN :=
  wn_of (pe_op ho h (pe_any (S := W X b) fun _ _ _ z => z)) fun as hs σ H Q f q =>
    two_t (P1 := fun d1 _ d2 cs2 => g d1 d2 cs2 PN) f (fun d1 cs1 z => z) fun x y H2 as2 d1 d2 cs1 cs2 g2 f2 r1 r2 p => hd as2 hs H2 x y d1 d2 cs2 PN Q f2.cells r1 r2 p (FinN.next q g2)
theorem w_cmp {op : CmpOp} {r : R2} {g : GD2} (ho : OpR X (compareOp op) r) (hd : OpD r g) (hm : behindInMarks op b = false) (h : W X a ρ cs fun d1 cs1 => W X b ρ cs1 fun d2 cs2 => g d1 d2 cs2 P) : W X (.Compare a [op] [b] pos) ρ cs P :=
  w_of (pe_cmpR ho h (pe_any (S := W X b) fun _ _ _ z => z) hm) fun as hs σ H Q f q =>
    two_t (P1 := fun d1 _ d2 cs2 => g d1 d2 cs2 P) f (fun d1 cs1 z => z) fun x y H2 as2 d1 d2 cs1 cs2 g2 f2 r1 r2 p => hd as2 hs H2 x y d1 d2 cs2 P Q f2.cells r1 r2 p (q.next g2)
abbrev isB (PT' : Bool → Cs → Prop) : PD := fun d cs' => ∃ k, d = .bl k ∧ PT' k cs'
theorem fin_b {as hs H} {Q : Bool → Hp → Prop} (q : FinT as hs H PT' Q) : Fin as hs H (isB PT') fun x H' => ∃ k, x = .bl k ∧ Q k H' := fun v H' as' d cs' g c r p => by
  obtain ⟨k, rfl, p⟩ := p
  cases r
  exact ⟨k, rfl, q k H' as' cs' g c p⟩
theorem wt_cmp {op : CmpOp} {r : R2} {g : GD2} (ho : OpR X (compareOp op) r) (hd : OpD r g) (hm : behindInMarks op b = false) (h : W X a ρ cs fun d1 cs1 => W X b ρ cs1 fun d2 cs2 => g d1 d2 cs2 (isB PT')) : WT X (.Compare a [op] [b] pos) ρ cs PT' :=
  wt_of (pt_cmpR ho h (pe_any (S := W X b) fun _ _ _ z => z) hm) fun as hs σ H Q f q =>
    two_t (P1 := fun d1 _ d2 cs2 => g d1 d2 cs2 (isB PT')) f (fun d1 cs1 z => z) fun x y H2 as2 d1 d2 cs1 cs2 g2 f2 r1 r2 p => hd as2 hs H2 x y d1 d2 cs2 _ _ f2.cells r1 r2 p (fin_b (FinT.next q g2))
theorem w_chain {op op' : CmpOp} {r r' : R2} {g g' : GD2} (ho : OpR X (compareOp op) r) (ho' : OpR X (compareOp op') r') (hd : OpD r g) (hd' : OpD r' g') 
    (h : W X a ρ cs fun d1 cs1 => W X b ρ cs1 fun d2 cs2 => g d1 d2 cs2 fun d3 cs3 => ∃ k, d3 = .bl k ∧ if k = true then W X c ρ cs3 fun d4 cs4 => g' d2 d4 cs4 P else P (.bl false) cs3) (hm : lastMarks [op, op'] [b, c] = false := by rfl) : W X (.Compare a [op, op'] [b, c] pos) ρ cs P := by
  refine w_of (pe_chain ho ho' h (pe_any (S := W X b) fun _ _ _ z => z) (pe_any (S := W X c) fun _ _ _ z => z) hm) fun as hs σ H Q f q => ?_
  refine sub1 f fun v1 H1 as1 d1 cs1 g1 f1 r1 p1 => ⟨ρ, cs1, _, p1, sub1 f1 fun v2 H2 as2 d2 cs2 g2 f2 r2 p2 => ?_⟩
  refine hd as2 hs H2 v1 v2 d1 d2 cs2 _ _ f2.cells (r1.grow g2) r2 p2 fun v3 H3 as3 d3 cs3 g3 c3 r3 p3 => ?_
  obtain ⟨k, rfl, p3⟩ := p3
  cases r3
  refine ⟨k, rfl, ?_⟩
  cases k with
  | true => exact ⟨ρ, cs3, _, p3, sub1 (f2.grow g3 c3) fun v4 H4 as4 d4 cs4 g4 f4 r4 p4 => hd' as4 hs H4 v2 v4 d2 d4 cs4 P Q f4.cells ((r2.grow g3).grow g4) r4 p4 (q.next (((g1.trans g2).trans g3).trans g4))⟩
  | false => exact q _ _ _ _ _ ((g1.trans g2).trans g3) c3 .bl p3
theorem w_ix {r : R2} {g : GD2} (hr : IxR X r) (hd : OpD r g) (h : W X a ρ cs fun d1 cs1 => W X b ρ cs1 fun d2 cs2 => g d1 d2 cs2 P) (hs : PlainIx b := by exact fun _ _ => rfl) : W X (.Subscript a b pos) ρ cs P :=
  w_of (pe_ix hr h (pe_any (S := W X b) fun _ _ _ z => z) hs) fun as hs σ H Q f q =>
    two_t (P1 := fun d1 _ d2 cs2 => g d1 d2 cs2 P) f (fun d1 cs1 z => z) fun x y H2 as2 d1 d2 cs1 cs2 g2 f2 r1 r2 p => hd as2 hs H2 x y d1 d2 cs2 P Q f2.cells r1 r2 p (q.next g2)
theorem w_un {op : UnaryOp} {f : Int → Int} (ho : UnR X (unaryOp op) (rU fun i => .int (f i))) (h : W X a ρ cs fun d cs1 => ∃ i, d = .int i ∧ P (.int (f i)) cs1) : W X (.UnaryOp op a pos) ρ cs P :=
  w_of (pe_un ho h) fun as hs σ H Q ft q => sub1 ft fun v H1 as1 d cs1 g1 f1 r1 p1 => by
    obtain ⟨i, rfl, p1⟩ := p1
    cases r1
    exact ⟨i, rfl, q _ _ _ _ _ g1 f1.cells .int p1⟩

/-- two ints -/
theorem od_I {C : Int → Int → Prop} {f : Int → Int → Int} : OpD (rI C fun i j => .int (f i j)) fun d1 d2 cs P => ∃ i j, d1 = .int i ∧ d2 = .int j ∧ C i j ∧ P (.int (f i j)) cs := by
  rintro as hs H x y d1 d2 cs P Q c r1 r2 ⟨i, j, rfl, rfl, hc, p⟩ q
  cases r1; cases r2
  exact ⟨i, j, rfl, rfl, hc, q _ _ _ _ _ (Grow.refl as H) c .int p⟩
theorem od_I0 {f : Int → Int → Int} : OpD (rI0 fun i j => .int (f i j)) fun d1 d2 cs P => ∃ i j, d1 = .int i ∧ d2 = .int j ∧ P (.int (f i j)) cs := by
  rintro as hs H x y d1 d2 cs P Q c r1 r2 ⟨i, j, rfl, rfl, p⟩ q
  cases r1; cases r2
  exact ⟨i, j, rfl, rfl, q _ _ _ _ _ (Grow.refl as H) c .int p⟩
theorem od_B0 {f : Int → Int → Bool} : OpD (rI0 fun i j => .bl (f i j)) fun d1 d2 cs P => ∃ i j, d1 = .int i ∧ d2 = .int j ∧ P (.bl (f i j)) cs := by
  rintro as hs H x y d1 d2 cs P Q c r1 r2 ⟨i, j, rfl, rfl, p⟩ q
  cases r1; cases r2
  exact ⟨i, j, rfl, rfl, q _ _ _ _ _ (Grow.refl as H) c .bl p⟩
theorem w_add (h : W X a ρ cs fun d1 cs1 => W X b ρ cs1 fun d2 cs2 => ∃ i j, d1 = .int i ∧ d2 = .int j ∧ P (.int (i + j)) cs2) : W X (.BinOp a .Add b pos) ρ cs P := w_op op_add od_I0 h
theorem w_sub (h : W X a ρ cs fun d1 cs1 => W X b ρ cs1 fun d2 cs2 => ∃ i j, d1 = .int i ∧ d2 = .int j ∧ P (.int (i - j)) cs2) : W X (.BinOp a .Sub b pos) ρ cs P := w_op op_sub od_I0 h
theorem w_mul (h : W X a ρ cs fun d1 cs1 => W X b ρ cs1 fun d2 cs2 => ∃ i j, d1 = .int i ∧ d2 = .int j ∧ CMul i j ∧ P (.int (i * j)) cs2) : W X (.BinOp a .Mult b pos) ρ cs P := w_op op_mul od_I h
theorem w_mulW (h : W X a ρ cs fun d1 cs1 => W X b ρ cs1 fun d2 cs2 => ∃ i j, d1 = .int i ∧ d2 = .int j ∧ CMulW i j ∧ P (.int (i * j)) cs2) : W X (.BinOp a .Mult b pos) ρ cs P := w_op op_mulW od_I h
theorem w_mod (h : W X a ρ cs fun d1 cs1 => W X b ρ cs1 fun d2 cs2 => ∃ i j, d1 = .int i ∧ d2 = .int j ∧ 0 < j ∧ P (.int (i % j)) cs2) : W X (.BinOp a .Mod b pos) ρ cs P := w_op op_mod od_I h
theorem w_div (h : W X a ρ cs fun d1 cs1 => W X b ρ cs1 fun d2 cs2 => ∃ i j, d1 = .int i ∧ d2 = .int j ∧ CDiv i j ∧ P (.int (i / j)) cs2) : W X (.BinOp a .FloorDiv b pos) ρ cs P := w_op op_fdiv od_I h
/-- powers of great ints -/
def CPowW (i j : Int) : Prop := 0 ≤ j ∧ (i.natAbs.log2 + 1 : Int) * j ≤ 2 ^ 27
theorem op_powW : OpR X (binaryOp .Pow) (rI CPowW fun i j => .int (i ^ j.toNat)) := opI fun i j _ _ _ _ _ hc q => pow_int hc.1 (by
  have b : Builtin.Int.intBits i ≤ i.natAbs.log2 + 1 := by
    unfold Builtin.Int.intBits
    split <;> omega
  have h1 : (Builtin.Int.intBits i : Int) * j ≤ (i.natAbs.log2 + 1 : Int) * j := Int.mul_le_mul_of_nonneg_right (by omega) hc.1
  exact Int.le_trans h1 hc.2) q
theorem w_pow (h : W X a ρ cs fun d1 cs1 => W X b ρ cs1 fun d2 cs2 => ∃ i j, d1 = .int i ∧ d2 = .int j ∧ CPowW i j ∧ P (.int (i ^ j.toNat)) cs2) : W X (.BinOp a .Pow b pos) ρ cs P := w_op op_powW od_I h
theorem w_neg (h : W X a ρ cs fun d cs1 => ∃ i, d = .int i ∧ P (.int (-i)) cs1) : W X (.UnaryOp .USub a pos) ρ cs P := w_un un_neg h
theorem w_lt (h : W X a ρ cs fun d1 cs1 => W X b ρ cs1 fun d2 cs2 => ∃ i j, d1 = .int i ∧ d2 = .int j ∧ P (.bl (decide (i < j))) cs2) : W X (.Compare a [.Lt] [b] pos) ρ cs P := w_cmp op_lt od_B0 (nomark _) h
theorem w_le (h : W X a ρ cs fun d1 cs1 => W X b ρ cs1 fun d2 cs2 => ∃ i j, d1 = .int i ∧ d2 = .int j ∧ P (.bl (decide (i ≤ j))) cs2) : W X (.Compare a [.LtE] [b] pos) ρ cs P := w_cmp op_le od_B0 (nomark _) h
theorem w_gt (h : W X a ρ cs fun d1 cs1 => W X b ρ cs1 fun d2 cs2 => ∃ i j, d1 = .int i ∧ d2 = .int j ∧ P (.bl (decide (j < i))) cs2) : W X (.Compare a [.Gt] [b] pos) ρ cs P := w_cmp op_gt od_B0 (nomark _) h
theorem w_ge (h : W X a ρ cs fun d1 cs1 => W X b ρ cs1 fun d2 cs2 => ∃ i j, d1 = .int i ∧ d2 = .int j ∧ P (.bl (decide (j ≤ i))) cs2) : W X (.Compare a [.GtE] [b] pos) ρ cs P := w_cmp op_ge od_B0 (nomark _) h
theorem wt_lt (h : W X a ρ cs fun d1 cs1 => W X b ρ cs1 fun d2 cs2 => ∃ i j, d1 = .int i ∧ d2 = .int j ∧ PT' (decide (i < j)) cs2) : WT X (.Compare a [.Lt] [b] pos) ρ cs PT' := wt_cmp op_lt od_B0 (nomark _) (pe_imp h fun σ H Q ⟨as, hs, f, q⟩ => ⟨as, hs, f, fun v H' as' d cs' g c r p => q v H' as' d cs' g c r (pe_imp p fun σ H Q ⟨as, hs, f, q⟩ => ⟨as, hs, f, fun v H' as' d cs' g c r ⟨i, j, e1, e2, p⟩ => q v H' as' d cs' g c r ⟨i, j, e1, e2, _, rfl, p⟩⟩)⟩)
/-- a weaker end -/
theorem W.mono {P P' : PD} (h : W X e ρ cs P') (i : ∀ d cs', P' d cs' → P d cs') : W X e ρ cs P := pe_imp h fun σ H Q ⟨as, hs, f, q⟩ => ⟨as, hs, f, fun v H' as' d cs' g c r p => q v H' as' d cs' g c r (i d cs' p)⟩
theorem WT.mono {P P' : Bool → Cs → Prop} (h : WT X e ρ cs P') (i : ∀ d cs', P' d cs' → P d cs') : WT X e ρ cs P := pt_imp h fun σ H Q ⟨as, hs, f, q⟩ => ⟨as, hs, f, fun v H' as' cs' g c p => q v H' as' cs' g c (i v cs' p)⟩
theorem wt_le (h : W X a ρ cs fun d1 cs1 => W X b ρ cs1 fun d2 cs2 => ∃ i j, d1 = .int i ∧ d2 = .int j ∧ PT' (decide (i ≤ j)) cs2) : WT X (.Compare a [.LtE] [b] pos) ρ cs PT' := wt_cmp op_le od_B0 (nomark _) (h.mono fun _ _ z => W.mono z fun _ _ ⟨i, j, e1, e2, p⟩ => ⟨i, j, e1, e2, _, rfl, p⟩)
theorem wt_gt (h : W X a ρ cs fun d1 cs1 => W X b ρ cs1 fun d2 cs2 => ∃ i j, d1 = .int i ∧ d2 = .int j ∧ PT' (decide (j < i)) cs2) : WT X (.Compare a [.Gt] [b] pos) ρ cs PT' := wt_cmp op_gt od_B0 (nomark _) (h.mono fun _ _ z => W.mono z fun _ _ ⟨i, j, e1, e2, p⟩ => ⟨i, j, e1, e2, _, rfl, p⟩)
theorem wt_ge (h : W X a ρ cs fun d1 cs1 => W X b ρ cs1 fun d2 cs2 => ∃ i j, d1 = .int i ∧ d2 = .int j ∧ PT' (decide (j ≤ i)) cs2) : WT X (.Compare a [.GtE] [b] pos) ρ cs PT' := wt_cmp op_ge od_B0 (nomark _) (h.mono fun _ _ z => W.mono z fun _ _ ⟨i, j, e1, e2, p⟩ => ⟨i, j, e1, e2, _, rfl, p⟩)

/-! ### tests -/
theorem wt_val (h : W X e ρ cs (isB PT')) (he : ∀ whole, isTrue e X.env whole = (do let v ← whole; standAt e.pos; holding [v] (truthy v)) := by intro _; rfl) : WT X e ρ cs PT' :=
  wt_of (pt_val h he) fun as hs σ H Q f q => ⟨as, hs, f, fin_b q⟩
def WW (X : Cx) (e : Expr) (ρ : Ro) (cs : Cs) (P : Bool → Cs → Prop) : Prop := PW X e (tDT ρ cs P)
theorem pw_imp {t t' : TT} (h : PW X e t) (i : ∀ σ H Q, t' σ H Q → t σ H Q) : PW X e t' := ⟨fun wh pins s σ H Q I q => h.run wh pins s σ H Q I (i _ _ _ q)⟩
theorem pw_any {S : Ro → Cs → (Bool → Cs → Prop) → Prop} (h : ∀ ρ cs P, S ρ cs P → WW X e ρ cs P) : PW X e (tAnyT S) :=
  ⟨fun wh pins s σ H Q I ⟨ρ, cs, P, hs, q⟩ => (h ρ cs P hs).run wh pins s σ H Q I q⟩
theorem ww_and1 (h : WT X a ρ cs PT') : WW X (.BoolOp .And [a] pos) ρ cs PT' := pw_and1 h
theorem ww_or1 (h : WT X a ρ cs PT') : WW X (.BoolOp .Or [a] pos) ρ cs PT' := pw_or1 h
theorem ww_and (h : WT X a ρ cs fun k cs1 => if k = true then WW X (.BoolOp .And (b :: rest) pos) ρ cs1 PT' else PT' false cs1) : WW X (.BoolOp .And (a :: b :: rest) pos) ρ cs PT' :=
  pw_imp (pw_and h (pw_any (S := WW X (.BoolOp .And (b :: rest) pos)) fun _ _ _ z => z)) fun σ H Q ⟨as, hs, f, q⟩ => subT f fun k H1 as1 cs1 g1 f1 p1 => by
    cases k with
    | true => exact ⟨ρ, cs1, _, p1, as1, hs, f1, FinT.next q g1⟩
    | false => exact q _ _ _ _ g1 f1.cells p1
theorem ww_or (h : WT X a ρ cs fun k cs1 => if k = true then PT' true cs1 else WW X (.BoolOp .Or (b :: rest) pos) ρ cs1 PT') : WW X (.BoolOp .Or (a :: b :: rest) pos) ρ cs PT' :=
  pw_imp (pw_or h (pw_any (S := WW X (.BoolOp .Or (b :: rest) pos)) fun _ _ _ z => z)) fun σ H Q ⟨as, hs, f, q⟩ => subT f fun k H1 as1 cs1 g1 f1 p1 => by
    cases k with
    | false => exact ⟨ρ, cs1, _, p1, as1, hs, f1, FinT.next q g1⟩
    | true => exact q _ _ _ _ g1 f1.cells p1
theorem wt_bool (h : WW X e ρ cs PT') : WT X e ρ cs PT' := PW.pt h
theorem wt_not (h : WT X a ρ cs fun k cs1 => PT' (!k) cs1) : WT X (.UnaryOp .Not a pos) ρ cs PT' :=
  wt_of (pt_not h) fun as hs σ H Q f q => subT f fun k H1 as1 cs1 g1 f1 p1 => q _ _ _ _ g1 f1.cells p1
theorem w_one {op} (h : W X a ρ cs P) : W X (.BoolOp op [a] pos) ρ cs P := pe_one h
theorem w_and (h : W X a ρ cs fun d cs1 => ∃ k, d = .bl k ∧ if k = true then W X (.BoolOp .And (b :: rest) pos) ρ cs1 P else P (.bl false) cs1) : W X (.BoolOp .And (a :: b :: rest) pos) ρ cs P :=
  w_of (pe_and h (pe_any (S := W X (.BoolOp .And (b :: rest) pos)) fun _ _ _ z => z)) fun as hs σ H Q f q => sub1 f fun v H1 as1 d cs1 g1 f1 r1 p1 => by
    obtain ⟨k, rfl, p1⟩ := p1
    cases r1
    refine ⟨k, rfl, ?_⟩
    cases k with
    | true => exact ⟨ρ, cs1, _, p1, as1, hs, f1, q.next g1⟩
    | false => exact q _ _ _ _ _ g1 f1.cells .bl p1
theorem w_or (h : W X a ρ cs fun d cs1 => ∃ k, d = .bl k ∧ if k = true then P (.bl true) cs1 else W X (.BoolOp .Or (b :: rest) pos) ρ cs1 P) : W X (.BoolOp .Or (a :: b :: rest) pos) ρ cs P :=
  w_of (pe_or h (pe_any (S := W X (.BoolOp .Or (b :: rest) pos)) fun _ _ _ z => z)) fun as hs σ H Q f q => sub1 f fun v H1 as1 d cs1 g1 f1 r1 p1 => by
    obtain ⟨k, rfl, p1⟩ := p1
    cases r1
    refine ⟨k, rfl, ?_⟩
    cases k with
    | false => exact ⟨ρ, cs1, _, p1, as1, hs, f1, q.next g1⟩
    | true => exact q _ _ _ _ _ g1 f1.cells .bl p1
theorem w_not (h : W X a ρ cs fun d cs1 => ∃ k, d = .bl k ∧ P (.bl (!k)) cs1) : W X (.UnaryOp .Not a pos) ρ cs P :=
  w_of (pe_not h) fun as hs σ H Q f q => sub1 f fun v H1 as1 d cs1 g1 f1 r1 p1 => by
    obtain ⟨k, rfl, p1⟩ := p1
    cases r1
    exact ⟨k, rfl, q _ _ _ _ _ g1 f1.cells .bl p1⟩
theorem w_if (h : WT X c ρ cs fun k cs1 => if k = true then W X a ρ cs1 P else W X b ρ cs1 P) : W X (.IfExp c a b pos) ρ cs P :=
  w_of (pe_ifExp h (pe_any (S := W X a) fun _ _ _ z => z) (pe_any (S := W X b) fun _ _ _ z => z)) fun as hs σ H Q f q => subT f fun k H1 as1 cs1 g1 f1 p1 => by
    cases k with
    | true => exact ⟨ρ, cs1, _, p1, as1, hs, f1, q.next g1⟩
    | false => exact ⟨ρ, cs1, _, p1, as1, hs, f1, q.next g1⟩

/-! ### arguments, displays -/
theorem wa_nil (h : PN [] cs) : WA X [] ρ cs PN := wa_of pa_nil fun as hs σ H Q f q => q _ _ _ _ _ (Grow.refl as H) f.cells .nil h
theorem wa_cons (h : W X e ρ cs fun d cs1 => WA X es ρ cs1 fun ds cs2 => PN (d :: ds) cs2) (hs : starEach (e :: es) X.env = (false, eval e X.env) :: starEach es X.env := by rfl) : WA X (e :: es) ρ cs PN :=
  wa_of (pa_cons h (pa_any (S := WA X es) fun _ _ _ z => z) hs) fun as hs σ H Q f q => sub1 f fun v H1 as1 d cs1 g1 f1 r1 p1 =>
    ⟨ρ, cs1, _, p1, subA f1 fun vs H2 as2 ds cs2 g2 f2 r2 p2 => q _ _ _ _ _ (g1.trans g2) f2.cells (.cons (r1.grow g2) r2) p2⟩
theorem sz_of {n : Nat} (hn : n ≤ 100000) : n ≤ sizeLine := Nat.le_trans hn (by decide)
theorem sz_lt {n : Nat} (hn : n < 100000) : n < sizeLine := Nat.lt_of_lt_of_le hn (by decide)
theorem wn_lst (h : WA X es ρ cs fun ds cs1 => ds.length ≤ 100000 ∧ PN ds cs1) : WN X (.List es pos) ρ cs PN :=
  wn_of (pe_lst h) fun as hs σ H Q f q => subA f fun vs H1 as1 ds cs1 g1 f1 r1 ⟨z, p1⟩ => ⟨by rw [← r1.length]; exact sz_of z, fun p n => q p H1 as1 ds vs cs1 g1 f1.cells n r1 p1⟩
theorem w_tup {k} (h : WA X es ρ cs fun ds cs1 => ds.length ≤ 100000 ∧ P (.tup ds) cs1) : W X (.Tuple es k pos) ρ cs P :=
  w_of (pe_tup h) fun as hs σ H Q f q => subA f fun vs H1 as1 ds cs1 g1 f1 r1 ⟨z, p1⟩ => ⟨by rw [← r1.length]; exact sz_of z, fun p n =>
    q _ _ as1 _ cs1 (g1.trans (Grow.laid n)) (f1.cells.laid n) (.tup (f1.cells.fresh n).1 (f1.cells.fresh n).2 upd_same (r1.grow (Grow.laid n))) p1⟩
end
end Rg
set_option Elab.async false
set_option linter.all false
set_option maxRecDepth 100000
namespace Rg
open PySem PySem.Spec
open PyProof.Rows L2

/-! ### what is a list -/
def LstD (cs : Cs) (d : D) (xs : List D) : Prop := d = .lst xs ∨ (∃ k, d = .own k ∧ cs[k]? = some xs) ∨ ∃ ns : List Int, d = .scr ns ∧ xs = ns.map .int
theorem LstD.l {cs xs} : LstD cs (.lst xs) xs := .inl rfl
theorem LstD.o {cs : Cs} {k : Nat} {xs : List D} (h : cs[k]? = some xs) : LstD cs (.own k) xs := .inr (.inl ⟨k, rfl, h⟩)
theorem repL_ints {as hs H} : ∀ ns : List Int, RepL as hs H (ns.map .int) (ns.map V.int)
  | [] => .nil
  | n :: r => .cons .int (repL_ints r)
theorem repL_ints' {as hs H} : ∀ {ns : List Int} {vs : List V}, RepL as hs H (ns.map .int) vs → vs = ns.map V.int
  | [], _, .nil => rfl
  | n :: r, _, .cons .int t => by rw [repL_ints' t]; rfl
theorem repL_bls' {as hs H} : ∀ {ns : List Bool} {vs : List V}, RepL as hs H (ns.map .bl) vs → vs = ns.map V.bl
  | [], _, .nil => rfl
  | n :: r, _, .cons .bl t => by rw [repL_bls' t]; rfl
theorem LstD.rep {as hs H cs d v xs} (h : LstD cs d xs) (c : Cells as hs cs H) (r : Rep as hs H d v) : ∃ a vs, v = .ref a ∧ Rd H a (.lst vs) ∧ RepL as hs H xs vs := by
  rcases h with rfl | ⟨k, rfl, e⟩ | ⟨ns, rfl, rfl⟩
  · cases r with
    | lst n m h l => exact ⟨_, _, rfl, .inl h, l⟩
  · cases r with
    | own ea =>
      obtain ⟨ds, vs, h1, h2, h3⟩ := c.at_ _ _ ea
      rw [e] at h1; cases h1
      exact ⟨_, vs, rfl, .inl h2, h3⟩
  · cases r with
    | scr n m h => exact ⟨_, _, rfl, .inr ⟨_, h⟩, repL_ints ns⟩
/-- .. that is no script -/
def TrkD (cs : Cs) (d : D) (xs : List D) : Prop := d = .lst xs ∨ ∃ k, d = .own k ∧ cs[k]? = some xs
theorem TrkD.l {cs xs} : TrkD cs (.lst xs) xs := .inl rfl
theorem TrkD.o {cs : Cs} {k : Nat} {xs : List D} (h : cs[k]? = some xs) : TrkD cs (.own k) xs := .inr ⟨k, rfl, h⟩
theorem TrkD.rep {as hs H cs d v xs} (h : TrkD cs d xs) (c : Cells as hs cs H) (r : Rep as hs H d v) : ∃ a vs, v = .ref a ∧ H a = some (.lst vs) ∧ RepL as hs H xs vs := by
  rcases h with rfl | ⟨k, rfl, e⟩
  · cases r with
    | lst n m h l => exact ⟨_, _, rfl, h, l⟩
  · cases r with
    | own ea =>
      obtain ⟨ds, vs, h1, h2, h3⟩ := c.at_ _ _ ea
      rw [e] at h1; cases h1
      exact ⟨_, vs, rfl, h2, h3⟩

/-! ### lists by operators -/
def gIx : GD2 := fun d1 d2 cs P => ∃ xs i d, LstD cs d1 xs ∧ d2 = .int i ∧ atI xs i = some d ∧ P d cs
theorem atI_rep {as hs H} {xs : List D} {vs : List V} {i : Int} {d : D} (r : RepL as hs H xs vs) (h : atI xs i = some d) : ∃ v, atI vs i = some v ∧ Rep as hs H d v := by
  unfold atI at h ⊢
  rw [← r.length]
  cases ei : ixN xs.length i with
  | none => rw [ei] at h; cases h
  | some j =>
    rw [ei] at h
    exact r.get (i := j) h
theorem od_ix {K : PySem.W.Frag} : OpD (rIxL K) gIx := by
  rintro as hs H x y d1 d2 cs P Q c r1 r2 ⟨xs, i, d, hl, rfl, ha, p⟩ q
  obtain ⟨a, vs, rfl, hr, rl⟩ := hl.rep c r1
  cases r2
  obtain ⟨v, hv, rv⟩ := atI_rep rl ha
  exact ⟨a, vs, i, v, rfl, rfl, .inl hr, hv, q _ _ _ _ _ (Grow.refl as H) c rv p⟩
def gCat : D → D → Cs → (List D → Cs → Prop) → Prop := fun d1 d2 cs P => ∃ xs ys, TrkD cs d1 xs ∧ TrkD cs d2 ys ∧ xs.length + ys.length ≤ 100000 ∧ P (xs ++ ys) cs
theorem on_cat : OpN rCat gCat := by
  rintro as hs H x y d1 d2 cs P Q c r1 r2 ⟨xs, ys, h1, h2, hz, p⟩ q
  obtain ⟨a, vs, rfl, e1, l1⟩ := h1.rep c r1
  obtain ⟨b, us, rfl, e2, l2⟩ := h2.rep c r2
  exact ⟨a, b, vs, us, rfl, rfl, e1, e2, by rw [← l1.length, ← l2.length]; exact sz_of hz, fun w n => q w H as _ _ cs (Grow.refl as H) c n (l1.append l2) p⟩
def gRep : D → D → Cs → (List D → Cs → Prop) → Prop := fun d1 d2 cs P => ∃ xs k, TrkD cs d1 xs ∧ d2 = .int k ∧ -1000 ≤ k ∧ k ≤ 100000 ∧ xs.length * k.toNat ≤ 100000 ∧ P (List.replicate k.toNat xs).flatten cs
theorem rep_shape (l : Addr) : True := trivial

mutual
inductive ToPy (cs : Cs) : D → PyData → Prop
  | non : ToPy cs .non .none
  | bl {b} : ToPy cs (.bl b) (.bool b)
  | int {i} : ToPy cs (.int i) (.int i)
  | str {s} : ToPy cs (.str s) (.str s)
  | lst {d xs ps} : LstD cs d xs → ToPyL cs xs ps → ToPy cs d (.list ps)
  | tup {xs ps} : ToPyL cs xs ps → ToPy cs (.tup xs) (.tuple ps)
inductive ToPyL (cs : Cs) : List D → List PyData → Prop
  | nil : ToPyL cs [] []
  | cons {x xs p ps} : ToPy cs x p → ToPyL cs xs ps → ToPyL cs (x :: xs) (p :: ps)
end
mutual
theorem ToPy.dp {K : PySem.W.Frag} {as hs H cs} (c : Cells as hs cs H) : ∀ {d p}, ToPy cs d p → ∀ {v}, Rep as hs H d v → Dp K H v p
  | _, _, .non, _, r => by cases r; exact .non
  | _, _, .bl, _, r => by cases r; exact .bl _
  | _, _, .int, _, r => by cases r; exact .int _
  | _, _, .str, _, r => by cases r; exact .str _
  | _, _, .lst h l, _, r => by
    obtain ⟨a, vs, rfl, hr, rl⟩ := h.rep c r
    exact .lst (.inl hr) (ToPyL.dp c l rl)
  | _, _, .tup l, _, r => by
    cases r with
    | tup n m h rl => exact .tup (.inl (.inl h)) (ToPyL.dp c l rl)
theorem ToPyL.dp {K : PySem.W.Frag} {as hs H cs} (c : Cells as hs cs H) : ∀ {d p}, ToPyL cs d p → ∀ {v}, RepL as hs H d v → DpAll K H v p
  | _, _, .nil, _, r => by cases r; exact .nil
  | _, _, .cons h t, _, r => by
    cases r with
    | cons r1 r2 => exact .cons (ToPy.dp c h r1) (ToPyL.dp c t r2)
end
section
variable {X : Cx} {ρ : Ro} {cs : Cs} {e a b c : Expr} {es rest : List Expr} {P : PD} {PN : List D → Cs → Prop} {PT' : Bool → Cs → Prop} {pos : Pos}
theorem w_at (h : W X a ρ cs fun d1 cs1 => W X b ρ cs1 fun d2 cs2 => ∃ xs i d, LstD cs2 d1 xs ∧ d2 = .int i ∧ atI xs i = some d ∧ P d cs2) (hs : PlainIx b := by exact fun _ _ => rfl) : W X (.Subscript a b pos) ρ cs P :=
  w_ix ix_list od_ix h hs
theorem wn_cat (h : W X a ρ cs fun d1 cs1 => W X b ρ cs1 fun d2 cs2 => ∃ xs ys, TrkD cs2 d1 xs ∧ TrkD cs2 d2 ys ∧ xs.length + ys.length ≤ 100000 ∧ PN (xs ++ ys) cs2) : WN X (.BinOp a .Add b pos) ρ cs PN :=
  wn_op op_cat on_cat h

/-! ### == -/
def EqD (cs : Cs) (d1 d2 : D) (k : Bool) : Prop := ∃ p q, ToPy cs d1 p ∧ ToPy cs d2 q ∧ SeqAt.shaped p = true ∧ SeqAt.shaped q = true ∧ PyData.eqv p q = k
def gEq : GD2 := fun d1 d2 cs P => ∃ k, EqD cs d1 d2 k ∧ P (.bl k) cs
def gNe : GD2 := fun d1 d2 cs P => ∃ k, EqD cs d1 d2 k ∧ P (.bl (!k)) cs
theorem od_eq {K : PySem.W.Frag} : OpD (rEqD K) gEq := by
  rintro as hs H x y d1 d2 cs P Q c r1 r2 ⟨k, ⟨p, q, h1, h2, s1, s2, rfl⟩, hp⟩ qq
  exact ⟨p, q, h1.dp c r1, h2.dp c r2, s1, s2, qq _ _ _ _ _ (Grow.refl as H) c .bl hp⟩
theorem od_ne {K : PySem.W.Frag} : OpD (rNeD K) gNe := by
  rintro as hs H x y d1 d2 cs P Q c r1 r2 ⟨k, ⟨p, q, h1, h2, s1, s2, rfl⟩, hp⟩ qq
  exact ⟨p, q, h1.dp c r1, h2.dp c r2, s1, s2, qq _ _ _ _ _ (Grow.refl as H) c .bl hp⟩
theorem w_eq (hu : X.A.units + 64 < cLine) (h : W X a ρ cs fun d1 cs1 => W X b ρ cs1 fun d2 cs2 => ∃ k, EqD cs2 d1 d2 k ∧ P (.bl k) cs2) : W X (.Compare a [.Eq] [b] pos) ρ cs P := w_cmp (op_eqD hu) od_eq (nomark _) h
theorem w_ne (hu : X.A.units + 64 < cLine) (h : W X a ρ cs fun d1 cs1 => W X b ρ cs1 fun d2 cs2 => ∃ k, EqD cs2 d1 d2 k ∧ P (.bl (!k)) cs2) : W X (.Compare a [.NotEq] [b] pos) ρ cs P := w_cmp (op_neD hu) od_ne (nomark _) h
theorem wt_eq (hu : X.A.units + 64 < cLine) (h : W X a ρ cs fun d1 cs1 => W X b ρ cs1 fun d2 cs2 => ∃ k, EqD cs2 d1 d2 k ∧ PT' k cs2) : WT X (.Compare a [.Eq] [b] pos) ρ cs PT' :=
  wt_cmp (op_eqD hu) od_eq (nomark _) (h.mono fun _ _ z => W.mono z fun _ _ ⟨k, e, p⟩ => ⟨k, e, k, rfl, p⟩)
theorem wt_ne (hu : X.A.units + 64 < cLine) (h : W X a ρ cs fun d1 cs1 => W X b ρ cs1 fun d2 cs2 => ∃ k, EqD cs2 d1 d2 k ∧ PT' (!k) cs2) : WT X (.Compare a [.NotEq] [b] pos) ρ cs PT' :=
  wt_cmp (op_neD hu) od_ne (nomark _) (h.mono fun _ _ z => W.mono z fun _ _ ⟨k, e, p⟩ => ⟨k, e, _, rfl, p⟩)
/-- is None, is not None -/
theorem w_isN {j pos'} (h : W X a ρ cs fun d cs1 => ∃ k, (k = true ↔ d = .non) ∧ P (.bl k) cs1) : W X (.Compare a [.Is] [.Constant .none j pos'] pos) ρ cs P :=
  w_of (pe_cmp (pc_isN h)) fun as hs σ H Q f q => sub1 f fun v H1 as1 d cs1 g1 f1 r1 p1 => by
    obtain ⟨k, hk, p1⟩ := p1
    have e : decide (v = V.non) = k := by
      cases r1 <;> cases k <;> simp_all
    show Q (.bl (decide (v = V.non))) H1
    rw [e]
    exact q _ _ _ _ _ g1 f1.cells .bl p1

/-! ### in -/
def flatD : D → Bool
  | .non => true | .bl _ => true | .int _ => true | .str _ => true | _ => false
theorem flat_rep {as hs H d v} (r : Rep as hs H d v) (f : flatD d = true) : flatV v = true := by cases r <;> simp_all [flatD, flatV]
theorem flat_repL {as hs H} : ∀ {xs vs}, RepL as hs H xs vs → xs.all flatD = true → vs.all flatV = true
  | _, _, .nil, _ => rfl
  | _, _, .cons r t, f => by
    rw [List.all_cons, Bool.and_eq_true] at f ⊢
    exact ⟨flat_rep r f.1, flat_repL t f.2⟩
/-- an int in a list of ints -/
theorem inV_ints (i : Int) : ∀ ns : List Int, inV (.int i) (ns.map V.int) = decide (i ∈ ns)
  | [] => rfl
  | n :: r => by
    have ih := inV_ints i r
    unfold inV at ih ⊢
    rw [List.map_cons, List.any_cons, ih]
    show ((n == i) || decide (i ∈ r)) = decide (i ∈ n :: r)
    by_cases e : n = i
    · subst e; simp
    · have : ¬ i = n := fun z => e z.symm
      simp [e, this]
theorem flatV_ints : ∀ ns : List Int, (ns.map V.int).all flatV = true
  | [] => rfl
  | n :: r => by rw [List.map_cons, List.all_cons, flatV_ints r]; rfl
def gInI (neg : Bool) : GD2 := fun d1 d2 cs P => ∃ (i : Int) (ns : List Int), d1 = .int i ∧ LstD cs d2 (ns.map .int) ∧ P (.bl (if neg then !decide (i ∈ ns) else decide (i ∈ ns))) cs
theorem od_inI {K : PySem.W.Frag} {neg : Bool} : OpD (rIn K neg) (gInI neg) := by
  rintro as hs H x y d1 d2 cs P Q c r1 r2 ⟨i, ns, rfl, hl, p⟩ q
  cases r1
  obtain ⟨a, vs, rfl, hr, rl⟩ := hl.rep c r2
  have e := repL_ints' rl
  subst e
  refine ⟨a, ns.map V.int, rfl, .inl (.inl hr), rfl, flatV_ints ns, ?_⟩
  rw [inV_ints]
  exact q _ _ _ _ _ (Grow.refl as H) c .bl p
theorem w_in (hm : behindInMarks .In b = false) (h : W X a ρ cs fun d1 cs1 => W X b ρ cs1 fun d2 cs2 => ∃ (i : Int) (ns : List Int), d1 = .int i ∧ LstD cs2 d2 (ns.map .int) ∧ P (.bl (decide (i ∈ ns))) cs2) : W X (.Compare a [.In] [b] pos) ρ cs P := w_cmp op_in_seq (g := gInI false) od_inI hm h
theorem wt_in (hm : behindInMarks .In b = false) (h : W X a ρ cs fun d1 cs1 => W X b ρ cs1 fun d2 cs2 => ∃ (i : Int) (ns : List Int), d1 = .int i ∧ LstD cs2 d2 (ns.map .int) ∧ PT' (decide (i ∈ ns)) cs2) : WT X (.Compare a [.In] [b] pos) ρ cs PT' :=
  wt_cmp op_in_seq (g := gInI false) od_inI hm (h.mono fun _ _ z => W.mono z fun _ _ ⟨k, n, e, l, p⟩ => ⟨k, n, e, l, _, rfl, p⟩)
theorem wt_nin (hm : behindInMarks .NotIn b = false) (h : W X a ρ cs fun d1 cs1 => W X b ρ cs1 fun d2 cs2 => ∃ (i : Int) (ns : List Int), d1 = .int i ∧ LstD cs2 d2 (ns.map .int) ∧ PT' (!decide (i ∈ ns)) cs2) : WT X (.Compare a [.NotIn] [b] pos) ρ cs PT' :=
  wt_cmp op_notIn_seq (g := gInI true) od_inI hm (h.mono fun _ _ z => W.mono z fun _ _ ⟨k, n, e, l, p⟩ => ⟨k, n, e, l, _, rfl, p⟩)

/-! ### calls of built-ins by name -/
def CD (r : List V → Hp → VK → Prop) (g : List D → Cs → PD → Prop) : Prop := ∀ as hs H vs ds cs P (Q : VK), Cells as hs cs H → RepL as hs H ds vs → g ds cs P → Fin as hs H P Q → r vs H Q
def CN (r : List V → Hp → VK → Prop) (g : List D → Cs → (List D → Cs → Prop) → Prop) : Prop := ∀ as hs H vs ds cs P (Q : VK), Cells as hs cs H → RepL as hs H ds vs → g ds cs P → FinN as hs H P Q → r vs H Q
variable {x : Str} {p : Pos} {id T : String} {r : List V → Hp → VK → Prop}
theorem w_bi {g : List D → Cs → PD → Prop} (hc : CallR X (.builtin id) r) (hd : CD r g) (hm : X.mg x = none) (hv : bootBuiltins x = some (.builtin id)) (h : WA X (e :: es) ρ cs fun ds cs1 => g ds cs1 P) (hg : Gl X x := by rfl) (hn : x ≠ "__name__" := by decide) (hdb : (x == ("__debug__" : Str)) = false := by decide)
    (he : starEach (e :: es) X.env = (false, eval e X.env) :: starEach es X.env := by rfl) (hpl : (backTo pos (starEach es X.env)).any (·.1) = false := by rfl) : W X (.Call (.Name x p) (e :: es) [] pos) ρ cs P :=
  w_of (pe_callB hc hg hm hv h hn hdb he hpl) fun as hs σ H Q f q => subA f fun vs H1 as1 ds cs1 g1 f1 r1 p1 => hd as1 hs H1 vs ds cs1 P Q f1.cells r1 p1 (q.next g1)
theorem wn_bi {g : List D → Cs → (List D → Cs → Prop) → Prop} (hc : CallR X (.builtin id) r) (hd : CN r g) (hm : X.mg x = none) (hv : bootBuiltins x = some (.builtin id)) (h : WA X (e :: es) ρ cs fun ds cs1 => g ds cs1 PN) (hg : Gl X x := by rfl) (hn : x ≠ "__name__" := by decide) (hdb : (x == ("__debug__" : Str)) = false := by decide)
    (he : starEach (e :: es) X.env = (false, eval e X.env) :: starEach es X.env := by rfl) (hpl : (backTo pos (starEach es X.env)).any (·.1) = false := by rfl) : WN X (.Call (.Name x p) (e :: es) [] pos) ρ cs PN :=
  wn_of (pe_callB hc hg hm hv h hn hdb he hpl) fun as hs σ H Q f q => subA f fun vs H1 as1 ds cs1 g1 f1 r1 p1 => hd as1 hs H1 vs ds cs1 PN Q f1.cells r1 p1 (FinN.next q g1)
theorem w_bt {g : List D → Cs → PD → Prop} (hc : CallR X (.type T) r) (hd : CD r g) (hm : X.mg x = none) (hv : bootBuiltins x = some (.type T)) (h : WA X (e :: es) ρ cs fun ds cs1 => g ds cs1 P) (hg : Gl X x := by rfl) (hn : x ≠ "__name__" := by decide) (hdb : (x == ("__debug__" : Str)) = false := by decide)
    (he : starEach (e :: es) X.env = (false, eval e X.env) :: starEach es X.env := by rfl) (hpl : (backTo pos (starEach es X.env)).any (·.1) = false := by rfl) : W X (.Call (.Name x p) (e :: es) [] pos) ρ cs P :=
  w_of (pe_callTy hc hg hm hv h hn hdb he hpl) fun as hs σ H Q f q => subA f fun vs H1 as1 ds cs1 g1 f1 r1 p1 => hd as1 hs H1 vs ds cs1 P Q f1.cells r1 p1 (q.next g1)
theorem wn_bt {g : List D → Cs → (List D → Cs → Prop) → Prop} (hc : CallR X (.type T) r) (hd : CN r g) (hm : X.mg x = none) (hv : bootBuiltins x = some (.type T)) (h : WA X (e :: es) ρ cs fun ds cs1 => g ds cs1 PN) (hg : Gl X x := by rfl) (hn : x ≠ "__name__" := by decide) (hdb : (x == ("__debug__" : Str)) = false := by decide)
    (he : starEach (e :: es) X.env = (false, eval e X.env) :: starEach es X.env := by rfl) (hpl : (backTo pos (starEach es X.env)).any (·.1) = false := by rfl) : WN X (.Call (.Name x p) (e :: es) [] pos) ρ cs PN :=
  wn_of (pe_callTy hc hg hm hv h hn hdb he hpl) fun as hs σ H Q f q => subA f fun vs H1 as1 ds cs1 g1 f1 r1 p1 => hd as1 hs H1 vs ds cs1 PN Q f1.cells r1 p1 (FinN.next q g1)

/-- len of a list -/
theorem w_len (hm : X.mg "len" = none) (h : WA X [e] ρ cs fun ds cs1 => ∃ d xs, ds = [d] ∧ LstD cs1 d xs ∧ P (.int xs.length) cs1) (hg : Gl X "len" := by rfl) (he : starEach [e] X.env = (false, eval e X.env) :: starEach [] X.env := by rfl) : W X (.Call (.Name "len" p) [e] [] pos) ρ cs P := by
  refine w_bi (g := fun ds cs1 P => ∃ d xs, ds = [d] ∧ LstD cs1 d xs ∧ P (.int xs.length) cs1) call_len_seq ?_ hm PySem.boot_len h hg (he := he)
  rintro as hs H vs ds cs P Q c r ⟨d, xs, rfl, hl, hp⟩ q
  cases r with
  | cons r t =>
    cases t
    obtain ⟨a, us, rfl, hr, rl⟩ := hl.rep c r
    refine ⟨a, us, rfl, .inl (.inl hr), ?_⟩
    rw [← rl.length]
    exact q _ _ _ _ _ (Grow.refl as H) c .int hp
/-- abs, max, min of ints -/
theorem w_abs (hm : X.mg "abs" = none) (h : WA X [e] ρ cs fun ds cs1 => ∃ i, ds = [.int i] ∧ P (.int (if i < 0 then -i else i)) cs1) (hg : Gl X "abs" := by rfl) (he : starEach [e] X.env = (false, eval e X.env) :: starEach [] X.env := by rfl) : W X (.Call (.Name "abs" p) [e] [] pos) ρ cs P := by
  refine w_bi (g := fun ds cs1 P => ∃ i, ds = [.int i] ∧ P (.int (if i < 0 then -i else i)) cs1) call_abs ?_ hm (by decide +kernel) h hg (he := he)
  rintro as hs H vs ds cs P Q c r ⟨i, rfl, hp⟩ q
  cases r with
  | cons r t =>
    cases t
    cases r
    exact ⟨i, rfl, q _ _ _ _ _ (Grow.refl as H) c .int hp⟩
theorem w_max2 (hc : X.calm = true) (hm : X.mg "max" = none) (h : WA X [a, b] ρ cs fun ds cs1 => ∃ i j, ds = [.int i, .int j] ∧ P (.int (if j > i then j else i)) cs1) (hg : Gl X "max" := by rfl) (he : starEach [a, b] X.env = (false, eval a X.env) :: starEach [b] X.env := by rfl) (hpl : (backTo pos (starEach [b] X.env)).any (·.1) = false := by rfl) : W X (.Call (.Name "max" p) [a, b] [] pos) ρ cs P := by
  refine w_bi (g := fun ds cs1 P => ∃ i j, ds = [.int i, .int j] ∧ P (.int (if j > i then j else i)) cs1) (call_max2 hc) ?_ hm (by decide +kernel) h hg (he := he) (hpl := hpl)
  rintro as hs H vs ds cs P Q c r ⟨i, j, rfl, hp⟩ q
  cases r with
  | cons r t =>
    cases t with
    | cons r' t =>
      cases t
      cases r; cases r'
      exact ⟨i, j, rfl, q _ _ _ _ _ (Grow.refl as H) c .int hp⟩
theorem w_min2 (hc : X.calm = true) (hm : X.mg "min" = none) (h : WA X [a, b] ρ cs fun ds cs1 => ∃ i j, ds = [.int i, .int j] ∧ P (.int (if j < i then j else i)) cs1) (hg : Gl X "min" := by rfl) (he : starEach [a, b] X.env = (false, eval a X.env) :: starEach [b] X.env := by rfl) (hpl : (backTo pos (starEach [b] X.env)).any (·.1) = false := by rfl) : W X (.Call (.Name "min" p) [a, b] [] pos) ρ cs P := by
  refine w_bi (g := fun ds cs1 P => ∃ i j, ds = [.int i, .int j] ∧ P (.int (if j < i then j else i)) cs1) (call_min2 hc) ?_ hm (by decide +kernel) h hg (he := he) (hpl := hpl)
  rintro as hs H vs ds cs P Q c r ⟨i, j, rfl, hp⟩ q
  cases r with
  | cons r t =>
    cases t with
    | cons r' t =>
      cases t
      cases r; cases r'
      exact ⟨i, j, rfl, q _ _ _ _ _ (Grow.refl as H) c .int hp⟩
/-- list(xs) -/
theorem wn_list (hm : X.mg "list" = none) (h : WA X [e] ρ cs fun ds cs1 => ∃ d xs, ds = [d] ∧ LstD cs1 d xs ∧ PN xs cs1) (hg : Gl X "list" := by rfl) (he : starEach [e] X.env = (false, eval e X.env) :: starEach [] X.env := by rfl) : WN X (.Call (.Name "list" p) [e] [] pos) ρ cs PN := by
  refine wn_bt (g := fun ds cs1 P => ∃ d xs, ds = [d] ∧ LstD cs1 d xs ∧ P xs cs1) call_list_of ?_ hm (by decide +kernel) h hg (he := he)
  rintro as hs H vs ds cs P Q c r ⟨d, xs, rfl, hl, hp⟩ q
  cases r with
  | cons r t =>
    cases t
    obtain ⟨a, us, rfl, hr, rl⟩ := hl.rep c r
    exact ⟨a, us, rfl, .inl (.inl hr), fun l n => q l H as xs us cs (Grow.refl as H) c n rl hp⟩
/-- all, any of a list of bools -/
theorem w_all (hc : X.calm = true) (hm : X.mg "all" = none) (h : WA X [e] ρ cs fun ds cs1 => ∃ d, ∃ bs : List Bool, ds = [d] ∧ LstD cs1 d (bs.map .bl) ∧ P (.bl (bs.all _root_.id)) cs1) (hg : Gl X "all" := by rfl) (he : starEach [e] X.env = (false, eval e X.env) :: starEach [] X.env := by rfl) : W X (.Call (.Name "all" p) [e] [] pos) ρ cs P := by
  refine w_bi (g := fun ds cs1 P => ∃ d, ∃ bs : List Bool, ds = [d] ∧ LstD cs1 d (bs.map .bl) ∧ P (.bl (bs.all _root_.id)) cs1) (cr_all hc) ?_ hm (by decide +kernel) h hg (he := he)
  rintro as hs H vs ds cs P Q c r ⟨d, bs, rfl, hl, hp⟩ q
  cases r with
  | cons r t =>
    cases t
    obtain ⟨a, us, rfl, hr, rl⟩ := hl.rep c r
    have e := repL_bls' rl
    subst e
    exact ⟨a, bs, rfl, .inl hr, q _ _ _ _ _ (Grow.refl as H) c .bl hp⟩
/-- sorted of ints, any number -/
theorem wn_sorted (hm : X.mg "sorted" = none) (h : WA X [e] ρ cs fun ds cs1 => ∃ d, ∃ ns : List Int, ds = [d] ∧ LstD cs1 d (ns.map .int) ∧ ∀ ns' : List Int, ns'.Perm ns → ns'.Pairwise (· ≤ ·) → PN (ns'.map .int) cs1) (hg : Gl X "sorted" := by rfl) (he : starEach [e] X.env = (false, eval e X.env) :: starEach [] X.env := by rfl) : WN X (.Call (.Name "sorted" p) [e] [] pos) ρ cs PN := by
  refine wn_bi (g := fun ds cs1 P => ∃ d, ∃ ns : List Int, ds = [d] ∧ LstD cs1 d (ns.map .int) ∧ ∀ ns' : List Int, ns'.Perm ns → ns'.Pairwise (· ≤ ·) → P (ns'.map .int) cs1) cr_sortedI ?_ hm (by decide +kernel) h hg (he := he)
  rintro as hs H vs ds cs P Q c r ⟨d, ns, rfl, hl, hp⟩ q
  cases r with
  | cons r t =>
    cases t
    obtain ⟨a, us, rfl, hr, rl⟩ := hl.rep c r
    have e := repL_ints' rl
    subst e
    exact ⟨a, ns, rfl, .inl hr, fun ns' p pm srt n => q p H as _ _ cs (Grow.refl as H) c n (repL_ints ns') (hp ns' pm srt)⟩
end
end Rg
set_option Elab.async false
set_option linter.all false
set_option maxRecDepth 100000
/-! defs that run where nothing is being shown (repr's own list of what it is in is empty) -/
namespace Rg
open PySem PySem.Spec
open PyProof.Rows L2
/-- room, and no repr runs around -/
structure Rm (k : Nat) (A : Around) : Prop where
  room : Room k A
  gd : A.guards = some []
theorem Rm.mono {j k : Nat} {A : Around} (r : Rm k A) (h : j ≤ k) : Rm j A := ⟨r.room.mono h, r.gd⟩
theorem Rm.units {k : Nat} {A : Around} (r : Rm k A) : A.units + 64 < cLine := r.room.units
/-- a def's promise where no repr runs -/
structure FnG (P : Program) (w : World) (K : PySem.W.Frag) (mg : Str → Option Value) (base : Heap) (CX : CXT) (k : Nat) (f : Addr) (fd : FuncData) (ps : List Str) (sp : Sp) : Prop where
  len : ∀ vs H Q E, sp vs H
        Q E → vs.length = ps.length
  run : ∀ (A : Around) (outer : List Env) (s : Shared) (H : Hp) (args : Args) (us : List Value) (vs : List V) (Q : VK) (E : XK), Room k A → A.guards = some [] → Env0 P w K mg base A outer s H → BindsTo s fd args (ps.zip us) → Vals vs us → sp vs H Q E →
    codeAny (model P w) A (.call (.ref
          f) args) (CR CX outer P w H s Q E) s
theorem FnG.mono {P : Program} {w : World} {K : PySem.W.Frag} {mg : Str → Option Value} {base : Heap} {CX : CXT} {j k : Nat} {f : Addr} {fd : FuncData} {ps : List Str} {sp : Sp} (F : FnG P w K mg base CX j f fd ps sp) (h : j ≤ k) : FnG P w K mg base CX k f fd ps sp :=
  ⟨F.len, fun A outer s H args us vs Q E hr hg => F.run A outer s H args us vs Q E (hr.mono h) hg⟩
theorem fnG_of {CX : CXT} {P : Program} {w : World} {K : PySem.W.Frag} {mg : Str → Option Value} {base : Heap} {k : Nat} {f : Addr} {name qual : Str} {params : Arguments} {body : List Stmt} {scope : Scope} {dV kV doc pm cdv ct oc : Value} {an od : Option Addr}
    {osl : Array (Option Value)} {N ps : List Str} {sp : Sp} (lkk : K.lookup f = some ⟨oc, od, .func (PySem.W.fnOf name qual params body scope dV kV doc pm an cdv ct), osl⟩) (hCd : PySem.W.codeIn K cdv qual = true) (S : FnScope N ps scope)
    (len : ∀ vs H Q E, sp vs H
          Q E → vs.length = ps.length)
    (hbody : ∀ (A : Around) (outer : List Env) (s : Shared) (H : Hp) (vs : List V) (Q : VK) (E : XK), Rm k (A.deeper (envOfC qual scope s.heap.objs.size f cdv)) → sp vs H Q E →
      ∃ t, PSs (cxOf CX P w K mg base N qual scope f cdv A outer s H E)
            body t ∧ t { nx := fun _ H' => Q .non H', rt := Q } (start N vs) H) :
    FnG P w K mg base CX (k + 1) f (PySem.W.fnOf name qual params body scope dV kV doc pm an cdv ct) ps sp := by
  refine ⟨len, fun A outer s H args us vs Q E hr hgd ee hb r hsp => ?_⟩
  have hLn := len _ _ _ _ hsp
  have kX : K.In s.heap := ee.mod.kin.keeps fun b o e => (ee.bs b o e).1
  have lm : s.heap.NoLimit := ee.mod.nolimit.keeps fun b o e => (ee.bs b o e).1
  have hKi : ∀ y ∈ ps.zip us, scope.names.lookup y.1 = some .local ∨ (scope.names.lookup y.1 = some .cell ∧ ((cellsFrom (s.heap.objs.size + 1) scope.names []).lookup y.1).isSome = true) := fun ⟨n, v⟩ hy => by
    rcases S.par n (List.of_mem_zip
          hy).1 with q | q
    · exact .inl q
    · exact .inr ⟨q,
          PySem.W.cellsFrom_some _ _ _ (.inl q)⟩
  refine codeAny_call_function hr.depth (kX _ _ lkk) rfl S.co S.gen rfl (PySem.W.codeRec_of kX hCd) (hb _ _ _ _ ?_)
  refine wpAny_newFunctionEnv_cells S.kind hKi fun env hEnv s1 x => ?_
  subst hEnv
  refine ⟨lm.keeps x.toInCall.keep, codeAny_func ?_⟩
  obtain ⟨t, hTt, hQq⟩ := hbody A outer s H vs Q E ⟨hr.deeper _, hgd⟩ hsp
  have I : Inv (cxOf CX P w K mg base N qual scope f cdv A outer s H E) [] (start N vs) H s1 := inv_start S hr.hd ee hLn r x
  refine wpAny_mono (hTt.run [] s1 (start N vs) H _ I hQq) (fun fl s' hs => ?_) fun e s' hs => hs
  have finish : ∀ {σ' : L2.St} {H' : Hp} {v : V} {u : Value}, Inv (cxOf CX P w K mg base N qual scope f cdv A outer s H E) [] σ' H' s' → RelV v u → Q v H' → CE outer P w H s Q u s' :=
    fun {σ' H' v u} J rv q => ⟨v, H',
          J.os, J.bare, J.base, J.hok, rv, q⟩
  cases fl with
  | ret u =>
    obtain ⟨v, σ', H',
          J, rv, q⟩ := hs
    exact finish J rv q
  | next =>
    obtain ⟨σ', H', J, q⟩ := hs
    exact finish (v := V.non) (u := Value.none) J rfl q
  | brk =>
    obtain ⟨_, _, _, q⟩ := hs
    exact False.elim q
  | cont =>
    obtain ⟨_, _, _, q⟩ := hs
    exact False.elim q
theorem law_callG {P : Program} {w : World} {K : PySem.W.Frag} {mg mb : Str → Option Value} {CX : CXT} {k : Nat} {fa a : Addr} {fd : FuncData} {x : Str} {sp : Sp} {s1 : Shared} {vs : List Value} {ns : List Int}
    (kX : K.In s1.heap) (hNs : s1.heap.Ns mainGlobals mg) (hb : s1.heap.Ns builtinsNs mb) (hBb : ∀ x : Str, x ≠ "__name__" → mb x = bootBuiltins x) (hLim : s1.heap.NoLimit) (hg : s1.gens = #[])
    (ha : s1.heap.get? a = some { cls := .type "list", data := .seq vs.toArray }) (hi : IntsAre vs ns) (hl : ns.length ≤ sizeLine) (hr : Room k callerA)
    (F : ∀ base : Heap, K.In base → base.Ns mainGlobals mg → FnG P w K mg base CX k fa fd [x] sp) (hbind : ∀ (s : Shared) (u : Value), BindsTo s fd ⟨[u], []⟩ [(x, u)])
    (hsp : ∀ H : Hp, Only H → SqL K H a (ns.map V.int) → sp
          [.ref a] H (fun v _ => v = .bl true) fun _ _ _ => False)
    (hCX : ∀ H e s', CX [] H s1 (fun _ _ _ => False) e s' → False) :
    codeAny (model P w) callerA (.call (.ref fa) ⟨[.ref a], []⟩) (fun r s' => r = .ok (.ret (.bool true)) ∧ OldK s1.heap s'.heap ∧ s'.os = s1.os ∧ AllBare s'.gens) s1 := by
  have rv0 := vals_ints hi
  have lnV := hi.length
  have main1 : ∀ H : Hp, Only H → SqL K H a (ns.map V.int) → HOk P w H s1.heap → (∀ b, H b ≠ none → b = a) → (H a ≠ none → K.lookup a = none) →
      codeAny (model P w) callerA (.call (.ref fa) ⟨[.ref a], []⟩) (fun r s' => r = .ok (.ret (.bool true)) ∧ OldK s1.heap s'.heap ∧ s'.os = s1.os ∧ AllBare s'.gens) s1 := by
    intro H hO hS hk1 hA hK
    have bOf : ∀ {b : Addr} {o : Obj}, s1.heap.get? b = some o → H b = none → (hidT s1.heap H).get? b = some o := fun e n => hidT_get e n
    have nA : ∀ {b : Addr} {o : Obj} {es : Array DictEntry} {ep : Nat}, s1.heap.get? b = some o → o.data = .dict es ep → H b = none := fun {b o es ep} e d => by
      cases q : H b with
      | none => rfl
      | some u =>
        have e' : b = a := hA
              b (by rw [q]; simp)
        subst e'
        rw [ha] at e; cases e
        have d' : Data.seq vs.toArray
              _ = Data.dict es ep := d
        cases d'
    have nK : ∀ {b : Addr} {m : Str → Option Value}, s1.heap.Ns b m → (hidT s1.heap H).Ns b m := fun {b m} ⟨o, es, ep, e, d, r⟩ => ⟨o, es, ep, bOf e (nA e d), d, r⟩
    have kB : K.In (hidT s1.heap H) := fun b o e => bOf (kX b o e) (by
      cases q : H b with
      | none => rfl
      | some u =>
        have e' : b = a := hA
              b (by rw [q]; simp)
        subst e'
        (rw [hK (by rw [q]; simp)] at e); (cases e))
    have mM : Mod K mg (hidT s1.heap H) := ⟨kB, nK hNs, ⟨mb, nK hb, hBb⟩, let ⟨mc, h1, h2⟩ := hLim; ⟨mc, nK h1, h2⟩⟩
    have ee : Env0 P w K mg (hidT s1.heap H) callerA [] s1 H := ⟨rfl, mM, fun b o e => of_hidT e, Nat.le_of_eq (hidT_size _ _), trivial, fun b hb => absurd (show b ∈ ([] : List Addr) from hb) (by simp), hk1, .of_eq hg⟩
    refine codeAny_mono ((F _ kB (nK hNs)).run callerA [] s1 H ⟨[.ref a], []⟩ [.ref a] [.ref a] _ _ hr rfl ee (hbind s1 (.ref a)) (.cons rfl .nil) (hsp H hO hS)) fun r s' h => ?_
    cases r with
    | error e => exact
          (hCX H e s' h).elim
    | ok fl =>
      cases fl with
      | next => exact False.elim h
      | brk => exact False.elim h
      | cont => exact False.elim h
      | ret u =>
        obtain ⟨v, H', os, bare1, un1, hk2, r', q⟩ := h
        have q' : v = .bl true := q
        subst q'
        obtain rfl : u =
              Value.bool true := r'
        refine ⟨rfl, OldK.of_keep fun b o e => ?_, os, bare1⟩
        cases q : H b with
        | none => exact un1.keep b o e q (by intro z; exact absurd (show b ∈ ([] : List Addr) from z) (by simp)) (by simp)
        | some u =>
          rcases hO b with
                z | ⟨ob, xs, z⟩
          · rw [q] at z; cases z
          · have zz2 := un1.frzs b ob _ z
            obtain ⟨ee1, _⟩ := hk1 b _ z
            obtain ⟨ee2, _⟩ := hk2 b _ zz2
            rw [e] at ee1; cases ee1
            exact ee2
  cases hkk : K.lookup a with
  | some o =>
    have e := kX a o hkk
    rw [ha] at e
    cases e
    refine main1 (fun _ => none) (fun _ => .inl rfl) (.inr ⟨_, vs.toArray, _, hkk, rfl, rfl, rfl, by rw [List.size_toArray, lnV]; exact hl, by simpa using rv0⟩) (fun b u z => by have z' : (none : Option HO) = some u := z; cases z') (fun b z => absurd rfl z) fun z => absurd rfl z
  | none =>
    refine main1 (fun b => if b = a then some (.frz { cls := .type "list", data := .seq vs.toArray } (.lst (ns.map V.int))) else none) (fun b => ?_) (.inl (.inr ⟨{ cls := .type "list", data := .seq vs.toArray }, if_pos rfl⟩)) (fun b u z => ?_) (fun b z => ?_) fun _ => hkk
    · by_cases hb : b = a
      · exact .inr ⟨_,
            _, if_pos hb⟩
      · exact .inl (if_neg hb)
    · by_cases hb : b = a
      · have z' := (if_pos
            hb).symm.trans z
        cases z'
        subst hb
        exact ⟨ha, by rw [List.length_map]; exact hl, vs, _, rv0, ha⟩
      · have z' := (if_neg
            hb).symm.trans z
        cases z'
    · by_cases hb : b = a
      · exact hb
      · exact absurd (if_neg hb) z

section
variable {X : Cx} {CX : CXT} {k : Nat} {f : Addr} {fd : FuncData} {ps ks : List Str} {sp : Sp} {E : XK} {x : Str} {p pos : Pos} {e : Expr} {es : List Expr} {kws : List Keyword} {t tk : TA}
variable {g : List Value → List Value → List Value}
variable {gV : List V → List V → List V}
/-- the callee's end -/
theorem after_G {pins : List (Addr × Obj)} {σ : L2.St} {H : Hp} {s s' : Shared} {Q : VK} {r : Result} (hx : Passes CX X E) (I : Inv X pins σ H s) (hq : CR CX X.stack X.prog X.w H s Q E r s') :
    match r with | .error e => X.xe e s' | .ok (.ret u) => EP X pins σ Q u s' | .ok _ => False := by
  cases r with
  | error e => exact (hx pins σ H s e s' I hq)
  | ok fl => cases fl with
    | ret u => exact I.after hq
    | next => exact hq
    | brk => exact hq
    | cont => exact hq
theorem run_fnG {pins : List (Addr × Obj)} {σ : L2.St} {H : Hp} {s : Shared} {Q : VK} {us : List Value} {vs : List V} (F : FnG X.prog X.w X.K X.mg X.base CX k f fd ps sp) (hr : Rm k X.A) (hb : Binds X.K fd ps []) (hx : Passes CX X E)
    (I : Inv X pins σ H s) (rv : Vals vs us) (h : sp vs H Q E) : wpAny (model X.prog X.w) X.A (call (.ref f) us) (EP X pins σ Q) X.xe s := by
  have hl : (us ++ []).length = ps.length := by rw [List.append_nil, ← rv.length]; exact F.len _ _ _ _ h
  have bd := hb s us I.kIn hl
  rw [List.append_nil] at bd
  refine wpAny_call (codeAny_mono (F.run X.A X.stack s H ⟨us, []⟩ us vs Q E hr.room hr.gd I.env0 bd rv h) fun r s' hq => ?_)
  have z := after_G hx I hq
  cases r with
  | error e => exact z
  | ok fl => cases fl <;> exact z
theorem pe_callG (F : FnG X.prog X.w X.K X.mg X.base CX k f fd ps sp) (hr : Rm k X.A) (hg : Gl X x) (hm : X.mg x = some (.ref f)) (hk : PySem.W.keepIn X.K (.ref f) = true) (hb : Binds X.K fd ps []) (hx : Passes CX X E) (ha : PA X (e :: es) t)
    (hdb : (x == ("__debug__" : Str)) = false) (he : starEach (e :: es) X.env = (false, eval e X.env) :: starEach es X.env) (hpl : (backTo pos (starEach es X.env)).any (fun y => y.1) = false) : PE X (.Call (.Name x p) (e :: es) [] pos) fun σ H Q => t σ H fun vs H1 => sp vs H1 Q E := by
  refine ⟨fun pins s σ H Q I h => wpAny_Call_Name_kw (ld_glob I hg hm ?_ hdb)⟩
  exact PySem.W.callWith_K (h₀ := X.base) I.ok.mod.kin hk (thn (ha.run pos pins s σ H _ I h) fun us s1 ⟨vs, H1, I1, r, q⟩ => ⟨I1.kIn, run_fnG F hr hb hx I1 r q⟩) he hpl
theorem run_fnkG {pins : List (Addr × Obj)} {σ : L2.St} {H : Hp} {s : Shared} {Q : VK} {us ws : List Value} {vs zs : List V} (F : FnG X.prog X.w X.K X.mg X.base CX k f fd ps sp) (hr : Rm k X.A) (hb : KBinds X.K fd ps ks g gV) (hx : Passes CX X E)
    (I : Inv X pins σ H s) (rv : Vals vs us) (rz : Vals zs ws) (h : sp (gV vs zs) H Q E) : wpAny (model X.prog X.w) X.A (call (.ref f) us (ks.zip ws)) (EP X pins σ Q) X.xe s := by
  have r2 := hb.rel rv rz
  have hl : (g us ws).length = ps.length := by
    rw [← r2.length]; exact F.len _ _ _ _ h
  refine wpAny_call (codeAny_mono (F.run X.A X.stack s H ⟨us, ks.zip ws⟩ (g us ws) (gV vs zs) Q E hr.room hr.gd I.env0 (hb.to s us ws I.kIn hl) r2 h) fun r s' hq => ?_)
  have z := after_G hx I hq
  cases r with
  | error e => exact z
  | ok fl => cases fl <;> exact z
/-- f(k = v, ..) alone -/
theorem pe_callK0 (F : FnG X.prog X.w X.K X.mg X.base CX k f fd ps sp) (hr : Rm k X.A) (hg : Gl X x) (hm : X.mg x = some (.ref f)) (hk : PySem.W.keepIn X.K (.ref f) = true) (hb : KBinds X.K fd ps ks g gV) (hx : Passes CX X E) (hkw : PK X kws tk) (hall : (backToKw pos (keywordEach kws X.env)).all (·.1.isSome) = true) (hks : (backToKw pos (keywordEach kws X.env)).filterMap (·.1) = ks)
    (hdb : (x == ("__debug__" : Str)) = false) (hpl : ((backTo pos (starEach [] X.env)).any (·.1) || (backToKw pos (keywordEach kws X.env)).any (·.1.isNone)) = false) :
    PE X (.Call (.Name x p) [] kws pos) (tCallK sp gV E tNil tk) := by
  refine ⟨fun pins s σ H Q I h => wpAny_Call_Name_kw (ld_glob I hg hm ?_ hdb)⟩
  refine PySem.W.callWith_KW0 (h₀ := X.base) I.ok.mod.kin hk hall (thn (hkw.run pos pins s σ H _ I h) fun ws s2 ⟨zs, H2, I2, rz, q2⟩ => ⟨I2.kIn, ?_⟩) hpl
  rw [hks]
  exact run_fnkG (us := []) (vs := []) F hr hb hx I2 .nil rz q2
end
end Rg
set_option Elab.async false
set_option linter.all false
set_option maxRecDepth 100000
namespace Rg
open PySem PySem.Spec
open PyProof.Rows L2

/-! ### what a def promises over the data -/
abbrev GD := List D → Cs → PD → Prop
abbrev GN := List D → Cs → (List D → Cs → Prop) → Prop
def spD (g : GD) : Sp := fun vs H Q _ => ∃ as hs ds cs P, Cells as hs cs H ∧ RepL as hs H ds vs ∧ g ds cs P ∧ Fin as hs H P Q
def spN (g : GN) : Sp := fun vs H Q _ => ∃ as hs ds cs P, Cells as hs cs H ∧ RepL as hs H ds vs ∧ g ds cs P ∧ FinN as hs H P Q
structure FnD (P : Program) (w : World) (K : PySem.W.Frag) (mg : Str → Option Value) (base : Heap) (k : Nat) (x : Str) (ps : List Str) (sp : Sp) : Prop where
  ex : ∃ f fd, mg x = some (.ref f) ∧ FnG P w K mg base CX0 k f fd ps sp ∧ PySem.W.keepIn K (.ref f) = true ∧ Binds K fd ps []
theorem FnD.mono {P w K mg base j k x ps sp} (F : FnD P w K mg base j x ps sp) (h : j ≤ k) : FnD P w K mg base k x ps sp := by
  obtain ⟨f, fd, a, b, c, d⟩ := F.ex
  exact ⟨f, fd, a, b.mono h, c, d⟩
/-- .. called with keywords ks, g puts them in order -/
structure FnK (P : Program) (w : World) (K : PySem.W.Frag) (mg : Str → Option Value) (base : Heap) (k : Nat) (x : Str) (ps ks : List Str) (gD : List D → List D → List D) (sp : Sp) : Prop where
  ex : ∃ f fd g gV, mg x = some (.ref f) ∧ FnG P w K mg base CX0 k f fd ps sp ∧ PySem.W.keepIn K (.ref f) = true ∧ KBinds K fd ps ks g gV ∧ ∀ as hs H ds es vs us, RepL as hs H ds vs → RepL as hs H es us → RepL as hs H (gD ds es) (gV vs us)

section
variable {X : Cx} {ρ : Ro} {cs : Cs} {e a b c o : Expr} {es rest : List Expr} {P : PD} {PN : List D → Cs → Prop} {PT' : Bool → Cs → Prop} {pos p apos cpos kpos : Pos} {x : Str} {k : Nat} {ps ks : List Str}
theorem w_call {g : GD} (F : FnD X.prog X.w X.K X.mg X.base k x ps (spD g)) (hr : Rm k X.A) (h : WA X (e :: es) ρ cs fun ds cs1 => g ds cs1 P) (hg : Gl X x := by rfl) (hdb : (x == ("__debug__" : Str)) = false := by decide)
    (he : starEach (e :: es) X.env = (false, eval e X.env) :: starEach es X.env := by rfl) (hpl : (backTo pos (starEach es X.env)).any (·.1) = false := by rfl) : W X (.Call (.Name x p) (e :: es) [] pos) ρ cs P := by
  obtain ⟨f, fd, hm, ok, kp, bd⟩ := F.ex
  exact w_of (pe_callG ok hr hg hm kp bd pass0 h hdb he hpl) fun as hs σ H Q ft q => subA ft fun vs H1 as1 ds cs1 g1 f1 r1 p1 => ⟨as1, hs, ds, cs1, P, f1.cells, r1, p1, q.next g1⟩
theorem wn_call {g : GN} (F : FnD X.prog X.w X.K X.mg X.base k x ps (spN g)) (hr : Rm k X.A) (h : WA X (e :: es) ρ cs fun ds cs1 => g ds cs1 PN) (hg : Gl X x := by rfl) (hdb : (x == ("__debug__" : Str)) = false := by decide)
    (he : starEach (e :: es) X.env = (false, eval e X.env) :: starEach es X.env := by rfl) (hpl : (backTo pos (starEach es X.env)).any (·.1) = false := by rfl) : WN X (.Call (.Name x p) (e :: es) [] pos) ρ cs PN := by
  obtain ⟨f, fd, hm, ok, kp, bd⟩ := F.ex
  exact wn_of (pe_callG ok hr hg hm kp bd pass0 h hdb he hpl) fun as hs σ H Q ft q => subA ft fun vs H1 as1 ds cs1 g1 f1 r1 p1 => ⟨as1, hs, ds, cs1, PN, f1.cells, r1, p1, FinN.next q g1⟩
/-- keywords -/
def WK (X : Cx) (kws : List Keyword) (ρ : Ro) (cs : Cs) (P : List D → Cs → Prop) : Prop := PK X kws (tDA ρ cs P)
theorem pk_imp {kws : List Keyword} {t t' : TA} (h : PK X kws t) (i : ∀ σ H Q, t' σ H Q → t σ H Q) : PK X kws t' := ⟨fun pos pins s σ H Q I q => h.run pos pins s σ H Q I (i _ _ _ q)⟩
theorem pk_any {kws : List Keyword} {S : Ro → Cs → (List D → Cs → Prop) → Prop} (h : ∀ ρ cs P, S ρ cs P → WK X kws ρ cs P) : PK X kws (tAnyA S) :=
  ⟨fun pos pins s σ H Q I ⟨ρ, cs, P, hs, q⟩ => (h ρ cs P hs).run pos pins s σ H Q I q⟩
theorem wk_nil (h : PN [] cs) : WK X [] ρ cs PN := pk_imp pk_nil fun σ H Q ⟨as, hs, f, q⟩ => q _ _ _ _ _ (Grow.refl as H) f.cells .nil h
theorem wk_cons {nm : Option Str} {kws : List Keyword} (h : W X e ρ cs fun d cs1 => WK X kws ρ cs1 fun ds cs2 => PN (d :: ds) cs2) : WK X (⟨nm, e, kpos⟩ :: kws) ρ cs PN :=
  pk_imp (pk_cons h (pk_any (S := WK X kws) fun _ _ _ z => z)) fun σ H Q ⟨as, hs, f, q⟩ => sub1 f fun v H1 as1 d cs1 g1 f1 r1 p1 =>
    ⟨ρ, cs1, _, p1, subA f1 fun vs H2 as2 ds cs2 g2 f2 r2 p2 => q _ _ _ _ _ (g1.trans g2) f2.cells (.cons (r1.grow g2) r2) p2⟩
theorem w_callK {g : GD} {kws : List Keyword} {gD : List D → List D → List D} (F : FnK X.prog X.w X.K X.mg X.base k x ps ks gD (spD g)) (hr : Rm k X.A) (h : WK X kws ρ cs fun ds cs1 => g (gD [] ds) cs1 P) (hg : Gl X x := by rfl)
    (hall : (backToKw pos (keywordEach kws X.env)).all (·.1.isSome) = true := by rfl) (hks : (backToKw pos (keywordEach kws X.env)).filterMap (·.1) = ks := by rfl)
    (hdb : (x == ("__debug__" : Str)) = false := by decide) (hpl : ((backTo pos (starEach [] X.env)).any (·.1) || (backToKw pos (keywordEach kws X.env)).any (·.1.isNone)) = false := by rfl) : W X (.Call (.Name x p) [] kws pos) ρ cs P := by
  obtain ⟨f, fd, gg, gV, hm, ok, kp, bd, rel⟩ := F.ex
  exact w_of (pe_callK0 ok hr hg hm kp bd pass0 h hall hks hdb hpl) fun as hs σ H Q ft q => subA ft fun vs H1 as1 ds cs1 g1 f1 r1 p1 => ⟨as1, hs, _, cs1, P, f1.cells, rel as1 hs H1 [] ds [] vs .nil r1, p1, q.next g1⟩
theorem wn_callK {g : GN} {kws : List Keyword} {gD : List D → List D → List D} (F : FnK X.prog X.w X.K X.mg X.base k x ps ks gD (spN g)) (hr : Rm k X.A) (h : WK X kws ρ cs fun ds cs1 => g (gD [] ds) cs1 PN) (hg : Gl X x := by rfl)
    (hall : (backToKw pos (keywordEach kws X.env)).all (·.1.isSome) = true := by rfl) (hks : (backToKw pos (keywordEach kws X.env)).filterMap (·.1) = ks := by rfl)
    (hdb : (x == ("__debug__" : Str)) = false := by decide) (hpl : ((backTo pos (starEach [] X.env)).any (·.1) || (backToKw pos (keywordEach kws X.env)).any (·.1.isNone)) = false := by rfl) : WN X (.Call (.Name x p) [] kws pos) ρ cs PN := by
  obtain ⟨f, fd, gg, gV, hm, ok, kp, bd, rel⟩ := F.ex
  exact wn_of (pe_callK0 ok hr hg hm kp bd pass0 h hall hks hdb hpl) fun as hs σ H Q ft q => subA ft fun vs H1 as1 ds cs1 g1 f1 r1 p1 => ⟨as1, hs, _, cs1, PN, f1.cells, rel as1 hs H1 [] ds [] vs .nil r1, p1, FinN.next q g1⟩

/-! ### a cell changes -/
theorem Cells.put {as hs cs H} (c : Cells as hs cs H) {k : Nat} {a : Addr} {ys : List D} {us : List V} (ea : as[k]? = some a) (r : RepL as hs H ys us) : Cells as hs (cs.set k ys) (upd H a (.lst us)) := by
  have ha : a ∈ as := List.mem_of_getElem? ea
  have ch : ∀ b, b ∉ as → b ∉ hs → upd H a (.lst us) b = H b := fun b n _ => upd_ne fun e => n (by rw [e]; exact ha)
  refine ⟨c.nd, by simp [c.len], fun j b eb => ?_, fun b hb => ?_⟩
  · obtain ⟨ds, vs, h1, h2, h3⟩ := c.at_ j b eb
    by_cases hj : j = k
    · subst hj
      rw [ea] at eb; cases eb
      refine ⟨ys, us, ?_, upd_same, r.mut ch⟩
      rw [List.getElem?_set_self (List.getElem?_eq_some_iff.mp h1).1]
    · have hab : b ≠ a := fun z => hj (nd_ix c.nd eb (show as[k]? = some b by rw [z]; exact ea))
      exact ⟨ds, vs, by rw [List.getElem?_set_ne (Ne.symm hj)]; exact h1, by rw [upd_ne hab]; exact h2, h3.mut ch⟩
  · obtain ⟨h1, u, h2, ht⟩ := c.hid b hb
    exact ⟨h1, u, by rw [upd_ne (fun e => h1 (by rw [e]; exact ha))]; exact h2, ht⟩
theorem Grow.put {as : List Addr} {H : Hp} {k : Nat} {a : Addr} {o : HO} (ea : as[k]? = some a) : Grow as as H (upd H a o) :=
  ⟨⟨[], by simp⟩, fun a h n => absurd h n, fun b u n h => by rw [upd_ne (fun e => n (by rw [e]; exact List.mem_of_getElem? ea))]; exact h⟩

/-! ### methods of a list that is owned -/
abbrev GM := List D → List D → D → List D → Prop
/-- xs: what it held, ds: the arguments, the answer, what it holds then -/
def MD (r : V → List V → Hp → VK → Prop) (g : List D → List D → Cs → (D → List D → Prop) → Prop) : Prop := ∀ (as hs : List Addr) (H : Hp) (k : Nat) (a : Addr) (ds : List D) (vs : List V) (cs : Cs) (xs : List D) (P : D → List D → Prop) (Q : VK), Cells as hs cs H → as[k]? = some a → cs[k]? = some xs → RepL as hs H ds vs → g xs ds cs P →
  (∀ v us y ys, Rep as hs H y v → RepL as hs H ys us → P y ys → Q v (upd H a (.lst us))) → r (.ref a) vs H Q
theorem w_me {id : String} {name : Str} {r : V → List V → Hp → VK → Prop} {g : List D → List D → Cs → (D → List D → Prop) → Prop} (pa : PlainAttrs "list") (slot : Slot "list" name id) (hty : typeOf (.builtin id) = pure (.type "method_descriptor")) (hm : MtR X id r) (hd : MD r g)
    (h : W X o ρ cs fun d cs1 => ∃ k, d = .own k ∧ WA X (e :: es) ρ cs1 fun ds cs2 => ∃ xs, cs2[k]? = some xs ∧ g xs ds cs2 fun y ys => P y (cs2.set k ys)) (hbase : attributeBase o name X.env (eval o X.env) = eval o X.env := by rfl) (hfew : ((backTo cpos (starEach (e :: es) X.env)).all (fun x => !x.1) && (backToKw cpos (keywordEach [] X.env)).all (fun x => x.1.isSome) && decide ((e :: es).length + ([] : List Keyword).length + (if ([] : List Keyword).isEmpty then 0 else 1) < 30)) = true := by rfl) (hline : (apos.endLine == cpos.line) = true := by rfl) (hs : starEach (e :: es) X.env = (false, eval e X.env) :: starEach es X.env := by rfl) (hplain : (backTo cpos (starEach es X.env)).any (·.1) = false := by rfl) :
    W X (.Call (.Attribute o name apos) (e :: es) [] cpos) ρ cs P := by
  refine w_of (pe_bm pa slot hty hm h (pa_any (S := WA X (e :: es)) fun _ _ _ z => z) hbase hfew hline hs hplain) fun as hs σ H Q f q => sub1 f fun v H1 as1 d cs1 g1 f1 r1 p1 => ?_
  obtain ⟨k, rfl, p1⟩ := p1
  cases r1 with
  | @own a _ ea =>
    obtain ⟨ds0, vs0, _, h0, _⟩ := f1.cells.at_ k a ea
    refine ⟨.inl ⟨rfl, _, .inl (.inl h0)⟩, ρ, cs1, _, p1, subA f1 fun vs H2 as2 ds cs2 g2 f2 r2 ⟨xs, hx, p2⟩ => ?_⟩
    have ea2 : as2[k]? = some a := by
      obtain ⟨m, e⟩ := g2.ext
      rw [e, List.getElem?_append_left (List.getElem?_eq_some_iff.mp ea).1]; exact ea
    exact hd as2 hs H2 k a ds vs cs2 xs _ Q f2.cells ea2 hx r2 p2 fun v us y ys ry rys py => q _ _ as2 y _ ((g1.trans g2).trans (Grow.put ea2)) (f2.cells.put ea2 rys) (ry.mut fun b n _ => upd_ne fun e => n (by rw [e]; exact List.mem_of_getElem? ea2)) py
theorem w_me0 {id : String} {name : Str} {r : V → List V → Hp → VK → Prop} {g : List D → List D → Cs → (D → List D → Prop) → Prop} (pa : PlainAttrs "list") (slot : Slot "list" name id) (hty : typeOf (.builtin id) = pure (.type "method_descriptor")) (hm : MtR X id r) (hd : MD r g)
    (h : W X o ρ cs fun d cs1 => ∃ k xs, d = .own k ∧ cs1[k]? = some xs ∧ g xs [] cs1 fun y ys => P y (cs1.set k ys))
    (hbase : attributeBase o name X.env (eval o X.env) = eval o X.env := by rfl) (hline : (apos.endLine == cpos.line) = true := by rfl) : W X (.Call (.Attribute o name apos) [] [] cpos) ρ cs P := by
  refine w_of (pe_bm0 pa slot hty hm h hbase hline) fun as hs σ H Q f q => sub1 f fun v H1 as1 d cs1 g1 f1 r1 p1 => ?_
  obtain ⟨k, xs, rfl, hx, p1⟩ := p1
  cases r1 with
  | @own a _ ea =>
    obtain ⟨ds0, vs0, _, h0, _⟩ := f1.cells.at_ k a ea
    refine ⟨.inl ⟨rfl, _, .inl (.inl h0)⟩, ?_⟩
    exact hd as1 hs H1 k a [] [] cs1 xs _ Q f1.cells ea hx .nil p1 fun v us y ys ry rys py => q _ _ as1 y _ (g1.trans (Grow.put ea)) (f1.cells.put ea rys) (ry.mut fun b n _ => upd_ne fun e => n (by rw [e]; exact List.mem_of_getElem? ea)) py
theorem cell_of {as hs cs H} {k : Nat} {a : Addr} {xs : List D} (c : Cells as hs cs H) (ea : as[k]? = some a) (hx : cs[k]? = some xs) : ∃ vs, H a = some (.lst vs) ∧ RepL as hs H xs vs := by
  obtain ⟨ds, vs, h1, h2, h3⟩ := c.at_ k a ea
  rw [hx] at h1; cases h1
  exact ⟨vs, h2, h3⟩
theorem w_append (h : W X o ρ cs fun d cs1 => ∃ k, d = .own k ∧ WA X [e] ρ cs1 fun ds cs2 => ∃ xs, cs2[k]? = some xs ∧ ∃ y, ds = [y] ∧ xs.length < 100000 ∧ P .non (cs2.set k (xs ++ [y])))
    (hbase : attributeBase o "append" X.env (eval o X.env) = eval o X.env := by rfl) (hfew : ((backTo cpos (starEach [e] X.env)).all (fun x => !x.1) && (backToKw cpos (keywordEach [] X.env)).all (fun x => x.1.isSome) && decide (([e] : List Expr).length + ([] : List Keyword).length + (if ([] : List Keyword).isEmpty then 0 else 1) < 30)) = true := by rfl)
    (hline : (apos.endLine == cpos.line) = true := by rfl) (hs : starEach [e] X.env = (false, eval e X.env) :: starEach [] X.env := by rfl) :
    W X (.Call (.Attribute o "append" apos) [e] [] cpos) ρ cs P := by
  refine w_me (g := fun xs ds cs2 P => ∃ y, ds = [y] ∧ xs.length < 100000 ∧ P .non (xs ++ [y])) PySem.F.plainAttrs_list PySem.F.slot_list_append PySem.F.type_list_append mt_append ?_ h hbase hfew hline hs
  rintro as hs H k a ds vs cs xs P Q c ea hx r ⟨y, rfl, hz, hp⟩ q
  obtain ⟨us, h1, h2⟩ := cell_of c ea hx
  cases r with
  | cons ry t =>
    cases t
    exact ⟨a, us, _, rfl, rfl, h1, by rw [← h2.length]; exact sz_lt hz, q _ _ .non _ .non (h2.append (.cons ry .nil)) hp⟩
/-- xs.pop(i), 0 ≤ i -/
theorem w_popAt (h : W X o ρ cs fun d cs1 => ∃ k, d = .own k ∧ WA X [e] ρ cs1 fun ds cs2 => ∃ xs, cs2[k]? = some xs ∧ ∃ (i : Nat) (y : D), ds = [.int i] ∧ i < 100000 ∧ xs[i]? = some y ∧ P y (cs2.set k (xs.eraseIdx i)))
    (hbase : attributeBase o "pop" X.env (eval o X.env) = eval o X.env := by rfl) (hfew : ((backTo cpos (starEach [e] X.env)).all (fun x => !x.1) && (backToKw cpos (keywordEach [] X.env)).all (fun x => x.1.isSome) && decide (([e] : List Expr).length + ([] : List Keyword).length + (if ([] : List Keyword).isEmpty then 0 else 1) < 30)) = true := by rfl)
    (hline : (apos.endLine == cpos.line) = true := by rfl) (hs : starEach [e] X.env = (false, eval e X.env) :: starEach [] X.env := by rfl) :
    W X (.Call (.Attribute o "pop" apos) [e] [] cpos) ρ cs P := by
  refine w_me (g := fun xs ds cs2 P => ∃ (i : Nat) (y : D), ds = [.int i] ∧ i < 100000 ∧ xs[i]? = some y ∧ P y (xs.eraseIdx i)) PySem.F.plainAttrs_list PySem.F.slot_list_pop PySem.F.type_list_pop mt_popAt ?_ h hbase hfew hline hs
  rintro as hs H k a ds vs cs xs P Q c ea hx r ⟨i, y, rfl, hz, hy, hp⟩ q
  obtain ⟨us, h1, h2⟩ := cell_of c ea hx
  cases r with
  | cons ry t =>
    cases t
    cases ry
    obtain ⟨v, hv, rv⟩ := h2.get hy
    have hi : i < us.length := (List.getElem?_eq_some_iff.mp hv).1
    exact ⟨a, us, _, i, v, rfl, rfl, h1, by omega, by omega, (atI_get (atI_nat hv)).elim fun j hj => by
      have e := (ixN_seq (n := us.length) (i := (i : Int)) (j := i) (by
        unfold ixN
        rw [if_pos (by omega), if_pos (by omega)]; simp)).1
      exact e, hv, q _ _ _ _ rv (h2.eraseIdx i) hp⟩
/-- xs.pop() -/
theorem w_pop (h : W X o ρ cs fun d cs1 => ∃ k xs, d = .own k ∧ cs1[k]? = some xs ∧ ∃ y, xs[xs.length - 1]? = some y ∧ P y (cs1.set k xs.dropLast))
    (hbase : attributeBase o "pop" X.env (eval o X.env) = eval o X.env := by rfl) (hline : (apos.endLine == cpos.line) = true := by rfl) : W X (.Call (.Attribute o "pop" apos) [] [] cpos) ρ cs P := by
  refine w_me0 (g := fun xs ds cs2 P => ds = [] ∧ ∃ y, xs[xs.length - 1]? = some y ∧ P y xs.dropLast) PySem.F.plainAttrs_list PySem.F.slot_list_pop PySem.F.type_list_pop mt_pop ?_ (h.mono fun _ _ ⟨k, xs, e1, e2, r⟩ => ⟨k, xs, e1, e2, rfl, r⟩) hbase hline
  rintro as hs H k a ds vs cs xs P Q c ea hx r ⟨rfl, y, hy, hp⟩ q
  obtain ⟨us, h1, h2⟩ := cell_of c ea hx
  obtain ⟨v, hv, rv⟩ := h2.get hy
  cases r
  exact ⟨a, us, v, rfl, rfl, h1, by rw [← h2.length]; exact hv, q _ _ _ _ rv h2.dropLast hp⟩
end
end Rg
set_option Elab.async false
set_option linter.all false
set_option maxRecDepth 100000
namespace Rg
open PySem PySem.Spec
open PyProof.Rows L2

/-! ### statements -/
section
variable {X : Cx} {ρ : Ro} {cs : Cs} {e a b c o : Expr} {es rest : List Expr} {P : PD} {PN : List D → Cs → Prop} {PT' : Bool → Cs → Prop} {pos p apos cpos kpos pos' : Pos} {x y : Str} {k B : Nat} {ps ks : List Str} {E : En} {st : Stmt} {sts body els : List Stmt}

theorem Fit.set {as hs ρ cs σ H} (f : Fit as hs ρ cs σ H) {d : D} {v : V} (i : Nat) (r : Rep as hs H d v) : Fit as hs (ρ.set i (some d)) cs (σ.set i (some v)) H :=
  ⟨f.cells, by simp [f.slen], fun j d' e => by
    by_cases hj : j = i
    · subst hj
      have hi : j < ρ.length := by
        have := (List.getElem?_eq_some_iff.mp e).1
        simpa using this
      rw [List.getElem?_set_self hi] at e; cases e
      exact ⟨v, List.getElem?_set_self (by rw [← f.slen]; exact hi), r⟩
    · rw [List.getElem?_set_ne (Ne.symm hj)] at e
      rw [List.getElem?_set_ne (Ne.symm hj)]
      exact f.slot j d' e⟩
/-- the ends of a statement -/
structure FinS (B : Nat) (as hs : List Addr) (H : Hp) (E : En) (DD : Ends) : Prop where
  nx : ∀ σ' H' as' ρ' cs', GrowB B as as' H H' → Fit as' hs ρ' cs' σ' H' → E.nx ρ' cs' → DD.nx σ' H'
  rt : ∀ v H' as' d cs', GrowB B as as' H H' → Cells as' hs cs' H' → Rep as' hs H' d v → E.rt d cs' → DD.rt v H'
  bk : ∀ σ' H' as' ρ' cs', GrowB B as as' H H' → Fit as' hs ρ' cs' σ' H' → E.bk ρ' cs' → DD.bk σ' H'
  ct : ∀ σ' H' as' ρ' cs', GrowB B as as' H H' → Fit as' hs ρ' cs' σ' H' → E.ct ρ' cs' → DD.ct σ' H'
theorem FinS.next {as as1 hs H H1 DD} (q : FinS B as hs H E DD) (g : GrowB B as as1 H H1) (hB : B ≤ as.length) : FinS B as1 hs H1 E DD :=
  ⟨fun σ' H' as' ρ' cs' g' => q.nx σ' H' as' ρ' cs' (g.trans g' hB), fun v H' as' d cs' g' => q.rt v H' as' d cs' (g.trans g' hB), fun σ' H' as' ρ' cs' g' => q.bk σ' H' as' ρ' cs' (g.trans g' hB), fun σ' H' as' ρ' cs' g' => q.ct σ' H' as' ρ' cs' (g.trans g' hB)⟩
theorem tS_mk {as hs σ H DD} (hB : B ≤ cs.length) (f : Fit as hs ρ cs σ H) (q : FinS B as hs H E DD) : tS B E ρ cs DD σ H := ⟨hB, as, hs, f, q.nx, q.rt, q.bk, q.ct⟩
theorem ws_of {t : TS} (h : PS X st t) (i : ∀ as hs σ H DD, B ≤ as.length → Fit as hs ρ cs σ H → FinS B as hs H E DD → t DD σ H) : WS X B st E ρ cs :=
  ps_imp h fun DD σ H ⟨hB, as, hs, f, q1, q2, q3, q4⟩ => i as hs σ H DD (by rw [← f.cells.len]; exact hB) f ⟨q1, q2, q3, q4⟩
theorem wss_of {t : TS} (h : PSs X sts t) (i : ∀ as hs σ H DD, B ≤ as.length → Fit as hs ρ cs σ H → FinS B as hs H E DD → t DD σ H) : WSs X B sts E ρ cs :=
  pss_imp h fun DD σ H ⟨hB, as, hs, f, q1, q2, q3, q4⟩ => i as hs σ H DD (by rw [← f.cells.len]; exact hB) f ⟨q1, q2, q3, q4⟩
theorem le_cs {as hs ρ cs σ H} (f : Fit as hs ρ cs σ H) (h : B ≤ as.length) : B ≤ cs.length := by rw [f.cells.len]; exact h
def tAnyS (B : Nat) (S : En → Ro → Cs → Prop) : TS := fun DD σ H => ∃ E ρ cs, S E ρ cs ∧ tS B E ρ cs DD σ H
theorem pss_any {S : En → Ro → Cs → Prop} (h : ∀ E ρ cs, S E ρ cs → WSs X B sts E ρ cs) : PSs X sts (tAnyS B S) :=
  ⟨fun pins s σ H DD I ⟨E, ρ, cs, hs, q⟩ => (h E ρ cs hs).run pins s σ H DD I q⟩
theorem wss_nil (h : E.nx ρ cs) : WSs X B [] E ρ cs := wss_of pss_nil fun as hs σ H DD hB f q => q.nx σ H as ρ cs (GrowB.refl B as H) f h
theorem wss_cons (h : WS X B st { E with nx := fun ρ' cs' => WSs X B sts E ρ' cs' } ρ cs) : WSs X B (st :: sts) E ρ cs := by
  refine wss_of (pss_cons h (pss_any (B := B) (S := WSs X B sts) fun _ _ _ z => z)) fun as hs σ H DD hB f q => ?_
  exact tS_mk (le_cs f hB) f ⟨fun σ' H' as' ρ' cs' g f' h' => ⟨E, ρ', cs', h', tS_mk (le_cs f' (g.le hB)) f' (q.next g hB)⟩, q.rt, q.bk, q.ct⟩
theorem wss_one (h : WS X B st E ρ cs) : WSs X B [st] E ρ cs := wss_of (pss_one h) fun as hs σ H DD hB f q => tS_mk (le_cs f hB) f q
theorem ws_pass (h : E.nx ρ cs) : WS X B (.Pass pos) E ρ cs := ws_of ps_pass fun as hs σ H DD hB f q => q.nx σ H as ρ cs (GrowB.refl B as H) f h
theorem ws_break (h : E.bk ρ cs) : WS X B (.Break pos) E ρ cs := ws_of ps_break fun as hs σ H DD hB f q => q.bk σ H as ρ cs (GrowB.refl B as H) f h
theorem ws_continue (h : E.ct ρ cs) : WS X B (.Continue pos) E ρ cs := ws_of ps_continue fun as hs σ H DD hB f q => q.ct σ H as ρ cs (GrowB.refl B as H) f h
theorem ws_never (h : False) : WS X B st E ρ cs := h.elim
theorem wss_never (h : False) : WSs X B sts E ρ cs := h.elim
theorem ws_expr (h : W X e ρ cs fun _ cs1 => E.nx ρ cs1) (hs : swapsWith e none pos.line X.env = pure false := by rfl) : WS X B (.Expr e pos) E ρ cs :=
  ws_of (ps_expr h hs) fun as hs σ H DD hB f q => sub1 f fun v H1 as1 d cs1 g1 f1 r1 p1 => q.nx _ _ _ _ _ (g1.B B) f1 p1
theorem ws_ret (h : W X e ρ cs fun d cs1 => E.rt d cs1) : WS X B (.Return (some e) pos) E ρ cs :=
  ws_of (ps_ret h) fun as hs σ H DD hB f q => sub1 f fun v H1 as1 d cs1 g1 f1 r1 p1 => q.rt _ _ _ _ _ (g1.B B) f1.cells r1 p1
theorem ws_retN (h : E.rt .non cs) : WS X B (.Return none pos) E ρ cs :=
  ws_of ps_retN fun as hs σ H DD hB f q => q.rt _ _ _ _ _ (GrowB.refl B as H) f.cells .non h
theorem ws_if (h : WT X c ρ cs fun k cs1 => if k = true then WSs X B body E ρ cs1 else WSs X B els E ρ cs1) : WS X B (.If c body els pos) E ρ cs :=
  ws_of (ps_if h (pss_any (B := B) (S := WSs X B body) fun _ _ _ z => z) (pss_any (B := B) (S := WSs X B els) fun _ _ _ z => z)) fun as hs σ H DD hB f q => subT f fun k H1 as1 cs1 g1 f1 p1 => by
    have g := g1.B B
    cases k with
    | true => exact ⟨E, ρ, cs1, p1, tS_mk (le_cs f1 (g.le hB)) f1 (q.next g hB)⟩
    | false => exact ⟨E, ρ, cs1, p1, tS_mk (le_cs f1 (g.le hB)) f1 (q.next g hB)⟩
/-- name = e -/
theorem ws_set (i : Nat) (h : W X e ρ cs fun d cs1 => E.nx (ρ.set i (some d)) cs1) (hN : X.N.Nodup) (hi : X.N[i]? = some x := by rfl) (hx : Loc X.env.scope x := by first | exact .inl rfl | exact .inr rfl) (hs : swapsWith e (some (.Name x pos')) pos.line X.env = pure false := by rfl)
    (hf : X.fn x = true ∨ X.env.scope.names.lookup x = some .local := by first | exact .inl rfl | exact .inr rfl) : WS X B (.Assign [.Name x pos'] e pos) E ρ cs :=
  ws_of (ps_set hN hi hx h hs hf) fun as hs σ H DD hB f q => sub1 f fun v H1 as1 d cs1 g1 f1 r1 p1 => q.nx _ _ _ _ _ (g1.B B) (f1.set i r1) p1
/-- a, b = e1, e2 -/
theorem ws_par (i j : Nat) {px py pt : Pos} {kt k2 : Nat} {pt2 : Pos} (h : WA X [a, b] ρ cs fun ds cs1 => ∃ d1 d2, ds = [d1, d2] ∧ E.nx ((ρ.set i (some d1)).set j (some d2)) cs1) (hc : X.calm = true) (hN : X.N.Nodup) (hi : X.N[i]? = some x := by rfl) (hj : X.N[j]? = some y := by rfl) (hij : i ≠ j := by decide)
    (hx : X.env.scope.names.lookup x = some .local := by rfl) (hy : X.env.scope.names.lookup y = some .local := by rfl)
    (hw : swappedStores [.Tuple [.Name x px, .Name y py] kt pt] (.Tuple [a, b] k2 pt2) X.env = pure (some [x, y]) := by rfl)
    (hs : swapsWithSole [.Tuple [.Name x px, .Name y py] kt pt] (.Tuple [a, b] k2 pt2) pos.line X.env = pure false := by rfl) : WS X B (.Assign [.Tuple [.Name x px, .Name y py] kt pt] (.Tuple [a, b] k2 pt2) pos) E ρ cs :=
  ws_of (ps_par hc hN hi hj hij hx hy h hw hs) fun as hs σ H DD hB f q => subA f fun vs H1 as1 ds cs1 g1 f1 r1 ⟨d1, d2, e, p1⟩ => by
    subst e
    cases r1 with
    | cons r1 t =>
      cases t with
      | cons r2 t =>
        cases t
        exact ⟨_, _, rfl, q.nx _ _ _ _ _ (g1.B B) ((f1.set i r1).set j r2) p1⟩
/-- o[i] = e, o owned -/
theorem ws_put {ix : Expr} (h : W X e ρ cs fun d cs1 => W X o ρ cs1 fun d2 cs2 => ∃ k, d2 = .own k ∧ W X ix ρ cs2 fun d3 cs3 => ∃ j xs n, d3 = .int j ∧ cs3[k]? = some xs ∧ ixN xs.length j = some n ∧ E.nx ρ (cs3.set k (xs.set n d)))
    (hs : swapsWithSole [.Subscript o ix pos'] e pos.line X.env = pure false := by rfl) (hw : swappedStores [.Subscript o ix pos'] e X.env = pure none := by rfl)
    (h1 : (assignEach [.Subscript o ix pos'] X.env).map (·.2) = [assign (.Subscript o ix pos') X.env] := by rfl)
    (ha : ∀ v, assign (.Subscript o ix pos') X.env v = (do
      let ov ← holding [v] (eval o (X.env))
      let iv ← holding [v, ov] (eval ix X.env)
      standAt pos'
      holding [v, ov, iv] (setItem ov iv (v))
      release [v, ov, iv] []) := by intro _; rfl) : WS X B (.Assign [.Subscript o ix pos'] e pos) E ρ cs := by
  refine ws_of (ps_asg h (pg_sub (pe_any (S := W X o) fun _ _ _ z => z) (pe_any (S := W X ix) fun _ _ _ z => z) set_list ha) hs hw h1) fun as hs σ H DD hB f q => ?_
  refine sub1 f fun v H1 as1 d cs1 g1 f1 r1 p1 => ⟨ρ, cs1, _, p1, sub1 f1 fun v2 H2 as2 d2 cs2 g2 f2 r2 ⟨k, e2, p2⟩ => ⟨ρ, cs2, _, p2, sub1 f2 fun v3 H3 as3 d3 cs3 g3 f3 r3 p3 => ?_⟩⟩
  subst e2
  obtain ⟨j, xs, n, rfl, hx, hn, p3⟩ := p3
  cases r3
  cases r2 with
  | @own a _ ea =>
    have ea3 : as3[k]? = some a := by
      obtain ⟨m, e⟩ := g3.ext
      rw [e, List.getElem?_append_left (List.getElem?_eq_some_iff.mp ea).1]; exact ea
    obtain ⟨us, hu, ru⟩ := cell_of f3.cells ea3 hx
    have rd := (r1.grow g2).grow g3
    have c' := f3.cells.put ea3 (ru.set rd n)
    have gp : Grow as3 as3 H3 (upd H3 a (.lst (us.set n v))) := Grow.put ea3
    refine ⟨a, us, j, n, rfl, rfl, hu, by rw [← ru.length]; exact hn, ?_⟩
    exact q.nx _ _ as3 ρ _ ((((g1.trans g2).trans g3).trans gp).B B) ⟨c', f3.slen, fun i d' e => by
      obtain ⟨v', h', r'⟩ := f3.slot i d' e
      exact ⟨v', h', r'.mut fun b nb _ => upd_ne fun z => nb (by rw [z]; exact List.mem_of_getElem? ea3)⟩⟩ p3

/-! ### loops -/
theorem GrowB.of {as as' : List Addr} {H H' : Hp} (g : Grow as as' H H') : GrowB B as as' H H' := g.B B
theorem ws_while {hp : PassesOwn (model X.prog X.w) X.A X.env X.xe} (I : Nat → Ro → Cs → Prop) (h0 : ∃ m, I m ρ cs) (turn : ∀ m ρ' cs', I m ρ' cs' → WT X c ρ' cs' fun k cs1 => if k = true then
      WSs X cs.length body { nx := fun ρ2 cs2 => ∃ m', m' < m ∧ I m' ρ2 cs2, rt := E.rt, bk := E.nx, ct := fun ρ2 cs2 => ∃ m', m' < m ∧ I m' ρ2 cs2 } ρ' cs1 else E.nx ρ' cs1) : WS X B (.While c body [] pos) E ρ cs := by
  refine ws_of (ps_while hp (pt_any (S := WT X c) fun _ _ _ z => z) (pss_any (B := cs.length) (S := WSs X cs.length body) fun _ _ _ z => z)) fun as hs σ H DD hB f q => ?_
  obtain ⟨m0, i0⟩ := h0
  refine ⟨fun m σ' H' => ∃ as' ρ' cs', Grow as as' H H' ∧ Fit as' hs ρ' cs' σ' H' ∧ I m ρ' cs', ⟨m0, as, ρ, cs, Grow.refl as H, f, i0⟩, fun m σ1 H1 ⟨as1, ρ1, cs1, g1, f1, i1⟩ => ?_⟩
  refine ⟨ρ1, cs1, _, turn m ρ1 cs1 i1, subT f1 fun k H2 as2 cs2 g2 f2 p2 => ?_⟩
  have gg := g1.trans g2
  cases k with
  | true =>
    rw [if_pos rfl] at p2 ⊢
    refine ⟨fun σ' H' => ∃ m', m' < m ∧ ∃ as' ρ' cs', Grow as as' H H' ∧ Fit as' hs ρ' cs' σ' H' ∧ I m' ρ' cs', fun σ' H' z => z, _, ρ1, cs2, p2, ?_⟩
    have hl : cs.length ≤ as2.length := by
      obtain ⟨mm, e⟩ := gg.ext
      rw [f.cells.len, e, List.length_append]; omega
    have ex : ∀ {as' H'}, GrowB cs.length as2 as' H2 H' → Grow as as' H H' := fun {as' H'} g => by
      have t := (gg.B cs.length).trans g (by rw [f.cells.len]; exact Nat.le_refl _)
      rw [f.cells.len] at t
      exact t.grow
    refine tS_mk (le_cs f2 hl) f2 ⟨fun σ' H' as' ρ' cs' g f' ⟨m', hm, i'⟩ => ⟨m', hm, as', ρ', cs', ex g, f', i'⟩, fun v H' as' d cs' g c' r' p' => q.rt v H' as' d cs' ((ex g).B B) c' r' p', fun σ' H' as' ρ' cs' g f' p' => q.nx σ' H' as' ρ' cs' ((ex g).B B) f' p',
      fun σ' H' as' ρ' cs' g f' ⟨m', hm, i'⟩ => ⟨m', hm, as', ρ', cs', ex g, f', i'⟩⟩
  | false =>
    rw [if_neg Bool.false_ne_true] at p2 ⊢
    exact q.nx _ _ as2 ρ1 cs2 (gg.B B) f2 p2
/-- for over a list -/
theorem ws_for {hp : PassesOwn (model X.prog X.w) X.A X.env X.xe} (i : Nat) (hc : X.calm = true) (hN : X.N.Nodup) (h : W X e ρ cs fun d cs1 => ∃ (xs : List D) (I : Nat → Ro → Cs → Prop), I 0 ρ cs1 ∧ (∀ j ρ' cs', I j ρ' cs' → LstD cs' d xs) ∧
      (∀ j x ρ' cs', xs[j]? = some x → I j ρ' cs' → WSs X cs1.length body { nx := I (j + 1), rt := E.rt, bk := E.nx, ct := I (j + 1) } (ρ'.set i (some x)) cs') ∧ (∀ ρ' cs', I xs.length ρ' cs' → E.nx ρ' cs'))
    (hi : X.N[i]? = some x := by rfl) (hx : Loc X.env.scope x := by first | exact .inl rfl | exact .inr rfl) (hf : X.fn x = true ∨ X.env.scope.names.lookup x = some .local := by first | exact .inl rfl | exact .inr rfl)
    (hs : ∀ x, foldedSetIterable e X.env x = pure x := by intro _; rfl) : WS X B (.For (.Name x p) e body [] pos) E ρ cs := by
  refine ws_of (ps_for hp hc (pi_list h) (pg_name hN hi hx hf) (⟨fun pins s σ H DD I ⟨B', z⟩ => (pss_any (B := B') (S := WSs X B' body) fun _ _ _ z => z).run pins s σ H DD I z⟩ : PSs X body fun DD σ H => ∃ B', tAnyS B' (WSs X B' body) DD σ H) hs) fun as hs σ H DD hB f q => ?_
  refine sub1 f fun v H1 as1 d cs1 g1 f1 r1 ⟨xs, I, i0, hl, step, done⟩ => ?_
  obtain ⟨a, vs, ev, hr, rl⟩ := (hl 0 ρ cs1 i0).rep f1.cells r1
  subst ev
  refine ⟨a, rfl, ⟨vs, .inl hr⟩, fun j m σ' H' => m = xs.length - j ∧ j ≤ xs.length ∧ ∃ as' ρ' cs', Grow as1 as' H1 H' ∧ Fit as' hs ρ' cs' σ' H' ∧ I j ρ' cs', ⟨xs.length, by simp, Nat.zero_le _, as1, ρ, cs1, Grow.refl as1 H1, f1, i0⟩, ?_⟩
  rintro j m σ' H' ⟨rfl, hj, as', ρ', cs', g, f', i'⟩
  obtain ⟨a2, vs2, e2, hr2, rl2⟩ := (hl j ρ' cs' i').rep f'.cells (r1.grow g)
  cases e2
  by_cases hlt : j < xs.length
  · have hlv : j < vs2.length := by rw [← rl2.length]; exact hlt
    refine .inr ⟨⟨vs2, vs2[j], .inl hr2, by simp [hlv]⟩, fun σ'' H'' => ∃ as'' ρ'' cs'', Grow as1 as'' H1 H'' ∧ Fit as'' hs ρ'' cs'' σ'' H'' ∧ I (j + 1) ρ'' cs'', fun σ'' H'' z => ⟨xs.length - (j + 1), by omega, rfl, hlt, z⟩, fun y H'' yy => ?_⟩
    obtain ⟨e3, yy⟩ := yy
    subst e3
    obtain ⟨x', hx', rx'⟩ := rl2.get' (yy vs2 (.inl hr2))
    have hle : cs1.length ≤ as'.length := by
      obtain ⟨mm, e⟩ := g.ext
      rw [f1.cells.len, e, List.length_append]; omega
    have ex : ∀ {as'' H3}, GrowB cs1.length as' as'' H'' H3 → Grow as1 as'' H1 H3 := fun {as'' H3} g' => by
      have t := (g.B cs1.length).trans g' (by rw [f1.cells.len]; exact Nat.le_refl _)
      rw [f1.cells.len] at t
      exact t.grow
    refine ⟨cs1.length, _, _, _, step j x' ρ' cs' hx' i', ?_⟩
    have nxt : ∀ σ'' H3 as'' ρ'' cs'', GrowB cs1.length as' as'' H'' H3 → Fit as'' hs ρ'' cs'' σ'' H3 → I (j + 1) ρ'' cs'' → ∃ as' ρ' cs', Grow as1 as' H1 H3 ∧ Fit as' hs ρ' cs' σ'' H3 ∧ I (j + 1) ρ' cs' := fun σ'' H3 as'' ρ'' cs'' g' f'' i'' => ⟨as'', ρ'', cs'', ex g', f'', i''⟩
    exact tS_mk (le_cs (f'.set i rx') hle) (f'.set i rx') ⟨nxt, fun v H3 as'' d' cs'' g' c' r' p' => q.rt v H3 as'' d' cs'' ((g1.trans (ex g')).B B) c' r' p', fun σ'' H3 as'' ρ'' cs'' g' f'' p' => q.nx σ'' H3 as'' ρ'' cs'' ((g1.trans (ex g')).B B) f'' p', nxt⟩
  · have e : j = xs.length := by omega
    subst e
    exact .inl ⟨⟨vs2, .inl hr2, by rw [← rl2.length]; exact Nat.le_refl _⟩, q.nx _ _ as' ρ' cs' ((g1.trans g).B B) f' (done ρ' cs' i')⟩
/-- for over range(n) -/
theorem ws_forR {hp : PassesOwn (model X.prog X.w) X.A X.env X.xe} (i : Nat) (hc : X.calm = true) (hN : X.N.Nodup) (hm : X.mg "range" = none) (h : W X a ρ cs fun d cs1 => ∃ (n : Int) (I : Nat → Ro → Cs → Prop), d = .int n ∧ n ≤ 1000000 ∧ -1000000 ≤ n ∧ I 0 ρ cs1 ∧
      (∀ (j : Nat) ρ' cs', (j : Int) < n → I j ρ' cs' → WSs X cs1.length body { nx := I (j + 1), rt := E.rt, bk := E.nx, ct := I (j + 1) } (ρ'.set i (some (.int j))) cs') ∧ (∀ ρ' cs', I n.toNat ρ' cs' → E.nx ρ' cs'))
    (hi : X.N[i]? = some x := by rfl) (hx : Loc X.env.scope x := by first | exact .inl rfl | exact .inr rfl) (hf : X.fn x = true ∨ X.env.scope.names.lookup x = some .local := by first | exact .inl rfl | exact .inr rfl)
    (hg : Gl X "range" := by rfl) (hse : starEach [a] X.env = [(false, eval a X.env)] := by rfl) (hs2 : starEach [a] X.env = (false, eval a X.env) :: starEach [] X.env := by rfl)
    (hs : ∀ x, foldedSetIterable (.Call (.Name "range" cpos) [a] [] kpos) X.env x = pure x := by intro _; rfl) : WS X B (.For (.Name x p) (.Call (.Name "range" cpos) [a] [] kpos) body [] pos) E ρ cs := by
  refine ws_of (ps_for hp hc (pi_range1 hg hm (pa_cons h pa_nil hs2) hse) (pg_name hN hi hx hf) (⟨fun pins s σ H DD I ⟨B', z⟩ => (pss_any (B := B') (S := WSs X B' body) fun _ _ _ z => z).run pins s σ H DD I z⟩ : PSs X body fun DD σ H => ∃ B', tAnyS B' (WSs X B' body) DD σ H) hs) fun as hs σ H DD hB f q => ?_
  refine sub1 f fun v H1 as1 d cs1 g1 f1 r1 ⟨n, I, ed, hn1, hn2, i0, step, done⟩ => ?_
  subst ed
  cases r1
  refine ⟨n, rfl, by omega, by omega, for_range (lo := 0) (n := n.toNat) (g := gName i) (tb := fun DD σ H => ∃ B', tAnyS B' (WSs X B' body) DD σ H) (fun j σ' H' => ∃ as' ρ' cs', Grow as1 as' H1 H' ∧ Fit as' hs ρ' cs' σ' H' ∧ I j ρ' cs') ⟨as1, ρ, cs1, Grow.refl as1 H1, f1, i0⟩ (fun j σ' H' hj ⟨as', ρ', cs', g, f', i'⟩ => ?_) fun σ' H' ⟨as', ρ', cs', g, f', i'⟩ => q.nx _ _ as' ρ' cs' ((g1.trans g).B B) f' (done ρ' cs' i')⟩
  have hle : cs1.length ≤ as'.length := by
    obtain ⟨mm, e⟩ := g.ext
    rw [f1.cells.len, e, List.length_append]; omega
  have ex : ∀ {as'' H3}, GrowB cs1.length as' as'' H' H3 → Grow as1 as'' H1 H3 := fun {as'' H3} g' => by
    have t := (g.B cs1.length).trans g' (by rw [f1.cells.len]; exact Nat.le_refl _)
    rw [f1.cells.len] at t
    exact t.grow
  have e0 : V.int (0 + (j : Int)) = V.int (j : Int) := by rw [Int.zero_add]
  have fs := f'.set i (v := V.int (0 + (j : Int))) (d := .int j) (by rw [e0]; exact .int)
  refine ⟨cs1.length, _, _, _, step j ρ' cs' (by omega) i', ?_⟩
  have nxt : ∀ σ'' H3 as'' ρ'' cs'', GrowB cs1.length as' as'' H' H3 → Fit as'' hs ρ'' cs'' σ'' H3 → I (j + 1) ρ'' cs'' → ∃ as' ρ' cs', Grow as1 as' H1 H3 ∧ Fit as' hs ρ' cs' σ'' H3 ∧ I (j + 1) ρ' cs' := fun σ'' H3 as'' ρ'' cs'' g' f'' i'' => ⟨as'', ρ'', cs'', ex g', f'', i''⟩
  exact tS_mk (le_cs fs hle) fs ⟨nxt, fun v H3 as'' d' cs'' g' c' r' p' => q.rt v H3 as'' d' cs'' ((g1.trans (ex g')).B B) c' r' p', fun σ'' H3 as'' ρ'' cs'' g' f'' p' => q.nx σ'' H3 as'' ρ'' cs'' ((g1.trans (ex g')).B B) f'' p', nxt⟩
end
end Rg
set_option Elab.async false
set_option linter.all false
set_option maxRecDepth 100000
namespace Rg
open PySem PySem.Spec
open PyProof.Rows L2

/-! ### a heap without one object -/
def hole (H : Hp) (D : Addr) : Hp := fun a => if a = D then none else H a
theorem hole_at {H D} : hole H D D = none := if_pos rfl
theorem hole_ne {H : Hp} {D a : Addr} (h : a ≠ D) : hole H D a = H a := if_neg h
theorem hole_upd {H : Hp} {D : Addr} {o : HO} (h : H D = some o) : upd (hole H D) D o = H := by
  funext a
  by_cases e : a = D
  · rw [e, upd_same, h]
  · rw [upd_ne e, hole_ne e]
mutual
theorem Rep.hole {as hs : List Addr} {H : Hp} {D : Addr} : ∀ {d v}, Rep as (D :: hs) H d v → Rep as hs (hole H D) d v
  | _, _, .non => .non
  | _, _, .bl => .bl
  | _, _, .int => .int
  | _, _, .str => .str
  | _, _, .ty => .ty
  | _, _, .obj => .obj
  | _, _, .lst n m h l => .lst n (fun z => m (List.mem_cons_of_mem _ z)) ((hole_ne fun e => m (by rw [e]; exact List.mem_cons_self)).trans h) (RepL.hole l)
  | _, _, .tup n m h l => .tup n (fun z => m (List.mem_cons_of_mem _ z)) ((hole_ne fun e => m (by rw [e]; exact List.mem_cons_self)).trans h) (RepL.hole l)
  | _, _, .own e => .own e
  | _, _, .set n m h => .set n (fun z => m (List.mem_cons_of_mem _ z)) ((hole_ne fun e => m (by rw [e]; exact List.mem_cons_self)).trans h)
  | _, _, .scr n m h => .scr n (fun z => m (List.mem_cons_of_mem _ z)) ((hole_ne fun e => m (by rw [e]; exact List.mem_cons_self)).trans h)
  | _, _, .exc n m h => .exc n (fun z => m (List.mem_cons_of_mem _ z)) ((hole_ne fun e => m (by rw [e]; exact List.mem_cons_self)).trans h)
  | _, _, .dct n m h e l => .dct n (fun z => m (List.mem_cons_of_mem _ z)) ((hole_ne fun e => m (by rw [e]; exact List.mem_cons_self)).trans h) e (RepL.hole l)
  | _, _, .dcT n m h e l => .dcT n (fun z => m (List.mem_cons_of_mem _ z)) ((hole_ne fun e => m (by rw [e]; exact List.mem_cons_self)).trans h) e (RepL.hole l)
theorem RepL.hole {as hs : List Addr} {H : Hp} {D : Addr} : ∀ {d v}, RepL as (D :: hs) H d v → RepL as hs (hole H D) d v
  | _, _, .nil => .nil
  | _, _, .cons r t => .cons (Rep.hole r) (RepL.hole t)
end
theorem Cells.hole {as hs cs H D} (c : Cells as (D :: hs) cs H) (n : D ∉ hs) : Cells as hs cs (hole H D) := by
  refine ⟨c.nd, c.len, fun k a e => ?_, fun a h => ?_⟩
  · obtain ⟨ds, vs, h1, h2, h3⟩ := c.at_ k a e
    have ne : a ≠ D := fun z => (c.hid D List.mem_cons_self).1 (by rw [← z]; exact List.mem_of_getElem? e)
    exact ⟨ds, vs, h1, (hole_ne ne).trans h2, h3.hole⟩
  · obtain ⟨h1, u, h2, ht⟩ := c.hid a (List.mem_cons_of_mem _ h)
    exact ⟨h1, u, (hole_ne fun z => n (by rw [← z]; exact h)).trans h2, ht⟩
theorem Cells.hide {as hs cs H} (c : Cells as hs cs H) {D : Addr} {o : HO} (n : H D = none) (nt : NoT o := by exact True.intro) : Cells as (D :: hs) cs (upd H D o) := by
  refine ⟨c.nd, c.len, fun k a e => ?_, fun a h => ?_⟩
  · obtain ⟨ds, vs, h1, h2, h3⟩ := c.at_ k a e
    exact ⟨ds, vs, h1, by rw [upd_ne (ne_of_none h2 n)]; exact h2, (h3.hide n).grow (Grow.laid n)⟩
  · rcases List.mem_cons.mp h with e | hh
    · rw [e]; exact ⟨(c.fresh n).1, o, upd_same, nt⟩
    · obtain ⟨h1, u, h2, ht⟩ := c.hid a hh
      exact ⟨h1, u, by rw [upd_ne (ne_of_none h2 n)]; exact h2, ht⟩
/-- the hidden list at D changes -/
theorem Cells.dmut {as hs cs H} (c : Cells as hs cs H) {D : Addr} {o : HO} (h : D ∈ hs) (nt : NoT o := by exact True.intro) : Cells as hs cs (upd H D o) := by
  have nD := (c.hid D h).1
  have ch : ∀ b, b ∉ as → b ∉ hs → upd H D o b = H b := fun b _ m => upd_ne fun e => m (by rw [e]; exact h)
  refine ⟨c.nd, c.len, fun k a e => ?_, fun a ha => ?_⟩
  · obtain ⟨ds, vs, h1, h2, h3⟩ := c.at_ k a e
    exact ⟨ds, vs, h1, by rw [upd_ne fun z => nD (by rw [← z]; exact List.mem_of_getElem? e)]; exact h2, h3.mut ch⟩
  · obtain ⟨h1, u, h2, ht⟩ := c.hid a ha
    by_cases e : a = D
    · rw [e]; exact ⟨nD, o, upd_same, nt⟩
    · exact ⟨h1, u, by rw [upd_ne e]; exact h2, ht⟩
theorem Grow.back {as as' hs cs cs' H H'} (g : Grow as as' H H') (c : Cells as hs cs H) (c' : Cells as' hs cs' H') {p : Addr} (n : H' p = none) : H p = none := by
  cases q : H p with
  | none => rfl
  | some o =>
    exfalso
    by_cases m : p ∈ as
    · have m' : p ∈ as' := by
        obtain ⟨x, e⟩ := g.ext
        rw [e]; exact List.mem_append_left _ m
      obtain ⟨u, z⟩ := c'.there m'
      rw [n] at z; cases z
    · have := g.keep p o m q
      rw [n] at this; cases this

/-! ### comprehensions -/
def wipeD (ρ : Ro) : List Nat → Ro
  | [] => ρ
  | v :: vs => (wipeD ρ vs).set v none
theorem wipeD_length (ρ : Ro) : ∀ vs : List Nat, (wipeD ρ vs).length = ρ.length
  | [] => rfl
  | v :: vs => by unfold wipeD; rw [List.length_set, wipeD_length ρ vs]
theorem slot_wipe {ρ : Ro} {σ : L2.St} (hl : ρ.length = σ.length) {R : D → V → Prop} (h : ∀ (i : Nat) (d : D), ρ[i]? = some (some d) → ∃ v, σ[i]? = some (some v) ∧ R d v) :
    ∀ (vs : List Nat) (i : Nat) (d : D), (wipeD ρ vs)[i]? = some (some d) → ∃ v, (wipe σ vs)[i]? = some (some v) ∧ R d v
  | [], i, d, e => h i d e
  | w :: vs, i, d, e => by
    unfold wipeD at e
    unfold wipe
    by_cases hw : i = w
    · subst hw
      by_cases hi : i < (wipeD ρ vs).length
      · rw [List.getElem?_set_self hi] at e; cases e
      · rw [List.getElem?_eq_none (by simpa using hi)] at e; cases e
    · rw [List.getElem?_set_ne (Ne.symm hw)] at e
      rw [List.getElem?_set_ne (Ne.symm hw)]
      exact slot_wipe hl h vs i d e
theorem Fit.wipe {as hs ρ cs σ H} (f : Fit as hs ρ cs σ H) (vs : List Nat) : Fit as hs (wipeD ρ vs) cs (wipe σ vs) H :=
  ⟨f.cells, by rw [wipeD_length, wipe_length]; exact f.slen, slot_wipe f.slen f.slot vs⟩

section
variable {X : Cx} {ρ : Ro} {cs : Cs} {PN : List D → Cs → Prop} {σ : L2.St}
/-- a comprehension's loop: n items, the j-th one stored as ρi j; what the test and the element ask -/
theorem lc_loop {n : Nat} {J : It} {g : TG} {tt : TT} {te : TE} {vs : List Nat} {as1 hs : List Addr} {cs1 : Cs} {H1 : Hp} {Q : VK} (I : Nat → List D → Cs → Prop) (ρi : Nat → Ro) (f1 : Fit as1 hs ρ cs1 σ H1) (i0 : I 0 [] cs1)
    (src : ∀ D, H1 D = none → ∀ j as' cs' acc H, j ≤ n → Grow as1 as' H1 H → Fit as' (D :: hs) (wipeD ρ vs) cs' (wipe σ vs) H → I j acc cs' → (j = n → J.stop j H) ∧ (j < n → J.go j H ∧ ∀ x H', J.yld j H x H' → ∀ Q' : L2.St → Hp → Prop,
      (∀ σ2 H2, wipe σ2 vs = wipe σ vs → Grow as' as' H H2 → Fit as' (D :: hs) (ρi j) cs' σ2 H2 → Q' σ2 H2) → g x (wipe σ vs) H' Q'))
    (elt : ∀ j acc cs' as' hs' σ2 H2 (Q' : V → Hp → Prop) (Qn : Hp → Prop), j < n → I j acc cs' → Fit as' hs' (ρi j) cs' σ2 H2 →
      (∀ y H3 as3 d cs3, Grow as' as3 H2 H3 → Cells as3 hs' cs3 H3 → Rep as3 hs' H3 d y → I (j + 1) (acc ++ [d]) cs3 → Q' y H3) → (∀ H3 as3 cs3, Grow as' as3 H2 H3 → Cells as3 hs' cs3 H3 → I (j + 1) acc cs3 → Qn H3) →
      tt σ2 H2 fun b H3 => if b = true then te σ2 H3 Q' else Qn H3)
    (small : ∀ j acc cs', I j acc cs' → acc.length < 100000) (fin : FinN as1 hs H1 (fun ds cs' => I n ds cs') Q) :
    ∀ D, H1 D = none → ∃ W : Nat → Nat → Hp → Prop, (∃ m, W 0 m (upd H1 D (.lst []))) ∧ ∀ i m H, W i m H → (J.stop i H ∧ Q (.ref D) H) ∨ (J.go i H ∧ ∃ Nx : Hp → Prop, (∀ H', Nx H' → ∃ m', m' < m ∧ W (i + 1) m' H') ∧ ∀ x H', J.yld i H x H' → g x (wipe σ vs) H' fun σ2 H2 => wipe σ2 vs = wipe σ vs ∧ tt σ2 H2 fun b H3 => if b = true then te σ2 H3 fun y H4 => ∃ acc, H4 D = some (.lst acc) ∧ acc.length < sizeLine ∧ Nx (upd H4 D (.lst (acc ++ [y]))) else Nx H3) := by
  intro D nD
  have fresh := f1.cells.fresh nD
  let S : Nat → Hp → Prop := fun j H => ∃ as' cs' acc us, Grow as1 as' H1 H ∧ Cells as' (D :: hs) cs' H ∧ H D = some (.lst us) ∧ RepL as' (D :: hs) H acc us ∧ I j acc cs'
  refine ⟨fun j m H => m = n - j ∧ j ≤ n ∧ S j H, ⟨n, by simp, Nat.zero_le _, as1, cs1, [], [], Grow.laid nD, f1.cells.hide nD, upd_same, .nil, i0⟩, ?_⟩
  rintro j m H ⟨rfl, hj, as', cs', acc, us, g1, c', hD, ra, ij⟩
  have f' : Fit as' (D :: hs) (wipeD ρ vs) cs' (wipe σ vs) H := by
    refine Fit.wipe ⟨c', f1.slen, fun i d e => ?_⟩ vs
    obtain ⟨v, h, r⟩ := f1.slot i d e
    exact ⟨v, h, (r.hide nD).grow g1⟩
  obtain ⟨s1, s2⟩ := src D nD j as' cs' acc H hj g1 f' ij
  by_cases hlt : j < n
  · obtain ⟨go, s2⟩ := s2 hlt
    refine .inr ⟨go, S (j + 1), fun H' z => ⟨n - (j + 1), by omega, rfl, hlt, z⟩, fun x H' y => s2 x H' y _ fun σ2 H2 ew g2 f2 => ⟨ew, ?_⟩⟩
    have keepD : ∀ {asx asy : List Addr} {Hx Hy : Hp} {csx : Cs} {u : List V}, Cells asx (D :: hs) csx Hx → Grow asx asy Hx Hy → Hx D = some (.lst u) → Hy D = some (.lst u) := fun c g h => g.keep _ _ (c.hid D List.mem_cons_self).1 h
    have hD2 := keepD c' g2 hD
    refine elt j acc cs' as' (D :: hs) σ2 H2 _ _ hlt ij f2 (fun y H3 as3 d cs3 g3 c3 r3 i3 => ?_) (fun H3 as3 cs3 g3 c3 i3 => ?_)
    · have hD3 := keepD f2.cells g3 hD2
      have ra3 := (ra.grow g2).grow g3
      have mutD : ∀ b, b ∉ as3 → b ∉ D :: hs → upd H3 D (.lst (us ++ [y])) b = H3 b := fun b _ m => upd_ne fun e => m (by rw [e]; exact List.mem_cons_self)
      refine ⟨us, hD3, by rw [← ra3.length]; exact sz_lt (small j acc cs' ij), as3, cs3, acc ++ [d], us ++ [y], ?_, c3.dmut List.mem_cons_self, upd_same, (ra3.append (.cons r3 .nil)).mut mutD, i3⟩
      have gg := (g1.trans g2).trans g3
      exact ⟨gg.ext, gg.new, fun a o na ha => by rw [upd_ne (ne_of_none ha nD)]; exact gg.keep a o na ha⟩
    · exact ⟨as3, cs3, acc, us, (g1.trans g2).trans g3, c3, keepD f2.cells g3 hD2, (ra.grow g2).grow g3, i3⟩
  · have e : j = n := by omega
    subst e
    refine .inl ⟨s1 rfl, ?_⟩
    have q := fin D (hole H D) as' acc us cs' ⟨g1.ext, g1.new, fun a o na ha => (hole_ne (ne_of_none ha nD)).trans (g1.keep a o na ha)⟩ (c'.hole fresh.2) hole_at ra.hole ij
    rw [hole_upd hD] at q
    exact q
end

section
variable {X : Cx} {ρ : Ro} {cs : Cs} {elt iter a b : Expr} {PN : List D → Cs → Prop} {E : En} {B : Nat} {pos p py spos cpos kpos : Pos} {x y : Str} {scope : Scope}
/-- for every block that may run -/
abbrev Blk (X : Cx) (scope : Scope) (F : Cx → Prop) : Prop := ∀ (s : Shared) (H : Hp) (C : Addr) (cl : List (Str × Addr)) (fp : List Addr), F (X.blk s H scope (compEnvC scope cl C X.env) fp)
/-- what a comprehension over a list asks; T: the tests -/
def LcL (X : Cx) (elt : Expr) (i : Nat) (scope : Scope) (T : Ro → Cs → (Bool → Cs → Prop) → Prop) (ρ : Ro) (cs1 : Cs) (d : D) (PN : List D → Cs → Prop) : Prop := ∃ (xs : List D) (I : Nat → List D → Cs → Prop), I 0 [] cs1 ∧ (∀ j acc cs', I j acc cs' → LstD cs' d xs ∧ acc.length < 100000) ∧
  (∀ j x acc cs', xs[j]? = some x → I j acc cs' → T ((wipeD ρ [i]).set i (some x)) cs' fun k cs2 => if k = true then Blk X scope fun Y => W Y elt ((wipeD ρ [i]).set i (some x)) cs2 fun y cs3 => I (j + 1) (acc ++ [y]) cs3 else I (j + 1) acc cs2) ∧
  (∀ acc cs', I xs.length acc cs' → PN acc cs')
def tElt (X : Cx) (elt : Expr) (scope : Scope) : TE := tAny fun ρ cs P => Blk X scope fun Y => W Y elt ρ cs P
def TNo : Ro → Cs → (Bool → Cs → Prop) → Prop := fun ρ cs P => P true cs
def TIf (X : Cx) (scope : Scope) (c : Expr) : Ro → Cs → (Bool → Cs → Prop) → Prop := fun ρ cs P => Blk X scope fun Y => WT Y c ρ cs P
/-- the tests' reading -/
def tTst (T : Ro → Cs → (Bool → Cs → Prop) → Prop) : TT := fun σ H Q => ∃ ρ cs P, T ρ cs P ∧ tDT ρ cs P σ H Q
theorem pts_no {Y : Cx} : PTs Y [] (tTst TNo) := ⟨fun pins s σ H Q I ⟨ρ, cs, P, hT, as, hs, f, q⟩ => pts_nil.run pins s σ H Q I (q true H as cs (Grow.refl as H) f.cells hT)⟩
theorem pts_if {c : Expr} (s : Shared) (H : Hp) (C : Addr) (cl : List (Str × Addr)) (fp : List Addr) : PTs (X.blk s H scope (compEnvC scope cl C X.env) fp) [c] (tTst (TIf X scope c)) :=
  pts_one ⟨fun pins s' σ H' Q I ⟨ρ, cs, P, hT, q⟩ => (hT s H C cl fp).run pins s' σ H' Q I q⟩
theorem lcl_reads {i : Nat} {T : Ro → Cs → (Bool → Cs → Prop) → Prop} {t : TE} {as hs : List Addr} {σ : L2.St} {H0 : Hp} {Q : VK} (f : Fit as hs ρ cs σ H0) (q : FinN as hs H0 PN Q) :
    tLc (iList X.K (tD ρ cs fun d cs1 => LcL X elt i scope T ρ cs1 d PN)) (gName i) (tTst T) (tElt X elt scope) [i] σ H0 Q := by
  refine sub1 f fun v H1 as1 d cs1 g1 f1 r1 ⟨xs, I, i0, hl, step, done⟩ => ?_
  obtain ⟨a, vs, ev, hr, rl⟩ := (hl 0 [] cs1 i0).1.rep f1.cells r1
  subst ev
  refine ⟨a, rfl, ⟨vs, .inl hr⟩, lc_loop (n := xs.length) I (fun j => match xs[j]? with | some x => (wipeD ρ [i]).set i (some x) | none => ρ) f1 i0 ?_ ?_ (fun j acc cs' z => (hl j acc cs' z).2) ?_⟩
  · intro D nD j as' cs' acc H hj g f' ij
    obtain ⟨a2, vs2, e2, hr2, rl2⟩ := (hl j acc cs' ij).1.rep f'.cells ((r1.hide nD).grow g)
    cases e2
    refine ⟨fun e => ⟨vs2, .inl hr2, by rw [← rl2.length, e]; exact Nat.le_refl _⟩, fun hlt => ⟨⟨vs2, vs2[j]'(by rw [← rl2.length]; exact hlt), .inl hr2, by simp⟩, fun x H' yy Q' k => ?_⟩⟩
    obtain ⟨e3, yy⟩ := yy
    subst e3
    obtain ⟨x', hx', rx'⟩ := rl2.get' (yy vs2 (.inl hr2))
    refine k _ _ ?_ (Grow.refl as' _) ?_
    · show List.set (List.set (List.set σ i none) i (some x)) i none = List.set σ i none
      rw [List.set_set, List.set_set]
    · rw [hx']; exact f'.set i rx'
  · intro j acc cs' as' hs' σ2 H2 Q' Qn hlt ij f2 k1 k2
    have hx : xs[j]? = some xs[j] := List.getElem?_eq_getElem hlt
    rw [hx] at f2
    refine ⟨_, cs', _, step j _ acc cs' hx ij, as', hs', f2, fun b H3 as3 cs3 g3 c3 p3 => ?_⟩
    cases b with
    | true =>
      rw [if_pos rfl] at p3 ⊢
      exact ⟨_, cs3, _, p3, as3, hs', f2.grow g3 c3, fun y H4 as4 d4 cs4 g4 c4 r4 p4 => k1 y H4 as4 d4 cs4 (g3.trans g4) c4 r4 p4⟩
    | false =>
      rw [if_neg Bool.false_ne_true] at p3 ⊢
      exact k2 H3 as3 cs3 g3 c3 p3
  · intro p H1' as' ds vs cs' g c n r hp
    exact q p H1' as' ds vs cs' (g1.trans g) c n r (done ds cs' hp)
/-- .. over range(n) -/
def LcR (X : Cx) (elt : Expr) (i : Nat) (scope : Scope) (T : Ro → Cs → (Bool → Cs → Prop) → Prop) (ρ : Ro) (cs1 : Cs) (d : D) (PN : List D → Cs → Prop) : Prop := ∃ (n : Int) (I : Nat → List D → Cs → Prop), d = .int n ∧ n ≤ 1000000 ∧ -1000000 ≤ n ∧ I 0 [] cs1 ∧ (∀ j acc cs', I j acc cs' → acc.length < 100000) ∧
  (∀ (j : Nat) acc cs', (j : Int) < n → I j acc cs' → T ((wipeD ρ [i]).set i (some (.int j))) cs' fun k cs2 => if k = true then Blk X scope fun Y => W Y elt ((wipeD ρ [i]).set i (some (.int j))) cs2 fun y cs3 => I (j + 1) (acc ++ [y]) cs3 else I (j + 1) acc cs2) ∧
  (∀ acc cs', I n.toNat acc cs' → PN acc cs')
theorem lcr_reads {i : Nat} {T : Ro → Cs → (Bool → Cs → Prop) → Prop} {as hs : List Addr} {σ : L2.St} {H0 : Hp} {Q : VK} (f : Fit as hs ρ cs σ H0) (q : FinN as hs H0 PN Q) :
    tLc (iRng1 (tCons (tD ρ cs fun d cs1 => LcR X elt i scope T ρ cs1 d PN) tNil)) (gName i) (tTst T) (tElt X elt scope) [i] σ H0 Q := by
  refine sub1 f fun v H1 as1 d cs1 g1 f1 r1 ⟨n, I, ed, hn1, hn2, i0, hl, step, done⟩ => ?_
  subst ed
  cases r1
  refine ⟨n, rfl, by omega, by omega, lc_loop (n := n.toNat) I (fun j => (wipeD ρ [i]).set i (some (.int j))) f1 i0 ?_ ?_ hl ?_⟩
  · intro D nD j as' cs' acc H hj g f' ij
    refine ⟨fun e => by show n.toNat ≤ j; omega, fun hlt => ⟨hlt, fun x H' yy Q' k => ?_⟩⟩
    obtain ⟨e3, ex⟩ := yy
    subst e3 ex
    refine k _ _ ?_ (Grow.refl as' _) ?_
    · show List.set (List.set (List.set σ i none) i (some _)) i none = List.set σ i none
      rw [List.set_set, List.set_set]
    · exact f'.set i (by rw [Int.zero_add]; exact .int)
  · intro j acc cs' as' hs' σ2 H2 Q' Qn hlt ij f2 k1 k2
    refine ⟨_, cs', _, step j acc cs' (by omega) ij, as', hs', f2, fun b H3 as3 cs3 g3 c3 p3 => ?_⟩
    cases b with
    | true =>
      rw [if_pos rfl] at p3 ⊢
      exact ⟨_, cs3, _, p3, as3, hs', f2.grow g3 c3, fun y H4 as4 d4 cs4 g4 c4 r4 p4 => k1 y H4 as4 d4 cs4 (g3.trans g4) c4 r4 p4⟩
    | false =>
      rw [if_neg Bool.false_ne_true] at p3 ⊢
      exact k2 H3 as3 cs3 g3 c3 p3
  · intro p H1' as' ds vs cs' g c n r hp
    exact q p H1' as' ds vs cs' (g1.trans g) c n r (done ds cs' hp)
theorem pe_elt (s : Shared) (H : Hp) (C : Addr) (cl : List (Str × Addr)) (fp : List Addr) : PE (X.blk s H scope (compEnvC scope cl C X.env) fp) elt (tElt X elt scope) :=
  ⟨fun pins s' σ H' Q I ⟨ρ, cs, P, hT, q⟩ => (hT s H C cl fp).run pins s' σ H' Q I q⟩
abbrev PgB (X : Cx) (scope : Scope) (x : Str) (p : Pos) (i : Nat) : Prop := ∀ (s : Shared) (H : Hp) (C : Addr) (cl : List (Str × Addr)) (fp : List Addr), PG (X.blk s H scope (compEnvC scope cl C X.env) fp) (.Name x p) (gName i)
/-- [elt for x in xs] -/
theorem wn_lc (i : Nat) (hc : X.calm = true) (hN : X.N.Nodup) (ok : BlkOk X.N X.env.scope scope [(x, i)]) (hg : PgB X scope x p i) (h : W X iter ρ cs fun d cs1 => LcL X elt i scope TNo ρ cs1 d PN)
    (hs : ∀ x, foldedSetIterable iter X.env x = pure x := by intro _; rfl) : WN X (.ListComp elt [⟨.Name x p, iter, [], 0⟩] scope pos) ρ cs PN :=
  wn_of (pe_lc hc hN (pi_list h) ok hg (fun s H C cl fp => pts_no) pe_elt hs) fun as hs σ H Q f q => lcl_reads (t := tC .non) f q
theorem wn_lcI {c : Expr} (i : Nat) (hc : X.calm = true) (hN : X.N.Nodup) (ok : BlkOk X.N X.env.scope scope [(x, i)]) (hg : PgB X scope x p i) (h : W X iter ρ cs fun d cs1 => LcL X elt i scope (TIf X scope c) ρ cs1 d PN)
    (hs : ∀ x, foldedSetIterable iter X.env x = pure x := by intro _; rfl) : WN X (.ListComp elt [⟨.Name x p, iter, [c], 0⟩] scope pos) ρ cs PN :=
  wn_of (pe_lc hc hN (pi_list h) ok hg pts_if pe_elt hs) fun as hs σ H Q f q => lcl_reads (t := tC .non) f q
theorem wn_lr (i : Nat) (hc : X.calm = true) (hN : X.N.Nodup) (hm : X.mg "range" = none) (ok : BlkOk X.N X.env.scope scope [(x, i)]) (hg : PgB X scope x p i) (h : W X a ρ cs fun d cs1 => LcR X elt i scope TNo ρ cs1 d PN)
    (hgl : Gl X "range" := by rfl) (hse : starEach [a] X.env = [(false, eval a X.env)] := by rfl) (hs2 : starEach [a] X.env = (false, eval a X.env) :: starEach [] X.env := by rfl)
    (hs : ∀ x, foldedSetIterable (.Call (.Name "range" cpos) [a] [] kpos) X.env x = pure x := by intro _; rfl) : WN X (.ListComp elt [⟨.Name x p, .Call (.Name "range" cpos) [a] [] kpos, [], 0⟩] scope pos) ρ cs PN :=
  wn_of (pe_lc hc hN (pi_range1 hgl hm (pa_cons h pa_nil hs2) hse) ok hg (fun s H C cl fp => pts_no) pe_elt hs) fun as hs σ H Q f q => lcr_reads f q
theorem wn_lrI {c : Expr} (i : Nat) (hc : X.calm = true) (hN : X.N.Nodup) (hm : X.mg "range" = none) (ok : BlkOk X.N X.env.scope scope [(x, i)]) (hg : PgB X scope x p i) (h : W X a ρ cs fun d cs1 => LcR X elt i scope (TIf X scope c) ρ cs1 d PN)
    (hgl : Gl X "range" := by rfl) (hse : starEach [a] X.env = [(false, eval a X.env)] := by rfl) (hs2 : starEach [a] X.env = (false, eval a X.env) :: starEach [] X.env := by rfl)
    (hs : ∀ x, foldedSetIterable (.Call (.Name "range" cpos) [a] [] kpos) X.env x = pure x := by intro _; rfl) : WN X (.ListComp elt [⟨.Name x p, .Call (.Name "range" cpos) [a] [] kpos, [c], 0⟩] scope pos) ρ cs PN :=
  wn_of (pe_lc hc hN (pi_range1 hgl hm (pa_cons h pa_nil hs2) hse) ok hg pts_if pe_elt hs) fun as hs σ H Q f q => lcr_reads f q

/-! ### name = [..], the list kept as a value or as a cell -/
theorem setN {t : TE} {i : Nat} {as hs : List Addr} {σ : L2.St} {H : Hp} {DD : Ends} (hB : B ≤ as.length) (f : Fit as hs ρ cs σ H) (q : FinS B as hs H E DD) (cell : Bool)
    (h : ∀ Q, FinN as hs H (fun ds cs' => if cell = true then E.nx (ρ.set i (some (.own cs'.length))) (cs' ++ [ds]) else E.nx (ρ.set i (some (.lst ds))) cs') Q → t σ H Q) : tAsg t (gName i) DD σ H := by
  refine h _ fun p H1 as' ds vs cs' g c n r hp => ?_
  have np := c.fresh n
  cases cell with
  | false =>
    rw [if_neg Bool.false_ne_true] at hp
    have g' := g.trans (Grow.laid (o := .lst vs) n)
    exact q.nx _ _ as' _ cs' (g'.B B) ((f.grow g' (c.laid n)).set i (.lst np.1 np.2 upd_same (r.grow (Grow.laid n)))) hp
  | true =>
    rw [if_pos rfl] at hp
    have g' := g.trans (Grow.cell (o := .lst vs) n)
    exact q.nx _ _ (as' ++ [p]) _ _ (g'.B B) ((f.grow g' (c.cell n r)).set i (.own (by rw [List.getElem?_append_right (by rw [c.len]; omega), c.len]; simp))) hp
abbrev asN (E : En) (ρ : Ro) (i : Nat) (cell : Bool) : List D → Cs → Prop := fun ds cs' => if cell = true then E.nx (ρ.set i (some (.own cs'.length))) (cs' ++ [ds]) else E.nx (ρ.set i (some (.lst ds))) cs'
theorem ws_lc (cell : Bool) (iy : Nat) (i : Nat) (hc : X.calm = true) (hN : X.N.Nodup) (hsw : swapsWith (.ListComp elt [⟨.Name x p, iter, [], 0⟩] scope pos) (some (.Name y py)) spos.line X.env = pure true) (ok : BlkOk X.N X.env.scope scope [(x, i)]) (hg : PgB X scope x p i)
    (h : W X iter ρ cs fun d cs1 => LcL X elt i scope TNo ρ cs1 d (asN E ρ iy cell)) (hy : X.N[iy]? = some y := by rfl) (hyl : X.env.scope.names.lookup y = some .local := by rfl)
    (hs : ∀ x, foldedSetIterable iter X.env x = pure x := by intro _; rfl) : WS X B (.Assign [.Name y py] (.ListComp elt [⟨.Name x p, iter, [], 0⟩] scope pos) spos) E ρ cs :=
  ws_of (ps_setLc hc hN hy hyl hsw (pi_list h) ok hg (fun s H C cl fp => pts_no) pe_elt hs) fun as hs σ H DD hB f q => setN hB f q cell fun Q k => lcl_reads (t := tC .non) f k
theorem ws_lcI {c : Expr} (cell : Bool) (iy : Nat) (i : Nat) (hc : X.calm = true) (hN : X.N.Nodup) (hsw : swapsWith (.ListComp elt [⟨.Name x p, iter, [c], 0⟩] scope pos) (some (.Name y py)) spos.line X.env = pure true) (ok : BlkOk X.N X.env.scope scope [(x, i)]) (hg : PgB X scope x p i)
    (h : W X iter ρ cs fun d cs1 => LcL X elt i scope (TIf X scope c) ρ cs1 d (asN E ρ iy cell)) (hy : X.N[iy]? = some y := by rfl) (hyl : X.env.scope.names.lookup y = some .local := by rfl)
    (hs : ∀ x, foldedSetIterable iter X.env x = pure x := by intro _; rfl) : WS X B (.Assign [.Name y py] (.ListComp elt [⟨.Name x p, iter, [c], 0⟩] scope pos) spos) E ρ cs :=
  ws_of (ps_setLc hc hN hy hyl hsw (pi_list h) ok hg pts_if pe_elt hs) fun as hs σ H DD hB f q => setN hB f q cell fun Q k => lcl_reads (t := tC .non) f k
theorem ws_lr (cell : Bool) (iy : Nat) (i : Nat) (hc : X.calm = true) (hN : X.N.Nodup) (hm : X.mg "range" = none) (hsw : swapsWith (.ListComp elt [⟨.Name x p, .Call (.Name "range" cpos) [a] [] kpos, [], 0⟩] scope pos) (some (.Name y py)) spos.line X.env = pure true) (ok : BlkOk X.N X.env.scope scope [(x, i)]) (hg : PgB X scope x p i)
    (h : W X a ρ cs fun d cs1 => LcR X elt i scope TNo ρ cs1 d (asN E ρ iy cell)) (hy : X.N[iy]? = some y := by rfl) (hyl : X.env.scope.names.lookup y = some .local := by rfl)
    (hgl : Gl X "range" := by rfl) (hse : starEach [a] X.env = [(false, eval a X.env)] := by rfl) (hs2 : starEach [a] X.env = (false, eval a X.env) :: starEach [] X.env := by rfl)
    (hs : ∀ x, foldedSetIterable (.Call (.Name "range" cpos) [a] [] kpos) X.env x = pure x := by intro _; rfl) : WS X B (.Assign [.Name y py] (.ListComp elt [⟨.Name x p, .Call (.Name "range" cpos) [a] [] kpos, [], 0⟩] scope pos) spos) E ρ cs :=
  ws_of (ps_setLc hc hN hy hyl hsw (pi_range1 hgl hm (pa_cons h pa_nil hs2) hse) ok hg (fun s H C cl fp => pts_no) pe_elt hs) fun as hs σ H DD hB f q => setN hB f q cell fun Q k => lcr_reads f k
theorem ws_lrI {c : Expr} (cell : Bool) (iy : Nat) (i : Nat) (hc : X.calm = true) (hN : X.N.Nodup) (hm : X.mg "range" = none) (hsw : swapsWith (.ListComp elt [⟨.Name x p, .Call (.Name "range" cpos) [a] [] kpos, [c], 0⟩] scope pos) (some (.Name y py)) spos.line X.env = pure true) (ok : BlkOk X.N X.env.scope scope [(x, i)]) (hg : PgB X scope x p i)
    (h : W X a ρ cs fun d cs1 => LcR X elt i scope (TIf X scope c) ρ cs1 d (asN E ρ iy cell)) (hy : X.N[iy]? = some y := by rfl) (hyl : X.env.scope.names.lookup y = some .local := by rfl)
    (hgl : Gl X "range" := by rfl) (hse : starEach [a] X.env = [(false, eval a X.env)] := by rfl) (hs2 : starEach [a] X.env = (false, eval a X.env) :: starEach [] X.env := by rfl)
    (hs : ∀ x, foldedSetIterable (.Call (.Name "range" cpos) [a] [] kpos) X.env x = pure x := by intro _; rfl) : WS X B (.Assign [.Name y py] (.ListComp elt [⟨.Name x p, .Call (.Name "range" cpos) [a] [] kpos, [c], 0⟩] scope pos) spos) E ρ cs :=
  ws_of (ps_setLc hc hN hy hyl hsw (pi_range1 hgl hm (pa_cons h pa_nil hs2) hse) ok hg pts_if pe_elt hs) fun as hs σ H DD hB f q => setN hB f q cell fun Q k => lcr_reads f k
/-- name = a new list of any other kind -/
theorem ws_setN (cell : Bool) (i : Nat) {e : Expr} (h : WN X e ρ cs (asN E ρ i cell)) (hN : X.N.Nodup) (hi : X.N[i]? = some x := by rfl) (hx : Loc X.env.scope x := by first | exact .inl rfl | exact .inr rfl) (hs : swapsWith e (some (.Name x py)) pos.line X.env = pure false := by rfl)
    (hf : X.fn x = true ∨ X.env.scope.names.lookup x = some .local := by first | exact .inl rfl | exact .inr rfl) : WS X B (.Assign [.Name x py] e pos) E ρ cs :=
  ws_of (ps_set hN hi hx h hs hf) fun as hs σ H DD hB f q => setN hB f q cell fun Q k => ⟨as, hs, f, k⟩
end

/-! ### what is owned by a body is let go at its end -/
mutual
/-- d with the cells from n on laid open, but never the cell m -/
inductive Res (cs : Cs) (n m : Nat) : D → D → Prop
  | non : Res cs n m .non .non
  | bl {b} : Res cs n m (.bl b) (.bl b)
  | int {i} : Res cs n m (.int i) (.int i)
  | str {s} : Res cs n m (.str s) (.str s)
  | ty {s} : Res cs n m (.ty s) (.ty s)
  | obj {s} : Res cs n m (.obj s) (.obj s)
  | set {S j} : Res cs n m (.set S j) (.set S j)
  | scr {ns} : Res cs n m (.scr ns) (.scr ns)
  | exc {c} : Res cs n m (.exc c) (.exc c)
  | lst {xs ys} : ResL cs n m xs ys → Res cs n m (.lst xs) (.lst ys)
  | tup {xs ys} : ResL cs n m xs ys → Res cs n m (.tup xs) (.tup ys)
  | dct {ks xs ys} : ResL cs n m xs ys → Res cs n m (.dct ks xs) (.dct ks ys)
  | dcT {kss xs ys} : ResL cs n m xs ys → Res cs n m (.dcT kss xs) (.dcT kss ys)
  | low {k} : k < n → Res cs n m (.own k) (.own k)
  | own {k xs ys} : n ≤ k → k ≠ m → cs[k]? = some xs → ResL cs n m xs ys → Res cs n m (.own k) (.lst ys)
inductive ResL (cs : Cs) (n m : Nat) : List D → List D → Prop
  | nil : ResL cs n m [] []
  | cons {x xs y ys} : Res cs n m x y → ResL cs n m xs ys → ResL cs n m (x :: xs) (y :: ys)
end
theorem ResL.len {cs n m} : ∀ {xs ys}, ResL cs n m xs ys → xs.length = ys.length
  | _, _, .nil => rfl
  | _, _, .cons _ t => by simp [ResL.len t]
theorem nin_take {as : List Addr} {n : Nat} {a : Addr} (h : a ∉ as) : a ∉ as.take n := fun z => h (List.mem_of_mem_take z)
theorem nin_ex {as ex hs : List Addr} {a : Addr} (hx : ∀ a ∈ ex, a ∈ as) (h : a ∉ as) (h2 : a ∉ hs) : a ∉ ex ++ hs := fun z => (List.mem_append.mp z).elim (fun z => h (hx _ z)) h2
mutual
theorem Res.rep {as hs ex cs H n m} (c : Cells as hs cs H) (hx : ∀ a ∈ ex, as[m]? = some a) : ∀ {d e}, Res cs n m d e → ∀ {v}, Rep as hs H d v → Rep (as.take n) (ex ++ hs) H e v
  | _, _, .non, _, r => by cases r; exact .non
  | _, _, .bl, _, r => by cases r; exact .bl
  | _, _, .int, _, r => by cases r; exact .int
  | _, _, .str, _, r => by cases r; exact .str
  | _, _, .ty, _, r => by cases r; exact .ty
  | _, _, .obj, _, r => by cases r; exact .obj
  | _, _, .set, _, r => by
    cases r with
    | set a b h => exact .set (nin_take a) (nin_ex (fun a h => List.mem_of_getElem? (hx a h)) a b) h
  | _, _, .scr, _, r => by
    cases r with
    | scr a b h => exact .scr (nin_take a) (nin_ex (fun a h => List.mem_of_getElem? (hx a h)) a b) h
  | _, _, .exc, _, r => by
    cases r with
    | exc a b h => exact .exc (nin_take a) (nin_ex (fun a h => List.mem_of_getElem? (hx a h)) a b) h
  | _, _, .lst l, _, r => by
    cases r with
    | lst a b h rl => exact .lst (nin_take a) (nin_ex (fun a h => List.mem_of_getElem? (hx a h)) a b) h (ResL.rep c hx l rl)
  | _, _, .tup l, _, r => by
    cases r with
    | tup a b h rl => exact .tup (nin_take a) (nin_ex (fun a h => List.mem_of_getElem? (hx a h)) a b) h (ResL.rep c hx l rl)
  | _, _, .dct l, _, r => by
    cases r with
    | dct a b h e rl => exact .dct (nin_take a) (nin_ex (fun a h => List.mem_of_getElem? (hx a h)) a b) h (by rw [← l.len]; exact e) (ResL.rep c hx l rl)
  | _, _, .dcT l, _, r => by
    cases r with
    | dcT a b h e rl => exact .dcT (nin_take a) (nin_ex (fun a h => List.mem_of_getElem? (hx a h)) a b) h (by rw [← l.len]; exact e) (ResL.rep c hx l rl)
  | _, _, .low hk, _, r => by
    cases r with
    | own e => exact .own (by rw [List.getElem?_take_of_lt hk]; exact e)
  | _, _, .own hk hm hcs l, _, r => by
    cases r with
    | @own a k e =>
      obtain ⟨vs, h1, h2⟩ := cell_of c e hcs
      refine .lst (fun z => ?_) (fun z => ?_) h1 (ResL.rep c hx l h2)
      · obtain ⟨j, ej⟩ := List.getElem?_of_mem z
        have hj : j < n := by
          have := (List.getElem?_eq_some_iff.mp ej).1
          rw [List.length_take] at this; omega
        rw [List.getElem?_take_of_lt hj] at ej
        have := nd_ix c.nd ej e
        omega
      · rcases List.mem_append.mp z with z | z
        · exact hm (nd_ix c.nd e (hx a z))
        · exact (c.hid _ z).1 (List.mem_of_getElem? e)
theorem ResL.rep {as hs ex cs H n m} (c : Cells as hs cs H) (hx : ∀ a ∈ ex, as[m]? = some a) : ∀ {d e}, ResL cs n m d e → ∀ {v}, RepL as hs H d v → RepL (as.take n) (ex ++ hs) H e v
  | _, _, .nil, _, r => by cases r; exact .nil
  | _, _, .cons h t, _, r => by
    cases r with
    | cons r1 r2 => exact .cons (Res.rep c hx h r1) (ResL.rep c hx t r2)
end
/-- the cells from n on are gone, those ahead speak of none of them -/
def Low (cs : Cs) (n m : Nat) : Prop := ∀ (j : Nat) ds, j < n → cs[j]? = some ds → ResL cs n m ds ds
theorem Cells.take {as hs ex cs H n m} (c : Cells as hs cs H) (hx : ∀ a ∈ ex, as[m]? = some a) (hn : ∀ a ∈ ex, n ≤ m) (l : Low cs n m) : Cells (as.take n) (ex ++ hs) (cs.take n) H := by
  refine ⟨c.nd.sublist (List.take_sublist _ _), by rw [List.length_take, List.length_take, c.len], fun k a e => ?_, fun a h => ?_⟩
  · have hk : k < n := by
      have := (List.getElem?_eq_some_iff.mp e).1
      rw [List.length_take] at this; omega
    rw [List.getElem?_take_of_lt hk] at e
    obtain ⟨ds, vs, h1, h2, h3⟩ := c.at_ k a e
    exact ⟨ds, vs, by rw [List.getElem?_take_of_lt hk]; exact h1, h2, (l k ds hk h1).rep c hx h3⟩
  · rcases List.mem_append.mp h with hex | h
    · have ea := hx a hex
      obtain ⟨ds, vs, _, h2, _⟩ := c.at_ m a ea
      refine ⟨fun z => ?_, _, h2, True.intro⟩
      obtain ⟨j, ej⟩ := List.getElem?_of_mem z
      have hj : j < n := by
        have := (List.getElem?_eq_some_iff.mp ej).1
        rw [List.length_take] at this; omega
      rw [List.getElem?_take_of_lt hj] at ej
      have := nd_ix c.nd ej ea
      have := hn a hex
      omega
    · obtain ⟨h1, u⟩ := c.hid a h
      exact ⟨nin_take h1, u⟩
/-- what a body hands back, of its B first cells -/
def Shut (B : Nat) (P : PD) : PD := fun d cs' => (cs'.length = B ∧ P d cs') ∨ ∃ m d', Res cs' B m d d' ∧ Low cs' B m ∧ P d' (cs'.take B)
/-- .. a new list: the own cell k -/
def ShutN (B : Nat) (P : List D → Cs → Prop) : PD := fun d cs' => ∃ k xs xs', d = .own k ∧ B ≤ k ∧ cs'[k]? = some xs ∧ ResL cs' B k xs xs' ∧ Low cs' B k ∧ P xs' (cs'.take B)
def startD (N : List Str) (ds : List D) : Ro := ds.map some ++ List.replicate (N.length - ds.length) none
theorem fit_start {N : List Str} {as hs cs H ds vs} (c : Cells as hs cs H) (r : RepL as hs H ds vs) : Fit as hs (startD N ds) cs (L2.start N vs) H := by
  refine ⟨c, by unfold startD L2.start; simp [r.length], fun i d e => ?_⟩
  unfold startD at e
  unfold L2.start
  by_cases hi : i < ds.length
  · rw [List.getElem?_append_left (by simpa using hi), List.getElem?_map, List.getElem?_eq_getElem hi] at e
    cases e
    obtain ⟨v, hv, rv⟩ := r.get (List.getElem?_eq_getElem hi)
    have hi' : i < vs.length := by rw [← r.length]; exact hi
    exact ⟨v, by rw [List.getElem?_append_left (by simpa using hi'), List.getElem?_map, hv]; rfl, rv⟩
  · rw [List.getElem?_append_right (by simpa using hi), List.getElem?_replicate] at e
    split at e <;> cases e
section
variable {P : Program} {w : World} {K : PySem.W.Frag}
variable {mg : Str → Option Value} {base : Heap}
/-- the body's context -/
abbrev Bx (P : Program) (w : World) (K : PySem.W.Frag) (mg : Str → Option Value) (base : Heap) (N : List Str) (qual : Str) (st : Stmt) (f : Addr) (cdv : Value) (A : Around) (outer : List Env) (s : Shared) (H : Hp) (E : XK) : Cx :=
  (cxOf CX0 P w K mg base N qual (defScope st) f cdv A outer s H E).nox
theorem take_len {B : Nat} {as as' : List Addr} {H H' : Hp} (gb : GrowB B as as' H H') (e : B = as.length) : as'.take B = as := by
  rw [gb.take (by rw [e]; exact Nat.le_refl _), e, List.take_length]
theorem shut_fin {as hs as' : List Addr} {cs cs' : Cs} {H H' : Hp} {P' : PD} {Q : VK} {d : D} {v : V} (c : Cells as hs cs H) (q : Fin as hs H P' Q) (gb : GrowB cs.length as as' H H') (c' : Cells as' hs cs' H') (rv : Rep as' hs H' d v) (hp : Shut cs.length P' d cs') : Q v H' := by
  have et := take_len gb c.len
  rw [c.len] at gb
  have g := gb.grow
  rcases hp with ⟨_, hp⟩ | ⟨m, d', rs, lw, hp⟩
  · exact q v H' as' d cs' g c' rv hp
  · have c2 := c'.take (ex := []) (fun _ z => nomatch z) (fun _ z => nomatch z) lw
    have r2 := rs.rep (ex := []) c' (fun _ z => nomatch z) rv
    rw [et] at c2 r2
    exact q v H' as d' _ ⟨⟨[], by simp⟩, fun a h n => absurd h n, g.keep⟩ c2 r2 hp
mutual
theorem Rep.self {as hs H n cs' m} (hn : as.length ≤ n) : ∀ {d v}, Rep as hs H d v → Res cs' n m d d
  | _, _, .non => .non
  | _, _, .bl => .bl
  | _, _, .int => .int
  | _, _, .str => .str
  | _, _, .ty => .ty
  | _, _, .obj => .obj
  | _, _, .lst _ _ _ l => .lst (RepL.self hn l)
  | _, _, .tup _ _ _ l => .tup (RepL.self hn l)
  | _, _, .own e => .low (Nat.lt_of_lt_of_le (List.getElem?_eq_some_iff.mp e).1 hn)
  | _, _, .set _ _ _ => .set
  | _, _, .scr _ _ _ => .scr
  | _, _, .exc _ _ _ => .exc
  | _, _, .dct _ _ _ _ l => .dct (RepL.self hn l)
  | _, _, .dcT _ _ _ _ l => .dcT (RepL.self hn l)
theorem RepL.self {as hs H n cs' m} (hn : as.length ≤ n) : ∀ {d v}, RepL as hs H d v → ResL cs' n m d d
  | _, _, .nil => .nil
  | _, _, .cons r t => .cons (Rep.self hn r) (RepL.self hn t)
end
/-- what is true of cells and arguments at a body's start -/
structure BaseOk (cs : Cs) (ds : List D) : Prop where
  low : ∀ (j : Nat) xs, cs[j]? = some xs → ∀ cs' m, ResL cs' cs.length m xs xs
  arg : ∀ cs' m, ResL cs' cs.length m ds ds
theorem BaseOk.of {as hs cs H ds vs} (c : Cells as hs cs H) (r : RepL as hs H ds vs) : BaseOk cs ds :=
  ⟨fun j xs h cs' m => by
    have hj : j < as.length := by rw [← c.len]; exact (List.getElem?_eq_some_iff.mp h).1
    obtain ⟨vs, _, h2⟩ := cell_of c (List.getElem?_eq_getElem hj) h
    exact h2.self (by rw [c.len]; exact Nat.le_refl _), fun cs' m => r.self (by rw [c.len]; exact Nat.le_refl _)⟩
theorem BaseOk.lowApp {cs ds more m} (b : BaseOk cs ds) : Low (cs ++ more) cs.length m := fun j xs hj h => by
  rw [List.getElem?_append_left hj] at h
  exact b.low j xs h _ _
theorem resL_ints {cs n m} : ∀ ns : List Int, ResL cs n m (ns.map .int) (ns.map .int)
  | [] => .nil
  | k :: r => .cons .int (resL_ints r)
theorem fnD {x qual : Str} {st : Stmt} {f : Addr} {fd : FuncData} {N ps : List Str} {k : Nat} {g : GD} (F : FunD K x qual (defArgs st) (defBody st) (defScope st) [] [] f fd) (S : FnScope N ps (defScope st)) (len : ∀ ds cs P, g ds cs P → ds.length = ps.length)
    (body : ∀ (cdv : Value) (A : Around) (outer : List Env) (s : Shared) (H : Hp) (E : XK), Rm k (A.deeper (envOfC qual (defScope st) s.heap.objs.size f cdv)) → ∀ ds cs P', g ds cs P' → BaseOk cs ds →
      WSs (Bx P w K mg base N qual st f cdv A outer s H E) cs.length (defBody st) { nx := fun _ cs' => Shut cs.length P' .non cs', rt := Shut cs.length P' } (startD N ds) cs) : FnG P w K mg base CX0 (k + 1) f fd ps (spD g) := by
  obtain ⟨oc, od, dV, kV, doc, pm, an, cdv0, ct, osl, rfl, lk, hcd, _, _⟩ := F.ex
  refine fnG_of lk hcd S (fun vs H Q E ⟨as, hs, ds, cs, P', c, r, hg, q⟩ => by rw [← r.length]; exact len ds cs P' hg) fun A outer s H vs Q E hr ⟨as, hs, ds, cs, P', c, r, hg, q⟩ => ?_
  refine ⟨_, PSs.nox (body cdv0 A outer s H E hr ds cs P' hg (BaseOk.of c r)), tS_mk (Nat.le_refl _) (fit_start c r) ⟨?_, ?_, ?_, ?_⟩⟩
  · intro σ' H' as' ρ' cs' gb f' hp
    exact shut_fin c q gb f'.cells .non hp
  · intro v H' as' d cs' gb c' rv hp
    exact shut_fin c q gb c' rv hp
  · intro σ' H' as' ρ' cs' gb f' hp; exact hp.elim
  · intro σ' H' as' ρ' cs' gb f' hp; exact hp.elim
theorem fnN {x qual : Str} {st : Stmt} {f : Addr} {fd : FuncData} {N ps : List Str} {k : Nat} {g : GN} (F : FunD K x qual (defArgs st) (defBody st) (defScope st) [] [] f fd) (S : FnScope N ps (defScope st)) (len : ∀ ds cs P, g ds cs P → ds.length = ps.length)
    (body : ∀ (cdv : Value) (A : Around) (outer : List Env) (s : Shared) (H : Hp) (E : XK), Rm k (A.deeper (envOfC qual (defScope st) s.heap.objs.size f cdv)) → ∀ ds cs P', g ds cs P' → BaseOk cs ds →
      WSs (Bx P w K mg base N qual st f cdv A outer s H E) cs.length (defBody st) { nx := fun _ _ => False, rt := ShutN cs.length P' } (startD N ds) cs) : FnG P w K mg base CX0 (k + 1) f fd ps (spN g) := by
  obtain ⟨oc, od, dV, kV, doc, pm, an, cdv0, ct, osl, rfl, lk, hcd, _, _⟩ := F.ex
  refine fnG_of lk hcd S (fun vs H Q E ⟨as, hs, ds, cs, P', c, r, hg, q⟩ => by rw [← r.length]; exact len ds cs P' hg) fun A outer s H vs Q E hr ⟨as, hs, ds, cs, P', c, r, hg, q⟩ => ?_
  refine ⟨_, PSs.nox (body cdv0 A outer s H E hr ds cs P' hg (BaseOk.of c r)), tS_mk (Nat.le_refl _) (fit_start c r) ⟨?_, ?_, ?_, ?_⟩⟩
  · intro σ' H' as' ρ' cs' gb f' hp; exact hp.elim
  · intro v H' as' d cs' gb c' rv ⟨k, xs, xs', ed, hk, hx, rs, lw, hp⟩
    subst ed
    cases rv with
    | @own a _ ea =>
      have et := take_len gb c.len
      have hxm : ∀ b ∈ [a], as'[k]? = some b := fun b hb => by rw [List.mem_singleton.mp hb]; exact ea
      obtain ⟨us, hu, ru⟩ := cell_of c' ea hx
      have c2 := c'.take (ex := [a]) hxm (fun _ _ => hk) lw
      have r2 := rs.rep (ex := [a]) c' hxm ru
      rw [et] at c2 r2
      have nh : a ∉ hs := fun z => (c'.hid a z).1 (List.mem_of_getElem? ea)
      rw [c.len] at gb hk
      have g := gb.grow
      have na : a ∉ as := fun z => by
        obtain ⟨j, ej⟩ := List.getElem?_of_mem z
        have hj : j < as.length := (List.getElem?_eq_some_iff.mp ej).1
        obtain ⟨m, e⟩ := g.ext
        have := nd_ix c'.nd (show as'[j]? = some a by rw [e, List.getElem?_append_left hj]; exact ej) ea
        omega
      have nH : H a = none := g.new a (List.mem_of_getElem? ea) na
      have := q a (hole H' a) as xs' us _ ⟨⟨[], by simp⟩, fun b h n => absurd h n, fun b o nb hb => (hole_ne (ne_of_none hb nH)).trans (g.keep b o nb hb)⟩ (c2.hole nh) hole_at r2.hole hp
      rw [hole_upd hu] at this
      exact this
  · intro σ' H' as' ρ' cs' gb f' hp; exact hp.elim
  · intro σ' H' as' ρ' cs' gb f' hp; exact hp.elim
end
end Rg
set_option Elab.async false
set_option linter.all false
set_option maxRecDepth 100000
namespace Rg
open PySem PySem.Spec
open PyProof.Rows L2

/-! ### the script -/
def KLst (K : PySem.W.Frag) (a : Addr) (ns : List Int) : Prop := ∃ (o : Obj) (its : Array Value) (n : Nat), K.lookup a = some o ∧ o.cls = .type "list" ∧ o.dict = none ∧ o.data = .seq its n ∧ its.size ≤ sizeLine ∧ Vals (ns.map V.int) its.toList
def ScrD (K : PySem.W.Frag) (d : D) (ns : List Int) : Prop := d = .scr ns ∨ ∃ a, d = .obj a ∧ KLst K a ns
theorem ScrD.rep {K as hs H d v ns} (h : ScrD K d ns) (r : Rep as hs H d v) : ∃ a, v = .ref a ∧ SqL K H a (ns.map V.int) := by
  rcases h with rfl | ⟨a, rfl, h⟩
  · cases r with
    | scr n m h => exact ⟨_, rfl, .inl (.inr ⟨_, h⟩)⟩
  · cases r
    exact ⟨_, rfl, .inr h⟩
theorem scr_only {K : PySem.W.Frag} {H : Hp} {a : Addr} {ns : List Int} (hO : Only H) (h : SqL K H a (ns.map V.int)) : ∃ d, ScrD K d ns ∧ Rep [] [] H d (.ref a) := by
  rcases h with (h | ⟨oo, h⟩) | h
  · rcases hO a with e | ⟨o, xs, e⟩ <;> (rw [e] at h; cases h)
  · exact ⟨.scr ns, .inl rfl, .scr (by simp) (by simp) h⟩
  · exact ⟨.obj a, .inr ⟨a, rfl, h⟩, .obj⟩
/-! ### isinstance -/
inductive TyD : D → String → Prop
  | non : TyD .non "NoneType"
  | bl {b} : TyD (.bl b) "bool"
  | int {i} : TyD (.int i) "int"
  | str {s} : TyD (.str s) "str"
  | lst {xs} : TyD (.lst xs) "list"
  | tup {xs} : TyD (.tup xs) "tuple"
  | own {k} : TyD (.own k) "list"
  | scr {ns} : TyD (.scr ns) "list"
  | dct {ks xs} : TyD (.dct ks xs) "dict"
theorem TyD.tyx {K : PySem.W.Frag} {as hs H cs d v t} (h : TyD d t) (c : Cells as hs cs H) (r : Rep as hs H d v) : TyX K H v (.type t) := by
  cases h with
  | non => cases r; exact .base .non
  | bl => cases r; exact .base (.bl _)
  | int => cases r; exact .base (.int _)
  | str => cases r; exact .base (.str _)
  | lst => cases r with
    | lst n m h l => exact .base (.lst h)
  | tup => cases r with
    | tup n m h l => exact .base (.tup h)
  | own => cases r with
    | own e =>
      obtain ⟨ds, vs, _, h, _⟩ := c.at_ _ _ e
      exact .base (.lst h)
  | scr => cases r with
    | scr n m h => exact .base (.frz h)
  | dct => cases r with
    | dct n m h e l => exact .base (.dK h)
section
variable {X : Cx} {ρ : Ro} {cs : Cs} {e a b c o : Expr} {es rest : List Expr} {P : PD} {PN : List D → Cs → Prop} {PT' : Bool → Cs → Prop} {pos p apos cpos kpos : Pos} {x : Str} {k : Nat} {ps ks : List Str}
theorem w_atS (h : W X a ρ cs fun d1 cs1 => W X b ρ cs1 fun d2 cs2 => ∃ ns i n, ScrD X.K d1 ns ∧ d2 = .int i ∧ atI ns i = some n ∧ P (.int n) cs2) (hs : PlainIx b := by exact fun _ _ => rfl) : W X (.Subscript a b pos) ρ cs P := by
  refine w_ix ix_list (g := fun d1 d2 cs2 P => ∃ ns i n, ScrD X.K d1 ns ∧ d2 = .int i ∧ atI ns i = some n ∧ P (.int n) cs2) ?_ h hs
  rintro as hs H x y d1 d2 cs P Q c r1 r2 ⟨ns, i, n, hl, rfl, ha, hp⟩ q
  obtain ⟨a, rfl, hr⟩ := hl.rep r1
  cases r2
  refine ⟨a, ns.map V.int, i, .int n, rfl, rfl, hr, ?_, q _ _ _ _ _ (Grow.refl as H) c .int hp⟩
  unfold atI at ha ⊢
  rw [List.length_map]
  cases ei : ixN ns.length i with
  | none => rw [ei] at ha; cases ha
  | some j =>
    rw [ei] at ha
    have ha' : ns[j]? = some n := ha
    show (ns.map V.int)[j]? = some (V.int n)
    rw [List.getElem?_map, ha']; rfl
theorem w_lenS (hm : X.mg "len" = none) (h : WA X [e] ρ cs fun ds cs1 => ∃ d ns, ds = [d] ∧ ScrD X.K d ns ∧ P (.int ns.length) cs1) (hg : Gl X "len" := by rfl) (he : starEach [e] X.env = (false, eval e X.env) :: starEach [] X.env := by rfl) : W X (.Call (.Name "len" p) [e] [] pos) ρ cs P := by
  refine w_bi (g := fun ds cs1 P => ∃ d ns, ds = [d] ∧ ScrD X.K d ns ∧ P (.int ns.length) cs1) call_len_seq ?_ hm PySem.boot_len h hg (he := he)
  rintro as hs H vs ds cs P Q c r ⟨d, ns, rfl, hl, hp⟩ q
  cases r with
  | cons r t =>
    cases t
    obtain ⟨a, rfl, hr⟩ := hl.rep r
    refine ⟨a, ns.map V.int, rfl, .inl hr, ?_⟩
    rw [List.length_map]
    exact q _ _ _ _ _ (Grow.refl as H) c .int hp

theorem w_isi (hm : X.mg "isinstance" = none) (h : WA X [a, b] ρ cs fun ds cs1 => ∃ d n t k, ds = [d, .ty n] ∧ TyD d t ∧ kitB t n = some k ∧ P (.bl k) cs1) (hg : Gl X "isinstance" := by rfl) (he : starEach [a, b] X.env = (false, eval a X.env) :: starEach [b] X.env := by rfl) (hpl : (backTo pos (starEach [b] X.env)).any (·.1) = false := by rfl) :
    W X (.Call (.Name "isinstance" p) [a, b] [] pos) ρ cs P := by
  refine w_bi (g := fun ds cs1 P => ∃ d n t k, ds = [d, .ty n] ∧ TyD d t ∧ kitB t n = some k ∧ P (.bl k) cs1) call_isi ?_ hm (by decide +kernel) h hg (he := he) (hpl := hpl)
  rintro as hs H vs ds cs P Q c r ⟨d, n, t, k, rfl, ht, hk, hp⟩ q
  cases r with
  | cons r tl =>
    cases tl with
    | cons r' tl =>
      cases tl
      cases r'
      exact ⟨_, _, .type t, .type n, k, rfl, .ty n, ht.tyx c r, kit_ty hk, q _ _ _ _ _ (Grow.refl as H) c .bl hp⟩
theorem kit_int_int : kitB "int" "int" = some true := by decide +kernel
theorem kit_int_bool : kitB "int" "bool" = some false := by decide +kernel
theorem kit_list_list : kitB "list" "list" = some true := by decide +kernel
theorem kit_bool_int : kitB "bool" "int" = some true := by decide +kernel
theorem kit_bool_bool : kitB "bool" "bool" = some true := by decide +kernel
end

/-! ### == of lists of ints -/
theorem toPyL_ints {cs : Cs} : ∀ ns : List Int, ToPyL cs (ns.map .int) (ns.map PyData.int)
  | [] => .nil
  | n :: r => .cons .int (toPyL_ints r)
theorem depthAll_ints : ∀ ns : List Int, PyData.depthAll (ns.map PyData.int) = 0
  | [] => rfl
  | n :: r => by
    rw [List.map_cons]
    show max 0 (PyData.depthAll (r.map PyData.int)) = 0
    rw [depthAll_ints r]; rfl
theorem canLayAll_ints : ∀ ns : List Int, PyData.canLayAll0 (ns.map PyData.int) = true
  | [] => rfl
  | n :: r => by
    rw [List.map_cons]
    show (true && PyData.canLayAll0 (r.map PyData.int)) = true
    rw [canLayAll_ints r]; rfl
theorem shaped_ints (ns : List Int) : SeqAt.shaped (.list (ns.map PyData.int)) = true := by
  show (PyData.canLayAll0 (ns.map PyData.int) && decide (PyData.depthAll (ns.map PyData.int) + 1 ≤ 64)) = true
  rw [canLayAll_ints, depthAll_ints]; rfl
theorem eqvAll_ints : ∀ ns ms : List Int, PyData.eqvAll (ns.map PyData.int) (ms.map PyData.int) = decide (ns = ms)
  | [], [] => rfl
  | [], _ :: _ => rfl
  | _ :: _, [] => rfl
  | n :: r, m :: t => by
    rw [List.map_cons, (List.map_cons)]
    show (PyData.eqv (.int n) (.int m) && PyData.eqvAll (r.map PyData.int) (t.map PyData.int)) = _
    rw [eqvAll_ints r t]
    show ((n == m) && decide (r = t)) = _
    by_cases h1 : n = m <;> by_cases h2 : r = t <;> simp [h1, h2]
end Rg
set_option Elab.async false
set_option linter.all false
set_option maxRecDepth 100000
set_option maxHeartbeats 3900000
namespace Rg
open PySem PySem.Spec
open PyProof.Rows L2
section
variable {P : Program} {w : World} {A : Around}
variable {E : Value → Shared → Prop} {s : Shared}
abbrev fset (w : World) : Obj := { cls := .type "set", dict := none, data := .set #[] 0 (.fresh 0 0 (!w.params.followText "set-order")) }
theorem call_set_lstI {l : Addr} {items : Array Value} (ns : List Int) {Q : Value → Shared → Prop} (hh : A.handled = none) (hl : s.heap.IsList l items) (hit : IntsAre items.toList ns) (hb : ns.length + 1 < scanBound)
    (h : ∀ (h' : Heap) (tk8 c : Nat), SetR w h' s.heap.objs.size (fun j => decide (j ∈ ns)) c → c ≤ ns.length → (∀ b o, s.heap.get? b = some o → h'.get? b = some o) → Q (.ref s.heap.objs.size) { s with heap := h', toks := tk8 }) :
    wpAny (model P w) A (call (.type "set") [.ref l])
      Q E s := by
  have gIsz : items.size = ns.length := by
    have q := IntsAre.length hit
    rw [Array.length_toList] at q
    exact q
  obtain ⟨c, tl, gMro⟩ := F.called_set.mro
  have gMade := F.called_set.made
  have gSub := F.called_set.sub
  refine wpAny_call (codeAny_of_tree ?x0)
  show wpAny _ _ (callAny (.type "set") _) _ _ (_)
  refine wpAny_pure ⟨Code.quiet_builtin _ (by decide +kernel), codeAny_builtin F.entry_type_call ?x1⟩
  rw [Around.under_plain (weight_type_call_type ("set") [.ref l] []) rfl]
  have gA := F.called_set.notType
  have gB := F.called_set.canCreate
  have gCt := F.typeCall_set_1 (.ref l)
  repeat (any_goals (first | (assumption) | wp_step))

  refine codeAny_mono (code_set_led1 (.ref l) (E := E) (Q₁ := fun obj s₁ => obj = .ref s.heap.objs.size ∧ s₁ = { s with heap := s.heap.push (fset w) }) ⟨rfl, rfl⟩) fun r s₁ gr => ?_
  cases r with
  | error e => exact gr
  | ok fl =>
    cases fl with
    | ret obj =>
      obtain ⟨rfl, rfl⟩ := gr
      have gS : (s.heap.push (fset w)).get? s.heap.objs.size = some (fset w) := Heap.get?_push_size _ rfl
      have gT : Shared.TypeIs { s with heap := s.heap.push (fset w) } (.ref s.heap.objs.size) "set" := ⟨_, gS, rfl⟩
      have gLi := F.called_set.init.lookup
      have gBi := F.called_set.init.bind (.ref s.heap.objs.size)
      repeat (any_goals (first | (assumption) | wp_step))

      refine codeAny_mono (codeAny_call_builtin (R := wants (fun r s₂ => r = .none ∧ ∃ h' tk8 c, s₂ = { s with heap := h', toks := tk8 } ∧ SetR w h' s.heap.objs.size (fun j => decide (j ∈ ns)) c ∧ c ≤ ns.length ∧
          (∀ b o, s.heap.get? b = some o → h'.get? b = some o)) E) F.called_set.init.plain F.entry_set_init (check_set_init_1 gT ?_)) fun r₂ s₂ gr2 => ?_
      · obtain ⟨ol9, gO, gCl, nl9, gDl⟩ := hl
        obtain ⟨oc9, od9, oda9, os9⟩ := ol9
        simp only at gCl gDl
        subst gCl; subst gDl
        have gO2 : (s.heap.push (fset w)).get? l = some { cls := .type "list", dict := od9, data := .seq items nl9, slots := os9 } := Heap.get?_push_of_some _ gO
        have gSls := F.sub_list_set
        have gSlf := F.sub_list_frozenset
        have gNe : (Value.type "list" == Value.type "dict") = false := by decide
        have gL1 : (s.heap.push (fset w)).IsList l items := ⟨_, gO2, rfl, nl9, rfl⟩
        unfold Builtin.«set.__init__»; unfold noKeywords Builtin.Frozenset.updateFrom
        generalize gPI : pyIter = PI
        wp_walk
        subst gPI

        refine wpAny_pyIter_list gL1 ?_
        refine wpAny_bind (wpAny_runValue (?_))
        have gLS : l < s.heap.objs.size := Heap.lt_size gO
        have gH3 : A.in1.in1.in1.handled = none := by simp [hh]
        have gZ1 : (s.heap.push (fset w)).objs.size = s.heap.objs.size + 1 := Heap.size_push ..
        have gNeI : l ≠ (s.heap.push (fset w)).objs.size := by
          rw [Heap.size_push]; exact Nat.ne_of_lt (Nat.lt_succ_of_lt gLS)
        have gSf : s.heap.objs.size ∉ [(s.heap.push (fset w)).objs.size, l] := by
          (rw [Heap.size_push]); (simp only [List.mem_cons, List.mem_singleton, List.not_mem_nil, or_false, not_or])
          exact ⟨Nat.ne_of_lt (Nat.lt_succ_self _), Nat.ne_of_gt gLS⟩
        have gVal : ∀ (i : Nat) (v : Value), items[i]? = some v → ∃ k t, ns[i]? = some k ∧ v = .int k t := fun i v hv => by
          have hi : i < ns.length := by rw [← gIsz]; exact (Array.getElem?_eq_some_iff.mp hv).1
          obtain ⟨t, e⟩ := PyProof.Rows.IntsAre.int_at (hit) i v (by rw [Array.getElem?_toList]; exact hv)
          refine ⟨ns[i], t, List.getElem?_eq_getElem hi, (?_)⟩
          rw [e, List.getD_eq_getElem?_getD, List.getElem?_eq_getElem (hi)] <;> rfl
        refine set_update_ints ((Walks.list gH3 _ l gNeI items).toS) s.heap.objs.size
          gSf ns gIsz hb gVal (items.size - 0) 0 _ (by omega) (Nat.zero_le _)
          ⟨⟨_, Heap.get?_push_size _ rfl, rfl, rfl⟩, (gL1.push _)⟩ ?hS0 ?hR
        case hS0 =>
          have gGet : ((s.heap.push (fset w)).push { cls := .type "list_iterator", data := .fields #[.ref l, .int 0 0] }).get? s.heap.objs.size
              = some (fset w) := Heap.get?_push_of_some _ gS
          exact ⟨0, Nat.le_refl 0, setR_new_at gGet⟩
        case hR =>
          intro s' c' gm gc3 gS3
          obtain ⟨h', g2, d', tk9, os'⟩ := s'
          have eg : g2 = s.gens := gm.gens
          have ed : d' = s.drawn := gm.drawn
          have eo : os' = s.os := gm.os
          subst eg; subst ed; subst eo
          show wpAny _ _ _ _ _ _
          refine wpAny_pure ?_
          show wpAny _ _ (ret (Value.none)) _ _ _
          rw [gIsz] at gc3
          refine wpAny_pure ⟨rfl, h', tk9, c', rfl, gS3, gc3, fun b o e => ?_⟩
          have gb0 : b < s.heap.objs.size := Heap.lt_size e
          have gb1 : b ≠ s.heap.objs.size := Nat.ne_of_lt gb0
          have gb2 : b ≠ (s.heap.push (fset w)).objs.size := by
            rw [Heap.size_push]; exact Nat.ne_of_lt (Nat.lt_succ_of_lt gb0)
          exact gm.heap b o (by simp only [List.mem_cons, List.mem_singleton, List.not_mem_nil, or_false, not_or]; exact ⟨gb1, gb2⟩) (Heap.get?_push_of_some _ (Heap.get?_push_of_some _ e))

      · cases r₂ with
        | error e => exact gr2
        | ok fl₂ =>
          cases fl₂ with
          | ret r =>
            obtain ⟨rfl, h', tk8, c', rfl, gS3, gc3, gk3⟩ := gr2
            repeat (any_goals (first | (assumption) | wp_step))
            exact h _ _ _ gS3 gc3 gk3
          | _ => exact gr2.elim
    | _ => exact gr.elim
end
end Rg
set_option Elab.async false
set_option linter.all false
set_option maxRecDepth 100000
namespace Rg
open PySem PySem.Spec
open PyProof.Rows L2
/-! ### sorted(set(xs)), len(set(xs)) -/
def rSetL (K : PySem.W.Frag) (w : World) : List V → Hp → VK → Prop := fun xs H Q => ∃ (a : Addr) (ns : List Int), xs = [.ref a] ∧ SqL K H a (ns.map V.int) ∧ ns.length ≤ 1000 ∧ ∀ p c, H p = none → c ≤ ns.length → Q (.ref p) (upd H p (SetO w p (fun j => decide (j ∈ ns)) c))
section
variable {X : Cx}
theorem cr_setL (hc : X.calm = true) : CallR X (.type "set") (rSetL X.K X.w) := by
  intro pins s σ H xs us Q I0 r h
  obtain ⟨a, ns, rfl, hS, hb, q⟩ := h
  rw [Vals.ref1 r]
  obtain ⟨its, rv, pl, hz⟩ := I0.list hS
  have hi := Vals.ints rv
  refine call_set_lstI (l := a) (items := its.toArray) ns (I0.ok.hd hc) pl.isList (by simpa using hi) (Nat.lt_of_le_of_lt (Nat.add_le_add_right hb 1) (by decide)) fun h' tk c R hcn keep => ?_
  have hn : H s.heap.objs.size = none := I0.hok.fresh (Nat.le_refl _)
  exact ⟨.ref s.heap.objs.size, _, I0.laid (t' := tk) keep (Nat.le_refl _) (setO_new R), rfl, q s.heap.objs.size c hn hcn⟩
variable {ρ : Ro} {cs : Cs} {e : Expr} {P : PD} {PN : List D → Cs → Prop} {pos p cpos kpos : Pos}
def rLenSet (w : World) : List V → Hp → VK → Prop := fun xs H Q => ∃ (a : Addr) (S : Int → Bool) (n : Nat), xs = [.ref a] ∧ H a = some (SetO w a S n) ∧ ∀ ks : List Int, ks.Nodup → (∀ k, k ∈ ks ↔ S k = true) → Q (.int ks.length) H
theorem cr_lenSet : CallR X (.builtin "len") (rLenSet X.w) := by
  intro pins s σ H xs us Q I0 r h
  obtain ⟨a, S, n, rfl, ha, q⟩ := h
  rw [Vals.ref1 r]
  obtain ⟨o, es, ep, t, ho, hx, hd, _, nd, mem, hb, hf, _⟩ := setO_get I0 ha
  refine PySem.call_len_set ho hx hd hf (by have : es.size < scanBound := hb; have e : scanBound = 4096 := rfl; omega) ?_
  have hq := q (es.toList.map keyOf) nd fun k => (mem k).symm
  rw [List.length_map, Array.length_toList] at hq
  exact ⟨.int es.size, H, I0.tok _, ⟨_, rfl⟩, hq⟩
/-- len(set(xs)) -/
theorem w_lenSet (hc : X.calm = true) (hm : X.mg "len" = none) (hm2 : X.mg "set" = none) (h : W X e ρ cs fun d cs1 => ∃ ns : List Int, LstD cs1 d (ns.map .int) ∧ ns.length ≤ 1000 ∧ ∀ ks : List Int, ks.Nodup → (∀ k, k ∈ ks ↔ k ∈ ns) → P (.int ks.length) cs1)
    (hg : Gl X "len" := by rfl) (hg2 : Gl X "set" := by rfl) (he : starEach [e] X.env = (false, eval e X.env) :: starEach [] X.env := by rfl)
    (he2 : starEach [.Call (.Name "set" p) [e] [] cpos] X.env = (false, eval (.Call (.Name "set" p) [e] [] cpos) X.env) :: starEach [] X.env := by rfl) : W X (.Call (.Name "len" kpos) [.Call (.Name "set" p) [e] [] cpos] [] pos) ρ cs P := by
  refine w_of (pe_callB cr_lenSet hg hm PySem.boot_len (pa_cons (pe_callTy (cr_setL hc) hg2 hm2 (by decide +kernel) (pa_cons h pa_nil he) (by decide) (by decide) he rfl) pa_nil he2) (by decide) (by decide) he2 rfl) fun as hs σ H Q f q => ?_
  refine sub1 f fun v H1 as1 d cs1 g1 f1 r1 ⟨ns, hl, h1, hp⟩ => ?_
  obtain ⟨a, vs, rfl, hr, rl⟩ := hl.rep f1.cells r1
  have ev := repL_ints' rl
  subst ev
  refine ⟨a, ns, rfl, .inl hr, h1, fun pp c hn hcn => ⟨pp, _, c, rfl, upd_same, fun ks nd mem => ?_⟩⟩
  exact q _ _ as1 _ cs1 (g1.trans (Grow.laid hn)) (f1.cells.laid hn) .int (hp ks nd fun k => (mem k).trans (by simp))
/-- sorted(set(xs)), at most 63 different ones -/
theorem wn_sortedSet (hc : X.calm = true) (hm : X.mg "sorted" = none) (hm2 : X.mg "set" = none) (h : W X e ρ cs fun d cs1 => ∃ ns : List Int, LstD cs1 d (ns.map .int) ∧ ns.length < 64 ∧ ∀ ns' : List Int, ns'.Pairwise (· < ·) → (∀ k, k ∈ ns' ↔ k ∈ ns) → PN (ns'.map .int) cs1)
    (hg : Gl X "sorted" := by rfl) (hg2 : Gl X "set" := by rfl) (he : starEach [e] X.env = (false, eval e X.env) :: starEach [] X.env := by rfl)
    (he2 : starEach [.Call (.Name "set" p) [e] [] cpos] X.env = (false, eval (.Call (.Name "set" p) [e] [] cpos) X.env) :: starEach [] X.env := by rfl) : WN X (.Call (.Name "sorted" kpos) [.Call (.Name "set" p) [e] [] cpos] [] pos) ρ cs PN := by
  refine wn_of (pe_callB (cr_sortedSet hc) hg hm (by decide +kernel) (pa_cons (pe_callTy (cr_setL hc) hg2 hm2 (by decide +kernel) (pa_cons h pa_nil he) (by decide) (by decide) he rfl) pa_nil he2) (by decide) (by decide) he2 rfl) fun as hs σ H Q f q => ?_
  refine sub1 f fun v H1 as1 d cs1 g1 f1 r1 ⟨ns, hl, h64, hp⟩ => ?_
  obtain ⟨a, vs, rfl, hr, rl⟩ := hl.rep f1.cells r1
  have ev := repL_ints' rl
  subst ev
  refine ⟨a, ns, rfl, .inl hr, by omega, fun pp c hn hcn => ⟨pp, _, c, rfl, upd_same, by omega, fun ns' p2 pw mem len hn2 => ?_⟩⟩
  have mem' : ∀ k, k ∈ ns' ↔ k ∈ ns := fun k => (mem k).trans (by simp)
  exact q p2 _ as1 _ _ cs1 (g1.trans (Grow.laid hn)) (f1.cells.laid hn) hn2 (repL_ints ns') (hp ns' pw mem')
end
end Rg
namespace Rg
open PySem PySem.Spec
open PyProof.Rows L2
section
variable {X : Cx} {ρ : Ro} {cs : Cs} {e a b : Expr} {E : En} {B : Nat} {pos px py pt pt2 : Pos} {x y : Str} {kt k2 : Nat}
/-- a, b = e1, e2 by a tuple (one of them is captured) -/
theorem ws_tup2 (i j : Nat) (h : WA X [a, b] ρ cs fun ds cs1 => ∃ d1 d2, ds = [d1, d2] ∧ E.nx ((ρ.set i (some d1)).set j (some d2)) cs1) (hc : X.calm = true) (hN : X.N.Nodup) (hi : X.N[i]? = some x := by rfl) (hj : X.N[j]? = some y := by rfl)
    (hx : Loc X.env.scope x := by first | exact .inl rfl | exact .inr rfl) (hy : Loc X.env.scope y := by first | exact .inl rfl | exact .inr rfl)
    (fx : X.fn x = true ∨ X.env.scope.names.lookup x = some .local := by first | exact .inl rfl | exact .inr rfl) (fy : X.fn y = true ∨ X.env.scope.names.lookup y = some .local := by first | exact .inl rfl | exact .inr rfl)
    (hs : swapsWithSole [.Tuple [.Name x px, .Name y py] kt pt] (.Tuple [a, b] k2 pt2) pos.line X.env = pure false := by rfl) (hw : swappedStores [.Tuple [.Name x px, .Name y py] kt pt] (.Tuple [a, b] k2 pt2) X.env = pure none := by rfl)
    (h1 : (assignEach [.Tuple [.Name x px, .Name y py] kt pt] X.env).map (·.2) = [assign (.Tuple [.Name x px, .Name y py] kt pt) X.env] := by rfl)
    (hn : (assignEach [.Name x px, .Name y py] X.env).length = 2 := by rfl) (hst : (assignEach [.Name x px, .Name y py] X.env).findIdx? (·.1) = none := by rfl)
    (s1 : (assignEach [.Name x px, .Name y py] X.env).map (·.2) = assign (.Name x px) X.env :: (assignEach [.Name y py] X.env).map (·.2) := by rfl)
    (s2 : (assignEach [.Name y py] X.env).map (·.2) = assign (.Name y py) X.env :: (assignEach [] X.env).map (·.2) := by rfl) :
    WS X B (.Assign [.Tuple [.Name x px, .Name y py] kt pt] (.Tuple [a, b] k2 pt2) pos) E ρ cs := by
  refine ws_of (ps_asg (pe_tup h) (pg_tup hc (pgs_cons (pg_name hN hi hx fx) (pgs_cons (pg_name hN hj hy fy) pgs_nil s2) s1) hn hst) hs hw h1) fun as hs σ H DD hB f q => ?_
  refine subA f fun vs H1 as1 ds cs1 g1 f1 r1 ⟨d1, d2, e, p1⟩ => ?_
  subst e
  cases r1 with
  | @cons _ _ v1 _ r1 t =>
    cases t with
    | @cons _ _ v2 _ r2 t =>
      cases t
      refine ⟨sz_of (by show 2 ≤ 100000; decide), fun p n => ⟨p, _, rfl, .inl (.inl upd_same), rfl, _, _, rfl, _, _, rfl, rfl, ?_⟩⟩
      have g2 := g1.trans (Grow.laid (o := .tup [v1, v2]) n)
      exact q.nx _ _ _ _ _ (g2.B B) (((f1.grow (Grow.laid n) (f1.cells.laid n)).set i (r1.grow (Grow.laid n))).set j (r2.grow (Grow.laid n))) p1
end
end Rg
set_option Elab.async false
set_option linter.all false
set_option maxRecDepth 100000
namespace Rg
open PySem PySem.Spec
open PyProof.Rows L2
section
variable {X : Cx} {ρ : Ro} {cs : Cs} {e a b c elt iter : Expr} {es : List Expr} {P : PD} {PN : List D → Cs → Prop} {PT' : Bool → Cs → Prop} {E : En} {B : Nat} {pos p px py tp cpos kpos spos : Pos} {x y : Str} {scope : Scope} {body : List Stmt} {kt : Nat}

/-! ### slices of a list -/
def cutD (xs : List D) (lo hi : Option Int) : List D := (xs.drop (HT.sIx xs.length 0 lo)).take (HT.sIx xs.length xs.length hi - HT.sIx xs.length 0 lo)
theorem cut_rep {as hs H} {xs : List D} {vs : List V} (r : RepL as hs H xs vs) (lo hi : Option Int) : RepL as hs H (cutD xs lo hi) (cutV vs lo hi) := by
  unfold cutD cutV
  rw [r.length]
  exact (r.drop _).take _
def tDO (ρ : Ro) (cs : Cs) (P : Option Int → Cs → Prop) : TO := fun σ H Q => ∃ as hs, Fit as hs ρ cs σ H ∧ ∀ o H' as' cs', Grow as as' H H' → Cells as' hs cs' H' → P o cs' → Q o H'
def WO (X : Cx) (e : Option Expr) (ρ : Ro) (cs : Cs) (P : Option Int → Cs → Prop) : Prop := PO X e (tDO ρ cs P)
theorem po_imp {e : Option Expr} {t t' : TO} (h : PO X e t) (i : ∀ σ H Q, t' σ H Q → t σ H Q) : PO X e t' := ⟨fun pins s σ H Q I q => h.run pins s σ H Q I (i _ _ _ q)⟩
theorem po_any {e : Option Expr} {S : Ro → Cs → (Option Int → Cs → Prop) → Prop} (h : ∀ ρ cs P, S ρ cs P → WO X e ρ cs P) : PO X e fun σ H Q => ∃ ρ cs P, S ρ cs P ∧ tDO ρ cs P σ H Q :=
  ⟨fun pins s σ H Q I ⟨ρ, cs, P, hs, q⟩ => (h ρ cs P hs).run pins s σ H Q I q⟩
theorem wo_no {Po : Option Int → Cs → Prop} (h : Po none cs) : WO X none ρ cs Po := po_imp po_none fun σ H Q ⟨as, hs, f, q⟩ => q none H as cs (Grow.refl as H) f.cells h
theorem wo_so {Po : Option Int → Cs → Prop} (h : W X e ρ cs fun d cs1 => ∃ i, d = .int i ∧ Po (some i) cs1) : WO X (some e) ρ cs Po := po_imp (po_some h) fun σ H Q ⟨as, hs, f, q⟩ => sub1 f fun v H1 as1 d cs1 g1 f1 r1 ⟨i, ed, p1⟩ => by
  subst ed
  cases r1
  exact ⟨i, rfl, q _ H1 as1 cs1 g1 f1.cells p1⟩
theorem wn_slice {lo hi : Option Expr} {p2 : Pos} (h : W X e ρ cs fun d cs1 => WO X lo ρ cs1 fun l cs2 => WO X hi ρ cs2 fun u cs3 => ∃ xs, LstD cs3 d xs ∧ PN (cutD xs l u) cs3) : WN X (.Subscript e (.Slice lo hi none p2) pos) ρ cs PN := by
  refine wn_of (pe_slice sl_list h (po_any (S := WO X lo) fun _ _ _ z => z) (po_any (S := WO X hi) fun _ _ _ z => z)) fun as hs σ H Q f q => ?_
  refine sub1 f fun v H1 as1 d cs1 g1 f1 r1 p1 => ⟨ρ, cs1, _, p1, as1, hs, f1, fun l H2 as2 cs2 g2 c2 p2 => ⟨ρ, cs2, _, p2, as2, hs, f1.grow g2 c2, fun u H3 as3 cs3 g3 c3 ⟨xs, hl, p3⟩ => ?_⟩⟩
  obtain ⟨a, vs, rfl, hr, rl⟩ := hl.rep c3 ((r1.grow g2).grow g3)
  exact ⟨a, vs, rfl, .inl hr, fun p n => q p H3 as3 _ _ cs3 ((g1.trans g2).trans g3) c3 n (cut_rep rl l u) p3⟩

/-! ### a pair made by a walk, stored -/
abbrev gPair (K : PySem.W.Frag) (i j : Nat) : TG := gTup K 2 (gCons (gName i) (gCons (gName j) gNil))
theorem pair_go {K : PySem.W.Frag} {i j : Nat} {as hs : List Addr} {cs : Cs} {σ : L2.St} {H : Hp} {T : Addr} {v1 v2 : V} {d1 d2 : D} {Q : L2.St → Hp → Prop} (f : Fit as hs ρ cs σ H) (n : H T = none) (r1 : Rep as hs H d1 v1) (r2 : Rep as hs H d2 v2)
    (k : Grow as as H (upd H T (.tup [v1, v2])) → Fit as hs ((ρ.set i (some d1)).set j (some d2)) cs ((σ.set i (some v1)).set j (some v2)) (upd H T (.tup [v1, v2])) → Q ((σ.set i (some v1)).set j (some v2)) (upd H T (.tup [v1, v2]))) :
    gPair K i j (.ref T) σ (upd H T (.tup [v1, v2])) Q := by
  have g : Grow as as H (upd H T (.tup [v1, v2])) := Grow.laid n
  exact ⟨T, _, rfl, .inl (.inl upd_same), rfl, _, _, rfl, _, _, rfl, rfl, k g (((f.grow g (f.cells.laid n)).set i (r1.grow g)).set j (r2.grow g))⟩
theorem wipe2 {i j : Nat} {σ : L2.St} {u v : Option V} (h : i ≠ j) : wipe (((wipe σ [i, j]).set i u).set j v) [i, j] = wipe σ [i, j] := by
  show List.set (List.set (List.set (List.set (List.set (List.set σ j none) i none) i u) j v) j none) i none = List.set (List.set σ j none) i none
  rw [List.set_set, List.set_set, List.set_comm _ _ (Ne.symm h), List.set_set, List.set_comm _ _ h, List.set_set]

/-! ### zip -/
def LcZ (X : Cx) (elt : Expr) (i j : Nat) (scope : Scope) (T : Ro → Cs → (Bool → Cs → Prop) → Prop) (ρ : Ro) (cs1 : Cs) (ds : List D) (PN : List D → Cs → Prop) : Prop := ∃ (d1 d2 : D) (xs ys : List D) (I : Nat → List D → Cs → Prop), ds = [d1, d2] ∧ I 0 [] cs1 ∧
  (∀ k acc cs', I k acc cs' → LstD cs' d1 xs ∧ LstD cs' d2 ys ∧ acc.length < 100000) ∧
  (∀ k x y acc cs', xs[k]? = some x → ys[k]? = some y → I k acc cs' → T (((wipeD ρ [i, j]).set i (some x)).set j (some y)) cs' fun t cs2 => if t = true then Blk X scope fun Y => W Y elt (((wipeD ρ [i, j]).set i (some x)).set j (some y)) cs2 fun y cs3 => I (k + 1) (acc ++ [y]) cs3 else I (k + 1) acc cs2) ∧
  (∀ acc cs', I (min xs.length ys.length) acc cs' → PN acc cs')
theorem lcz_reads {i j : Nat} (hij : i ≠ j) {T : Ro → Cs → (Bool → Cs → Prop) → Prop} {as hs : List Addr} {σ : L2.St} {H0 : Hp} {Q : VK} (f : Fit as hs ρ cs σ H0) (q : FinN as hs H0 PN Q) :
    tLc (iZip X.K (tDA ρ cs fun ds cs1 => LcZ X elt i j scope T ρ cs1 ds PN)) (gPair X.K i j) (tTst T) (tElt X elt scope) [i, j] σ H0 Q := by
  refine subA f fun vs H1 as1 ds cs1 g1 f1 r1 ⟨d1, d2, xs, ys, I, ed, i0, hl, step, done⟩ => ?_
  subst ed
  cases r1 with
  | @cons _ _ v1 _ r1 t =>
    cases t with
    | @cons _ _ v2 _ r2 t =>
      cases t
      obtain ⟨h1, h2, _⟩ := hl 0 [] cs1 i0
      obtain ⟨a, us, ev, hr, rl⟩ := h1.rep f1.cells r1
      obtain ⟨b, ws, ew, hr', rl'⟩ := h2.rep f1.cells r2
      subst ev ew
      refine ⟨a, b, us, ws, rfl, .inl hr, .inl hr', lc_loop (n := min xs.length ys.length) I (fun k => match xs[k]?, ys[k]? with | some x, some y => ((wipeD ρ [i, j]).set i (some x)).set j (some y) | _, _ => ρ) f1 i0 ?_ ?_ (fun k acc cs' z => (hl k acc cs' z).2.2) ?_⟩
      · intro Dd nD k as' cs' acc H hk g f' ik
        obtain ⟨l1, l2, _⟩ := hl k acc cs' ik
        obtain ⟨a2, us2, e2, hr2, rl2⟩ := l1.rep f'.cells ((r1.hide nD).grow g)
        obtain ⟨b2, ws2, e3, hr3, rl3⟩ := l2.rep f'.cells ((r2.hide nD).grow g)
        cases e2; cases e3
        refine ⟨fun e => ⟨us2, ws2, .inl hr2, .inl hr3, by rw [← rl2.length, ← rl3.length, e]; omega⟩, fun hlt => ⟨⟨us2, ws2, us2[k]'(by rw [← rl2.length]; omega), ws2[k]'(by rw [← rl3.length]; omega), .inl hr2, .inl hr3, by simp, by simp⟩, fun v H' yy Q' kk => ?_⟩⟩
        obtain ⟨Tt, v1, v2, rfl, nT, rfl, y1, y2⟩ := yy
        obtain ⟨x', hx', rx'⟩ := rl2.get' (y1 us2 (.inl hr2))
        obtain ⟨y', hy', ry'⟩ := rl3.get' (y2 ws2 (.inl hr3))
        refine pair_go f' nT rx' ry' fun gg ff => kk _ _ (wipe2 hij) gg ?_
        rw [hx', hy']; exact ff
      · intro k acc cs' as' hs' σ2 H2 Q' Qn hlt ik f2 k1 k2
        have hx : xs[k]? = some (xs[k]'(by omega)) := List.getElem?_eq_getElem (by omega)
        have hy : ys[k]? = some (ys[k]'(by omega)) := List.getElem?_eq_getElem (by omega)
        rw [hx, hy] at f2
        refine ⟨_, cs', _, step k _ _ acc cs' hx hy ik, as', hs', f2, fun b H3 as3 cs3 g3 c3 p3 => ?_⟩
        cases b with
        | true =>
          rw [if_pos rfl] at p3 ⊢
          exact ⟨_, cs3, _, p3, as3, hs', f2.grow g3 c3, fun y H4 as4 d4 cs4 g4 c4 r4 p4 => k1 y H4 as4 d4 cs4 (g3.trans g4) c4 r4 p4⟩
        | false =>
          rw [if_neg Bool.false_ne_true] at p3 ⊢
          exact k2 H3 as3 cs3 g3 c3 p3
      · intro p H1' as' ds vs cs' g c n r hp
        exact q p H1' as' ds vs cs' (g1.trans g) c n r (done ds cs' hp)
abbrev PgP (X : Cx) (scope : Scope) (x y : Str) (px py tp : Pos) (kt i j : Nat) : Prop := ∀ (s : Shared) (H : Hp) (C : Addr) (cl : List (Str × Addr)) (fp : List Addr), PG (X.blk s H scope (compEnvC scope cl C X.env) fp) (.Tuple [.Name x px, .Name y py] kt tp) (gPair X.K i j)
/-- [elt for x, y in zip(a, b)] -/
theorem wn_lz (i j : Nat) (hij : i ≠ j) (hc : X.calm = true) (hN : X.N.Nodup) (hm : X.mg "zip" = none) (ok : BlkOk X.N X.env.scope scope [(x, i), (y, j)]) (hg : PgP X scope x y px py tp kt i j) (h : WA X [a, b] ρ cs fun ds cs1 => LcZ X elt i j scope TNo ρ cs1 ds PN)
    (hgl : Gl X "zip" := by rfl) (hse : starEach [a, b] X.env = (false, eval a X.env) :: starEach [b] X.env := by rfl) (hpl : (backTo kpos (starEach [b] X.env)).any (fun x => x.1) = false := by rfl) (hs : ∀ x, foldedSetIterable (.Call (.Name "zip" cpos) [a, b] [] kpos) X.env x = pure x := by intro _; rfl) : WN X (.ListComp elt [⟨.Tuple [.Name x px, .Name y py] kt tp, .Call (.Name "zip" cpos) [a, b] [] kpos, [], 0⟩] scope pos) ρ cs PN :=
  wn_of (pe_lc hc hN (pi_zip hgl hm h (hs := hse) (hpl := hpl)) ok hg (fun s H C cl fp => pts_no) pe_elt hs) fun as hs σ H Q f q => lcz_reads hij f q

/-! ### enumerate -/
theorem ws_forE {hp : PassesOwn (model X.prog X.w) X.A X.env X.xe} (i j : Nat) (hc : X.calm = true) (hN : X.N.Nodup) (hm : X.mg "enumerate" = none) (h : WA X [e] ρ cs fun ds cs1 => ∃ (d : D) (xs : List D) (I : Nat → Ro → Cs → Prop), ds = [d] ∧ I 0 ρ cs1 ∧ (∀ k ρ' cs', I k ρ' cs' → LstD cs' d xs) ∧
      (∀ k x ρ' cs', xs[k]? = some x → I k ρ' cs' → WSs X cs1.length body { nx := I (k + 1), rt := E.rt, bk := E.nx, ct := I (k + 1) } ((ρ'.set i (some (.int (k : Nat)))).set j (some x)) cs') ∧ (∀ ρ' cs', I xs.length ρ' cs' → E.nx ρ' cs'))
    (hg : PG X (.Tuple [.Name x px, .Name y py] kt tp) (gPair X.K i j)) (hgl : Gl X "enumerate" := by rfl) (hse : starEach [e] X.env = [(false, eval e X.env)] := by rfl)
    (hs : ∀ x, foldedSetIterable (.Call (.Name "enumerate" cpos) [e] [] kpos) X.env x = pure x := by intro _; rfl) : WS X B (.For (.Tuple [.Name x px, .Name y py] kt tp) (.Call (.Name "enumerate" cpos) [e] [] kpos) body [] pos) E ρ cs := by
  refine ws_of (ps_for hp hc (pi_enum hgl hm h hse) hg (⟨fun pins s σ H DD I ⟨B', z⟩ => (pss_any (B := B') (S := WSs X B' body) fun _ _ _ z => z).run pins s σ H DD I z⟩ : PSs X body fun DD σ H => ∃ B', tAnyS B' (WSs X B' body) DD σ H) hs) fun as hs σ H DD hB f q => ?_
  refine subA f fun vs H1 as1 ds cs1 g1 f1 r1 ⟨d, xs, I, ed, i0, hl, step, done⟩ => ?_
  subst ed
  cases r1 with
  | @cons _ _ v1 _ r1 t =>
    cases t
    obtain ⟨a, us, ev, hr, rl⟩ := (hl 0 ρ cs1 i0).rep f1.cells r1
    subst ev
    refine ⟨a, us, rfl, .inl hr, fun k m σ' H' => m = xs.length - k ∧ k ≤ xs.length ∧ ∃ as' ρ' cs', Grow as1 as' H1 H' ∧ Fit as' hs ρ' cs' σ' H' ∧ I k ρ' cs', ⟨xs.length, by simp, Nat.zero_le _, as1, ρ, cs1, Grow.refl as1 H1, f1, i0⟩, ?_⟩
    rintro k m σ' H' ⟨rfl, hk, as', ρ', cs', g, f', ik⟩
    obtain ⟨a2, vs2, e2, hr2, rl2⟩ := (hl k ρ' cs' ik).rep f'.cells (r1.grow g)
    cases e2
    by_cases hlt : k < xs.length
    · have hlv : k < vs2.length := by rw [← rl2.length]; exact hlt
      refine .inr ⟨⟨vs2, vs2[k], .inl hr2, by simp [hlv]⟩, fun σ'' H'' => ∃ as'' ρ'' cs'', Grow as1 as'' H1 H'' ∧ Fit as'' hs ρ'' cs'' σ'' H'' ∧ I (k + 1) ρ'' cs'', fun σ'' H'' z => ⟨xs.length - (k + 1), by omega, rfl, hlt, z⟩, fun v H'' yy => ?_⟩
      obtain ⟨Tt, x1, rfl, nT, rfl, yy⟩ := yy
      obtain ⟨x', hx', rx'⟩ := rl2.get' (yy vs2 (.inl hr2))
      have hle : cs1.length ≤ as'.length := by
        obtain ⟨mm, e⟩ := g.ext
        rw [f1.cells.len, e, List.length_append]; omega
      refine pair_go (d1 := .int (k : Nat)) (d2 := x') f' nT .int rx' fun gg ff => ⟨cs1.length, _, _, _, step k x' ρ' cs' hx' ik, ?_⟩
      have ex : ∀ {as'' H3}, GrowB cs1.length as' as'' (upd H' Tt (.tup [.int (k : Nat), x1])) H3 → Grow as1 as'' H1 H3 := fun {as'' H3} g' => by
        have t := ((g.trans gg).B cs1.length).trans g' (by rw [f1.cells.len]; exact Nat.le_refl _)
        rw [f1.cells.len] at t
        exact t.grow
      have nxt : ∀ σ'' H3 as'' ρ'' cs'', GrowB cs1.length as' as'' (upd H' Tt (.tup [.int (k : Nat), x1])) H3 → Fit as'' hs ρ'' cs'' σ'' H3 → I (k + 1) ρ'' cs'' → ∃ as' ρ' cs', Grow as1 as' H1 H3 ∧ Fit as' hs ρ' cs' σ'' H3 ∧ I (k + 1) ρ' cs' := fun σ'' H3 as'' ρ'' cs'' g' f'' i'' => ⟨as'', ρ'', cs'', ex g', f'', i''⟩
      exact tS_mk (le_cs ff hle) ff ⟨nxt, fun v H3 as'' d' cs'' g' c' r' p' => q.rt v H3 as'' d' cs'' ((g1.trans (ex g')).B B) c' r' p', fun σ'' H3 as'' ρ'' cs'' g' f'' p' => q.nx σ'' H3 as'' ρ'' cs'' ((g1.trans (ex g')).B B) f'' p', nxt⟩
    · have e : k = xs.length := by omega
      subst e
      exact .inl ⟨⟨vs2, .inl hr2, by rw [← rl2.length]; exact Nat.le_refl _⟩, q.nx _ _ as' ρ' cs' ((g1.trans g).B B) f' (done ρ' cs' ik)⟩

/-! ### two clauses -/
def LcLL (X : Cx) (elt iter1 : Expr) (i j : Nat) (scope : Scope) (ρ : Ro) (cs1 : Cs) (d : D) (PN : List D → Cs → Prop) : Prop := ∃ (xs : List D) (I : Nat → List D → Cs → Prop), I 0 [] cs1 ∧ (∀ k acc cs', I k acc cs' → LstD cs' d xs) ∧
  (∀ k x acc cs', xs[k]? = some x → I k acc cs' → Blk X scope fun Y => W Y iter1 ((wipeD ρ [i, j]).set i (some x)) cs' fun d1 cs2 => ∃ (ys : List D) (I1 : Nat → List D → Cs → Prop), I1 0 acc cs2 ∧ (∀ l acc2 cs3, I1 l acc2 cs3 → LstD cs3 d1 ys ∧ acc2.length < 100000) ∧
    (∀ l y acc2 cs3, ys[l]? = some y → I1 l acc2 cs3 → Blk X scope fun Y => W Y elt ((wipeD ((wipeD ρ [i, j]).set i (some x)) [j]).set j (some y)) cs3 fun e cs4 => I1 (l + 1) (acc2 ++ [e]) cs4) ∧ (∀ acc2 cs3, I1 ys.length acc2 cs3 → I (k + 1) acc2 cs3)) ∧
  (∀ acc cs', I xs.length acc cs' → PN acc cs')
theorem lcll_reads {iter1 : Expr} {i j : Nat} (hij : i ≠ j) {as hs : List Addr} {σ : L2.St} {H0 : Hp} {Q : VK} (f : Fit as hs ρ cs σ H0) (q : FinN as hs H0 PN Q) :
    tLc2 (iList X.K (tD ρ cs fun d cs1 => LcLL X elt iter1 i j scope ρ cs1 d PN)) (gName i) (tTst TNo) (iList X.K (tElt X iter1 scope)) (gName j) (tTst TNo) (tElt X elt scope) [i, j] [j] σ H0 Q := by
  refine sub1 f fun v H1 as1 d cs1 g1 f1 r1 ⟨xs, I, i0, hl, step, done⟩ => ?_
  obtain ⟨a, vs, ev, hr, rl⟩ := (hl 0 [] cs1 i0).rep f1.cells r1
  subst ev
  refine ⟨a, rfl, ⟨vs, .inl hr⟩, fun Dd nD => ?_⟩
  have fresh := f1.cells.fresh nD
  let S : (List D → Cs → Prop) → Hp → Prop := fun J H => ∃ as' cs' acc us, Grow as1 as' H1 H ∧ Cells as' (Dd :: hs) cs' H ∧ H Dd = some (.lst us) ∧ RepL as' (Dd :: hs) H acc us ∧ J acc cs'
  have slots : ∀ {as' : List Addr} {cs' : Cs} {H : Hp}, Grow as1 as' H1 H → Cells as' (Dd :: hs) cs' H → Fit as' (Dd :: hs) (wipeD ρ [i, j]) cs' (wipe σ [i, j]) H := fun {as' cs' H} g c => Fit.wipe ⟨c, f1.slen, fun l d e => by
    obtain ⟨v, h, r⟩ := f1.slot l d e
    exact ⟨v, h, (r.hide nD).grow g⟩⟩ [i, j]
  have keepD : ∀ {asx asy : List Addr} {Hx Hy : Hp} {csx : Cs} {u : List V}, Cells asx (Dd :: hs) csx Hx → Grow asx asy Hx Hy → Hx Dd = some (.lst u) → Hy Dd = some (.lst u) := fun c g h => g.keep _ _ (c.hid Dd List.mem_cons_self).1 h
  refine ⟨fun k m H => m = xs.length - k ∧ k ≤ xs.length ∧ S (I k) H, ⟨xs.length, by simp, Nat.zero_le _, as1, cs1, [], [], Grow.laid nD, f1.cells.hide nD, upd_same, .nil, i0⟩, ?_⟩
  rintro k m H ⟨rfl, hk, as', cs', acc, us, g, c', hD, ra, ik⟩
  obtain ⟨a2, vs2, e2, hr2, rl2⟩ := (hl k acc cs' ik).rep c' ((r1.hide nD).grow g)
  cases e2
  by_cases hlt : k < xs.length
  · refine .inr ⟨⟨vs2, vs2[k]'(by rw [← rl2.length]; exact hlt), .inl hr2, by simp⟩, S (I (k + 1)), fun H' z => ⟨xs.length - (k + 1), by omega, rfl, hlt, z⟩, fun v1 H' yy => ?_⟩
    obtain ⟨e3, yy⟩ := yy
    subst e3
    obtain ⟨x', hx', rx'⟩ := rl2.get' (yy vs2 (.inl hr2))
    have fw := (slots g c').set i rx'
    refine ⟨?_, _, cs', _, (show TNo ((wipeD ρ [i, j]).set i (some x')) cs' (fun b cs2 => b = true ∧ cs2 = cs') from ⟨rfl, rfl⟩), as', Dd :: hs, fw, fun b H3 as3 cs3 g3 c3 ⟨eb, ec⟩ => ?_⟩
    · show List.set (List.set (List.set (List.set (List.set σ j none) i none) i (some v1)) j none) i none = List.set (List.set σ j none) i none
      rw [List.set_set, List.set_comm _ _ hij, List.set_set, List.set_set]
    subst eb
    subst ec
    rw [if_pos rfl]
    have ft := fw.grow g3 c3
    have hD3 := keepD c' g3 hD
    have ra3 := ra.grow g3
    refine ⟨_, cs3, _, step k x' acc cs3 hx' ik, sub1 ft fun v2 H4 as4 d4 cs4 g4 f4 r4 ⟨ys, I1, i10, hl1, step1, done1⟩ => ?_⟩
    obtain ⟨a5, vs5, e5, hr5, rl5⟩ := (hl1 0 acc cs4 i10).1.rep f4.cells r4
    subst e5
    have hD4 := keepD ft.cells g4 hD3
    refine ⟨a5, rfl, ⟨vs5, .inl hr5⟩, fun l m H => m = ys.length - l ∧ l ≤ ys.length ∧ ∃ as' cs' acc us, Grow as4 as' (hole H4 Dd) (hole H Dd) ∧ Cells as' (Dd :: hs) cs' H ∧ H Dd = some (.lst us) ∧ RepL as' (Dd :: hs) H acc us ∧ I1 l acc cs', ⟨ys.length, by simp, Nat.zero_le _, as4, cs4, acc, us, Grow.refl _ _, f4.cells, hD4, ra3.grow g4, i10⟩, ?_⟩
    rintro l m H6 ⟨rfl, hll, as6, cs6, acc6, us6, g6, c6, hD6, ra6, il⟩
    -- what stands around, at H6
    have up : ∀ {d' : D} {v' : V}, Rep as4 (Dd :: hs) H4 d' v' → Rep as6 (Dd :: hs) H6 d' v' := fun {d' v'} r => by
      have h1 : Rep as6 hs (hole H6 Dd) d' v' := r.hole.grow g6
      have h2 := h1.hide (p := Dd) hole_at
      exact h2.mut (H' := H6) fun b _ m => (hole_ne fun e => m (by rw [e]; exact List.mem_cons_self)).symm
    have f6 : Fit as6 (Dd :: hs) ((wipeD ρ [i, j]).set i (some x')) cs6 ((wipe σ [i, j]).set i (some v1)) H6 := ⟨c6, f4.slen, fun l d e => by
      obtain ⟨v, h, r⟩ := f4.slot l d e
      exact ⟨v, h, up r⟩⟩
    obtain ⟨a7, vs7, e7, hr7, rl7⟩ := (hl1 l acc6 cs6 il).1.rep c6 (up r4)
    cases e7
    by_cases hlt2 : l < ys.length
    · refine .inr ⟨⟨vs7, vs7[l]'(by rw [← rl7.length]; exact hlt2), .inl hr7, by simp⟩, fun H' => ∃ as' cs' acc us, Grow as4 as' (hole H4 Dd) (hole H' Dd) ∧ Cells as' (Dd :: hs) cs' H' ∧ H' Dd = some (.lst us) ∧ RepL as' (Dd :: hs) H' acc us ∧ I1 (l + 1) acc cs', fun H' z => ⟨ys.length - (l + 1), by omega, rfl, hlt2, z⟩, fun v8 H8 yy8 => ?_⟩
      obtain ⟨e8, yy8⟩ := yy8
      subst e8
      obtain ⟨y', hy', ry'⟩ := rl7.get' (yy8 vs7 (.inl hr7))
      have f8 := (f6.wipe [j]).set j ry'
      refine ⟨?_, _, cs6, _, (show TNo ((wipeD ((wipeD ρ [i, j]).set i (some x')) [j]).set j (some y')) cs6 (fun b cs2 => b = true ∧ cs2 = cs6) from ⟨rfl, rfl⟩), as6, Dd :: hs, f8, fun b H9 as9 cs9 g9 c9 ⟨eb, ec⟩ => ?_⟩
      · show List.set (List.set (List.set _ j none) j (some v8)) j none = List.set _ j none
        rw [List.set_set, List.set_set]
      subst eb
      subst ec
      rw [if_pos rfl]
      refine ⟨_, cs9, _, step1 l y' acc6 cs9 hy' il, sub1 (f8.grow g9 c9) fun v10 H10 as10 d10 cs10 g10 f10 r10 i10' => ?_⟩
      have hDx := keepD c9 g10 (keepD c6 g9 hD6)
      have rax := (ra6.grow g9).grow g10
      have mutD : ∀ b, b ∉ as10 → b ∉ Dd :: hs → upd H10 Dd (.lst (us6 ++ [v10])) b = H10 b := fun b _ m => upd_ne fun e => m (by rw [e]; exact List.mem_cons_self)
      have gg := g9.trans g10
      have hg : Grow as6 as10 (hole H8 Dd) (hole (upd H10 Dd (.lst (us6 ++ [v10]))) Dd) := ⟨gg.ext, fun b hb nb => by
        by_cases e : b = Dd
        · rw [e]; exact hole_at
        · rw [hole_ne e]; exact gg.new b hb nb, fun b o nb hb => by
        by_cases e : b = Dd
        · rw [e, hole_at] at hb; cases hb
        · rw [hole_ne e] at hb ⊢
          rw [upd_ne e]; exact gg.keep b o nb hb⟩
      exact ⟨us6, hDx, by rw [← rax.length]; exact sz_lt (hl1 l acc6 cs9 il).2, as10, cs10, acc6 ++ [d10], us6 ++ [v10], g6.trans hg, f10.cells.dmut List.mem_cons_self, upd_same, (rax.append (.cons r10 .nil)).mut mutD, i10'⟩
    · have e : l = ys.length := by omega
      subst e
      have gh := (g.trans g3).trans g4
      have g7 : Grow as1 as6 H1 H6 := by
        have h1 : Grow as1 as4 H1 (hole H4 Dd) := ⟨gh.ext, gh.new, fun b o nb hb => (hole_ne (ne_of_none hb nD)).trans (gh.keep b o nb hb)⟩
        have h2 := h1.trans g6
        exact ⟨h2.ext, h2.new, fun b o nb hb => by
          have := h2.keep b o nb hb
          rw [hole_ne (ne_of_none hb nD)] at this
          exact this⟩
      exact .inl ⟨⟨vs7, .inl hr7, by rw [← rl7.length]; exact Nat.le_refl _⟩, as6, cs6, acc6, us6, g7, c6, hD6, ra6, done1 acc6 cs6 il⟩
  · have e : k = xs.length := by omega
    subst e
    refine .inl ⟨⟨vs2, .inl hr2, by rw [← rl2.length]; exact Nat.le_refl _⟩, ?_⟩
    have q := q Dd (hole H Dd) as' acc us cs' (g1.trans ⟨g.ext, g.new, fun a o na ha => (hole_ne (ne_of_none ha nD)).trans (g.keep a o na ha)⟩) (c'.hole fresh.2) hole_at ra.hole (done acc cs' ik)
    rw [hole_upd hD] at q
    exact q
theorem wn_lc2 {iter1 : Expr} (i j : Nat) (hij : i ≠ j) (hc : X.calm = true) (hN : X.N.Nodup) (ok : BlkOk X.N X.env.scope scope [(x, i), (y, j)]) (hg : PgB X scope x px i) (hg1 : PgB X scope y py j) (h : W X iter ρ cs fun d cs1 => LcLL X elt iter1 i j scope ρ cs1 d PN)
    (hs : ∀ x, foldedSetIterable iter X.env x = pure x := by intro _; rfl) (hs1 : ∀ env x, foldedSetIterable iter1 env x = pure x := by intro _ _; rfl) :
    WN X (.ListComp elt [⟨.Name x px, iter, [], 0⟩, ⟨.Name y py, iter1, [], 0⟩] scope pos) ρ cs PN :=
  wn_of (pe_lc2 (vs1 := [j]) hc hN (pi_list h) ok (by simp) hg (fun s H C cl fp => pts_no) (fun s H C cl fp => pi_list (pe_elt s H C cl fp)) hg1 (fun s H C cl fp => pts_no) pe_elt hs hs1) fun as hs σ H Q f q => lcll_reads hij f q

/-! ### list(range(..)) -/
def rgD (a b : Int) : List Int := (List.range (b - a).toNat).map fun i : Nat => a + (i : Int)
theorem rgV_eq (a b : Int) : rgV a b = (rgD a b).map V.int := by unfold rgV rgD; rw [List.map_map]; rfl
theorem wn_listR (hc : X.calm = true) (hm : X.mg "list" = none) (hm2 : X.mg "range" = none) (h : W X a ρ cs fun d cs1 => ∃ n : Int, d = .int n ∧ n ≤ 100000 ∧ 0 ≤ n ∧ PN ((rgD 0 n).map .int) cs1) (hg : Gl X "list" := by rfl) (hg2 : Gl X "range" := by rfl)
    (na2 : starEach [a] X.env = (false, eval a X.env) :: starEach [] X.env := by rfl) (na : starEach [.Call (.Name "range" p) [a] [] cpos] X.env = (false, eval (.Call (.Name "range" p) [a] [] cpos) X.env) :: starEach [] X.env := by rfl) :
    WN X (.Call (.Name "list" kpos) [.Call (.Name "range" p) [a] [] cpos] [] pos) ρ cs PN := by
  refine wn_of (pe_listRg hc hg hm (prg_1 hg2 hm2 h na2) na) fun as hs σ H Q f q => sub1 f fun v H1 as1 d cs1 g1 f1 r1 ⟨n, ed, h1, h2, hp⟩ => ?_
  subst ed
  cases r1
  refine ⟨n, rfl, RgOk.of_le (by omega) (by omega) (by omega) h2, fun pp hn => ?_⟩
  rw [rgV_eq]
  exact q pp H1 as1 _ _ cs1 g1 f1.cells hn (repL_ints _) hp
theorem wn_listR2 (hc : X.calm = true) (hm : X.mg "list" = none) (hm2 : X.mg "range" = none) (h : W X a ρ cs fun d cs1 => W X b ρ cs1 fun d2 cs2 => ∃ i n : Int, d = .int i ∧ d2 = .int n ∧ 0 ≤ i ∧ i ≤ 100000 ∧ n ≤ 100000 ∧ 0 ≤ n ∧ PN ((rgD i n).map .int) cs2) (hg : Gl X "list" := by rfl) (hg2 : Gl X "range" := by rfl)
    (na2 : starEach [a, b] X.env = (false, eval a X.env) :: starEach [b] X.env := by rfl) (nb2 : starEach [b] X.env = (false, eval b X.env) :: starEach [] X.env := by rfl) (hp2 : (backTo cpos (starEach [b] X.env)).any (fun x => x.1) = false := by rfl)
    (na : starEach [.Call (.Name "range" p) [a, b] [] cpos] X.env = (false, eval (.Call (.Name "range" p) [a, b] [] cpos) X.env) :: starEach [] X.env := by rfl) :
    WN X (.Call (.Name "list" kpos) [.Call (.Name "range" p) [a, b] [] cpos] [] pos) ρ cs PN := by
  refine wn_of (pe_listRg hc hg hm (prg_2 hg2 hm2 h (pe_any (S := W X b) fun _ _ _ z => z) na2 nb2 hp2) na) fun as hs σ H Q f q => sub1 f fun v H1 as1 d cs1 g1 f1 r1 p1 => ⟨ρ, cs1, _, p1, sub1 f1 fun v2 H2 as2 d2 cs2 g2 f2 r2 ⟨i, n, e1, e2, h1, h2, h3, h4, hp⟩ => ?_⟩
  subst e1 e2
  cases r1; cases r2
  refine ⟨i, n, rfl, rfl, RgOk.of_le h1 (by omega) (by omega) h4, fun pp hn => ?_⟩
  rw [rgV_eq]
  exact q pp H2 as2 _ _ cs2 (g1.trans g2) f2.cells hn (repL_ints _) hp

/-! ### xs * k -/
theorem on_rep : OpN rRep fun d1 d2 cs P => ∃ xs, ∃ k : Int, TrkD cs d1 xs ∧ d2 = .int k ∧ -1000 ≤ k ∧ k ≤ 100000 ∧ xs.length * k.toNat ≤ 100000 ∧ P (List.replicate k.toNat xs).flatten cs := by
  rintro as hs H x y d1 d2 cs P Q c r1 r2 ⟨xs, k, h1, rfl, hk1, hk2, hz, p⟩ q
  obtain ⟨a, vs, rfl, e1, l1⟩ := h1.rep c r1
  cases r2
  exact ⟨a, k, vs, rfl, rfl, e1, by omega, by omega, by rw [← l1.length]; exact sz_of hz, fun w n => q w H as _ _ cs (Grow.refl as H) c n (l1.rep _) p⟩
theorem wn_rep (h : W X a ρ cs fun d1 cs1 => W X b ρ cs1 fun d2 cs2 => ∃ xs, ∃ k : Int, TrkD cs2 d1 xs ∧ d2 = .int k ∧ -1000 ≤ k ∧ k ≤ 100000 ∧ xs.length * k.toNat ≤ 100000 ∧ PN (List.replicate k.toNat xs).flatten cs2) : WN X (.BinOp a .Mult b pos) ρ cs PN :=
  wn_op op_rep on_rep h
end
end Rg
set_option Elab.async false
set_option linter.all false
set_option maxRecDepth 100000
namespace Rg
open PySem PySem.Spec
open PyProof.Rows L2
/-- a list or a tuple -/
def dRef : D → Bool
  | .lst _ => true | .tup _ => true | .own _ => true | _ => false
section
variable {X : Cx} {ρ : Ro} {cs : Cs} {e a b : Expr} {P : PD} {PT' : Bool → Cs → Prop} {pos p : Pos}
/-! ### repr of lists -/
def rReprD (K : PySem.W.Frag) : List V → Hp → VK → Prop := fun xs H Q => ∃ (a : Addr) (d : PyData), xs = [.ref a] ∧ Dp K H (.ref a) d ∧ d.showable = true ∧ d.hasDict = false ∧ d.depth ≤ 60 ∧ d.shown.length ≤ sizeLine ∧ Q (.str d.shown) H
theorem call_reprD (hg : X.A.guards = some []) (hu : X.A.units + 64 < cLine) : CallR X (.builtin "repr") (rReprD X.K) := by
  intro pins s σ H xs us Q I0 r h
  obtain ⟨a, d, rfl, hd, hs, hn, hdep, hz, q⟩ := h
  rw [Vals.ref1 r]
  obtain ⟨as, rd⟩ := Dp.reads I0 d (.ref a) (.ref a) hd rfl
  refine repr_of_reads' (h₀ := s.heap) rd hs (fun z => by rw [hn] at z; cases z) hg (by omega) (fun _ _ e => e) (fun h' u tk hk => ?_) hz
  exact ⟨.str d.shown, H, I0.kept (t' := tk) hk, ⟨u, rfl⟩, q⟩
theorem w_repr (hg : X.A.guards = some []) (hu : X.A.units + 64 < cLine) (hm : X.mg "repr" = none) (h : WA X [e] ρ cs fun ds cs1 => ∃ d p, ds = [d] ∧ dRef d = true ∧ ToPy cs1 d p ∧ p.showable = true ∧ p.hasDict = false ∧ p.depth ≤ 60 ∧ p.shown.length ≤ sizeLine ∧ P (.str p.shown) cs1)
    (hgl : Gl X "repr" := by rfl) (he : starEach [e] X.env = (false, eval e X.env) :: starEach [] X.env := by rfl) : W X (.Call (.Name "repr" p) [e] [] pos) ρ cs P := by
  refine w_bi (g := fun ds cs1 P => ∃ d p, ds = [d] ∧ dRef d = true ∧ ToPy cs1 d p ∧ p.showable = true ∧ p.hasDict = false ∧ p.depth ≤ 60 ∧ p.shown.length ≤ sizeLine ∧ P (.str p.shown) cs1) (call_reprD hg hu) ?_ hm (by decide +kernel) h hgl (he := he)
  rintro as hs H vs ds cs P Q c r ⟨d, p, rfl, hr, hp, h1, h2, h3, h4, hq⟩ q
  cases r with
  | @cons _ _ v _ r t =>
    cases t
    have hd := hp.dp (K := X.K) c r
    obtain ⟨a, rfl⟩ : ∃ a, v = .ref a := by cases r <;> first | exact ⟨_, rfl⟩ | (simp [dRef] at hr)
    exact ⟨a, p, rfl, hd, h1, h2, h3, h4, q _ _ _ _ _ (Grow.refl as H) c .str hq⟩

/-! ### isinstance with two classes -/
theorem w_isiT {n1 n2 : String} (hm : X.mg "isinstance" = none) (h : WA X [a, b] ρ cs fun ds cs1 => ∃ d n1 n2 t k1 k2, ds = [d, .tup [.ty n1, .ty n2]] ∧ TyD d t ∧ kitB t n1 = some k1 ∧ kitB t n2 = some k2 ∧ P (.bl (k1 || k2)) cs1) (hg : Gl X "isinstance" := by rfl)
    (he : starEach [a, b] X.env = (false, eval a X.env) :: starEach [b] X.env := by rfl) (hpl : (backTo pos (starEach [b] X.env)).any (·.1) = false := by rfl) : W X (.Call (.Name "isinstance" p) [a, b] [] pos) ρ cs P := by
  refine w_bi (g := fun ds cs1 P => ∃ d n1 n2 t k1 k2, ds = [d, .tup [.ty n1, .ty n2]] ∧ TyD d t ∧ kitB t n1 = some k1 ∧ kitB t n2 = some k2 ∧ P (.bl (k1 || k2)) cs1) call_isiT ?_ hm (by decide +kernel) h hg (he := he) (hpl := hpl)
  rintro as hs H vs ds cs P Q c r ⟨d, n1, n2, t, k1, k2, rfl, ht, h1, h2, hp⟩ q
  cases r with
  | cons r tl =>
    cases tl with
    | cons r' tl =>
      cases tl
      cases r' with
      | tup na nh hT rl =>
        cases rl with
        | cons q1 rl =>
          cases rl with
          | cons q2 rl =>
            cases rl
            cases q1; cases q2
            refine ⟨_, _, _, .type t, [.type n1, .type n2], k1 || k2, rfl, hT, .cons (.ty _) (.cons (.ty _) .nil), ht.tyx c r, ?_, q _ _ _ _ _ (Grow.refl as H) c .bl hp⟩
            refine kitAny_cons (kit_ty h1) (fun e => ?_) (fun e => by rw [e]; rfl)
            refine kitAny_cons (kit_ty h2) (fun e2 => by rw [e, e2]; exact kitAny_nil) (fun e2 => by rw [e, e2]; rfl)
end
/-! ### small things -/
section
variable {X : Cx} {ρ : Ro} {cs : Cs} {e a b o : Expr} {P : PD} {PT' : Bool → Cs → Prop} {pos p pos' apos cpos : Pos}
theorem wt_isN {j : Nat} (h : W X a ρ cs fun d cs1 => ∃ k, (k = true ↔ d = .non) ∧ PT' k cs1) : WT X (.Compare a [.Is] [.Constant .none j pos'] pos) ρ cs PT' :=
  wt_of (pt_cmp (pc_isN h)) fun as hs σ H Q f q => sub1 f fun v H1 as1 d cs1 g1 f1 r1 ⟨k, hk, p1⟩ => by
    have e : decide (v = V.non) = k := by
      cases r1 <;> cases k <;> simp_all
    exact ⟨k, by rw [e], q k H1 as1 cs1 g1 f1.cells p1⟩
theorem eqd_bl {cs : Cs} {x y : Bool} : EqD cs (.bl x) (.bl y) (x == y) := ⟨_, _, .bl, .bl, rfl, rfl, rfl⟩
theorem w_extend (h : W X o ρ cs fun d cs1 => ∃ k, d = .own k ∧ WA X [e] ρ cs1 fun ds cs2 => ∃ xs, cs2[k]? = some xs ∧ ∃ y ys, ds = [y] ∧ TrkD cs2 y ys ∧ xs.length + ys.length ≤ 100000 ∧ P .non (cs2.set k (xs ++ ys)))
    (hbase : attributeBase o "extend" X.env (eval o X.env) = eval o X.env := by rfl) (hfew : ((backTo cpos (starEach [e] X.env)).all (fun x => !x.1) && (backToKw cpos (keywordEach [] X.env)).all (fun x => x.1.isSome) && decide (([e] : List Expr).length + ([] : List Keyword).length + (if ([] : List Keyword).isEmpty then 0 else 1) < 30)) = true := by rfl)
    (hline : (apos.endLine == cpos.line) = true := by rfl) (hs : starEach [e] X.env = (false, eval e X.env) :: starEach [] X.env := by rfl) :
    W X (.Call (.Attribute o "extend" apos) [e] [] cpos) ρ cs P := by
  refine w_me (g := fun xs ds cs2 P => ∃ y ys, ds = [y] ∧ TrkD cs2 y ys ∧ xs.length + ys.length ≤ 100000 ∧ P .non (xs ++ ys)) PySem.F.plainAttrs_list PySem.F.slot_list_extend PySem.F.type_list_extend mt_extend ?_ h hbase hfew hline hs
  rintro as hs H k a ds vs cs xs P Q c ea hx r ⟨y, ys, rfl, hy, hz, hp⟩ q
  obtain ⟨us, h1, h2⟩ := cell_of c ea hx
  cases r with
  | cons ry t =>
    cases t
    obtain ⟨b, ws, rfl, e2, l2⟩ := hy.rep c ry
    exact ⟨a, b, us, ws, rfl, rfl, h1, e2, by rw [← h2.length, ← l2.length]; exact sz_of hz, q _ _ .non _ .non (h2.append l2) hp⟩
theorem w_reverse (h : W X o ρ cs fun d cs1 => ∃ k xs, d = .own k ∧ cs1[k]? = some xs ∧ P .non (cs1.set k xs.reverse))
    (hbase : attributeBase o "reverse" X.env (eval o X.env) = eval o X.env := by rfl) (hline : (apos.endLine == cpos.line) = true := by rfl) : W X (.Call (.Attribute o "reverse" apos) [] [] cpos) ρ cs P := by
  refine w_me0 (g := fun xs ds cs2 P => ds = [] ∧ P .non xs.reverse) PySem.F.plainAttrs_list PySem.F.slot_list_reverse PySem.F.type_list_reverse mt_reverse ?_ (h.mono fun _ _ ⟨k, xs, e1, e2, r⟩ => ⟨k, xs, e1, e2, rfl, r⟩) hbase hline
  rintro as hs H k a ds vs cs xs P Q c ea hx r ⟨rfl, hp⟩ q
  obtain ⟨us, h1, h2⟩ := cell_of c ea hx
  cases r
  exact ⟨a, us, rfl, rfl, h1, q _ _ .non _ .non h2.reverse hp⟩
end
/-! ### what is shown: rows of small ints -/
abbrev pyInts (r : List Int) : PyData := .list (r.map PyData.int)
abbrev pyRows (rows : List (List Int)) : PyData := .list (rows.map pyInts)
structure Nice (m w : Nat) (p : PyData) : Prop where
  show_ : p.showable = true
  nodict : p.hasDict = false
  dep : p.depth ≤ m
  short : p.leavesShort 13 = true
  wt : p.weight ≤ w
  lay : p.canLay0 = true
theorem nice_all {m w : Nat} : ∀ {xs : List PyData}, (∀ x ∈ xs, Nice m w x) → PyData.showableAll xs = true ∧ PyData.hasDictAll xs = false ∧ PyData.depthAll xs ≤ m ∧ PyData.leavesShortAll 13 xs = true ∧ PyData.weightAll xs ≤ xs.length * (w + 1) ∧ PyData.canLayAll0 xs = true
  | [], _ => ⟨rfl, rfl, Nat.zero_le _, rfl, by simp [PyData.weightAll], rfl⟩
  | x :: xs, h => by
    obtain ⟨a, b, c, d, e, f⟩ := nice_all (xs := xs) fun y hy => h y (List.mem_cons_of_mem _ hy)
    have n := h x List.mem_cons_self
    refine ⟨?_, ?_, ?_, ?_, ?_, ?_⟩
    · simp only [PyData.showableAll, n.show_, a, Bool.and_self]
    · simp only [PyData.hasDictAll, n.nodict, b, Bool.or_self]
    · simp only [PyData.depthAll]
      have := n.dep
      omega
    · simp only [PyData.leavesShortAll, n.short, d, Bool.and_self]
    · simp only [PyData.weightAll, List.length_cons]
      have := n.wt
      rw [Nat.add_mul]
      omega
    · simp only [PyData.canLayAll0, n.lay, f, Bool.and_self]
theorem nice_list {m w : Nat} {xs : List PyData} (h : ∀ x ∈ xs, Nice m w x) : Nice (m + 1) (xs.length * (w + 1)) (.list xs) := by
  obtain ⟨a, b, c, d, e, f⟩ := nice_all h
  exact ⟨by simpa only [PyData.showable] using a, by simpa only [PyData.hasDict] using b, by simp only [PyData.depth]; omega, by simpa only [PyData.leavesShort] using d, by simpa only [PyData.weight] using e, by simpa only [PyData.canLay0] using f⟩
theorem nice_int {i : Int} (h : i.natAbs < 10 ^ 12) : Nice 0 40 (.int i) := by
  have h2 : i.natAbs.log2 < 40 := PySem.Flt.log2_lt_of (by decide) (Nat.lt_of_lt_of_le h (by decide))
  refine ⟨by simp only [PyData.showable]; exact decide_eq_true (by omega), by simp only [PyData.hasDict], by simp only [PyData.depth]; omega, ?_, ?_, by simp only [PyData.canLay0]⟩
  · simp only [PyData.leavesShort]
    exact decide_eq_true (PyData.shown_int_le h)
  · simp only [PyData.weight]
    split <;> omega
theorem Nice.mono {m m' w w' : Nat} {p : PyData} (n : Nice m w p) (h1 : m ≤ m') (h2 : w ≤ w') : Nice m' w' p := ⟨n.show_, n.nodict, Nat.le_trans n.dep h1, n.short, Nat.le_trans n.wt h2, n.lay⟩
theorem Nice.fits {m w : Nat} {p : PyData} (n : Nice m w p) (h : w ≤ 2 ^ 20) : p.shown.length ≤ sizeLine := PyData.shown_fits (B := 13) (by decide) (by decide) n.short (Nat.le_trans n.wt h)
theorem Nice.shaped {m w : Nat} {p : PyData} (n : Nice m w p) (h : m ≤ 64) : SeqAt.shaped p = true := by
  unfold SeqAt.shaped
  rw [n.lay, decide_eq_true (Nat.le_trans n.dep h)]; rfl
theorem nice_ints {r : List Int} (h : ∀ i ∈ r, i.natAbs < 10 ^ 12) : Nice 1 (r.length * 41) (pyInts r) := by
  have := nice_list (m := 0) (w := 40) (xs := r.map PyData.int) fun x hx => by
    obtain ⟨i, hi, rfl⟩ := List.mem_map.mp hx
    exact nice_int (h i hi)
  simpa using this
theorem nice_rows {rows : List (List Int)} (h : ∀ r ∈ rows, r.length ≤ 100 ∧ ∀ i ∈ r, i.natAbs < 10 ^ 12) : Nice 2 (rows.length * 4101) (pyRows rows) := by
  have := nice_list (m := 1) (w := 4100) (xs := rows.map pyInts) fun x hx => by
    obtain ⟨r, hr, rfl⟩ := List.mem_map.mp hx
    have := h r hr
    exact (nice_ints this.2).mono (Nat.le_refl _) (by omega)
  simpa using this
end Rg
set_option Elab.async false
set_option linter.all false
set_option maxRecDepth 100000
/-! defs that leave cells behind; min of a list; list.index -/
namespace Rg
open PySem PySem.Spec
open PyProof.Rows L2
section
variable {X : Cx} {ρ : Ro} {cs : Cs} {e o : Expr} {P : PD} {pos p apos cpos : Pos}
theorem w_minL (hc : X.calm = true) (hm : X.mg "min" = none) (h : WA X [e] ρ cs fun ds cs1 => ∃ d, ∃ ns : List Int, ds = [d] ∧ LstD cs1 d (ns.map .int) ∧ 0 < ns.length ∧ ∀ m, m ∈ ns → (∀ y, y ∈ ns → m ≤ y) → P (.int m) cs1)
    (hg : Gl X "min" := by rfl) (he : starEach [e] X.env = (false, eval e X.env) :: starEach [] X.env := by rfl) : W X (.Call (.Name "min" p) [e] [] pos) ρ cs P := by
  refine w_bi (g := fun ds cs1 P => ∃ d, ∃ ns : List Int, ds = [d] ∧ LstD cs1 d (ns.map .int) ∧ 0 < ns.length ∧ ∀ m, m ∈ ns → (∀ y, y ∈ ns → m ≤ y) → P (.int m) cs1) (cr_min hc) ?_ hm (by decide +kernel) h hg (he := he)
  rintro as hs H vs ds cs P Q c r ⟨d, ns, rfl, hl, h0, hp⟩ q
  cases r with
  | cons r t =>
    cases t
    obtain ⟨a, us, rfl, hr, rl⟩ := hl.rep c r
    have eu : us = ns.map V.int := repL_ints' rl
    subst eu
    exact ⟨a, ns, rfl, .inl hr, h0, fun m hm1 hm2 => q _ _ _ _ _ (Grow.refl as H) c .int (hp m hm1 hm2)⟩
theorem w_index (h : W X o ρ cs fun d cs1 => ∃ ns : List Int, LstD cs1 d (ns.map .int) ∧ WA X [e] ρ cs1 fun ds cs2 => LstD cs2 d (ns.map .int) ∧ ∃ y : Int, ∃ j : Nat, ds = [.int y] ∧ ns[j]? = some y ∧ (∀ m z, m < j → ns[m]? = some z → z ≠ y) ∧ P (.int (j : Nat)) cs2)
    (hbase : attributeBase o "index" X.env (eval o X.env) = eval o X.env := by rfl) (hfew : ((backTo cpos (starEach [e] X.env)).all (fun x => !x.1) && (backToKw cpos (keywordEach [] X.env)).all (fun x => x.1.isSome) && decide (([e] : List Expr).length + ([] : List Keyword).length + (if ([] : List Keyword).isEmpty then 0 else 1) < 30)) = true := by rfl)
    (hline : (apos.endLine == cpos.line) = true := by rfl) (hs : starEach [e] X.env = (false, eval e X.env) :: starEach [] X.env := by rfl) :
    W X (.Call (.Attribute o "index" apos) [e] [] cpos) ρ cs P := by
  refine w_of (pe_bm PySem.F.plainAttrs_list PySem.F.slot_list_index PySem.F.type_list_index mt_index h (pa_any (S := WA X [e]) fun _ _ _ z => z) hbase hfew hline hs) fun as hs σ H Q f q => sub1 f fun v H1 as1 d cs1 g1 f1 r1 p1 => ?_
  obtain ⟨ns, hl, p1⟩ := p1
  obtain ⟨a, us, rfl, hr, rl⟩ := hl.rep f1.cells r1
  refine ⟨.inl ⟨rfl, _, .inl hr⟩, ρ, cs1, _, p1, subA f1 fun vs H2 as2 ds cs2 g2 f2 r2 ⟨hl2, y, j, ed, hj, hne, p2⟩ => ?_⟩
  subst ed
  obtain ⟨a2, us2, e2, hr2, rl2⟩ := hl2.rep f2.cells (r1.grow g2)
  cases e2
  have eu : us2 = ns.map V.int := repL_ints' rl2
  subst eu
  cases r2 with
  | cons r2 t =>
    cases t
    cases r2
    refine ⟨a, ns.map V.int, .int y, j, .int y, rfl, rfl, .inl hr2, rfl, by simp [flatV], by rw [List.getElem?_map, hj]; rfl, by simp [eqV], fun m z' hm hz => ?_, q _ _ as2 _ _ (g1.trans g2) f2.cells .int p2⟩
    rw [List.getElem?_map] at hz
    cases hz2 : ns[m]? with
    | none => rw [hz2] at hz; cases hz
    | some z =>
      rw [hz2] at hz
      cases hz
      have := hne m z hm hz2
      simp [eqV, this]
end
theorem fnE {P : Program} {w : World} {K : PySem.W.Frag} {mg : Str → Option Value} {base : Heap} {x qual : Str} {st : Stmt} {f : Addr} {fd : FuncData} {N ps : List Str} {k : Nat} {g : GD} (F : FunD K x qual (defArgs st) (defBody st) (defScope st) [] [] f fd) (S : FnScope N ps (defScope st)) (len : ∀ ds cs P, g ds cs P → ds.length = ps.length)
    (body : ∀ (cdv : Value) (A : Around) (outer : List Env) (s : Shared) (H : Hp) (E : XK), Rm k (A.deeper (envOfC qual (defScope st) s.heap.objs.size f cdv)) → ∀ ds cs P', g ds cs P' → BaseOk cs ds →
      WSs (Bx P w K mg base N qual st f cdv A outer s H E) cs.length (defBody st) { nx := fun _ cs' => P' .non cs', rt := P' } (startD N ds) cs) : FnG P w K mg base CX0 (k + 1) f fd ps (spD g) := by
  obtain ⟨oc, od, dV, kV, doc, pm, an, cdv0, ct, osl, rfl, lk, hcd, _, _⟩ := F.ex
  refine fnG_of lk hcd S (fun vs H Q E ⟨as, hs, ds, cs, P', c, r, hg, q⟩ => by rw [← r.length]; exact len ds cs P' hg) fun A outer s H vs Q E hr ⟨as, hs, ds, cs, P', c, r, hg, q⟩ => ?_
  refine ⟨_, PSs.nox (body cdv0 A outer s H E hr ds cs P' hg (BaseOk.of c r)), tS_mk (Nat.le_refl _) (fit_start c r) ⟨?_, ?_, ?_, ?_⟩⟩
  · intro σ' H' as' ρ' cs' gb f' hp
    exact q _ _ as' _ cs' (by rw [c.len] at gb; exact gb.grow) f'.cells .non hp
  · intro v H' as' d cs' gb c' rv hp
    exact q _ _ as' _ cs' (by rw [c.len] at gb; exact gb.grow) c' rv hp
  · intro σ' H' as' ρ' cs' gb f' hp; exact hp.elim
  · intro σ' H' as' ρ' cs' gb f' hp; exact hp.elim
end Rg
set_option Elab.async false
set_option linter.all false
set_option maxRecDepth 100000
/-! three names at once; repr of great numbers -/
namespace Rg
open PySem PySem.Spec
open PyProof.Rows L2
section
variable {X : Cx} {ρ : Ro} {cs : Cs} {E : En} {B : Nat} {a b c : Expr} {x y z : Str} {px py pz pt pt2 pos : Pos} {kt k2 : Nat}
theorem ws_tup3 (i j l : Nat) (h : WA X [a, b, c] ρ cs fun ds cs1 => ∃ d1 d2 d3, ds = [d1, d2, d3] ∧ E.nx (((ρ.set i (some d1)).set j (some d2)).set l (some d3)) cs1) (hc : X.calm = true) (hN : X.N.Nodup) (hi : X.N[i]? = some x := by rfl) (hj : X.N[j]? = some y := by rfl) (hl : X.N[l]? = some z := by rfl)
    (hx : Loc X.env.scope x := by first | exact .inl rfl | exact .inr rfl) (hy : Loc X.env.scope y := by first | exact .inl rfl | exact .inr rfl) (hz : Loc X.env.scope z := by first | exact .inl rfl | exact .inr rfl)
    (fx : X.fn x = true ∨ X.env.scope.names.lookup x = some .local := by first | exact .inl rfl | exact .inr rfl) (fy : X.fn y = true ∨ X.env.scope.names.lookup y = some .local := by first | exact .inl rfl | exact .inr rfl) (fz : X.fn z = true ∨ X.env.scope.names.lookup z = some .local := by first | exact .inl rfl | exact .inr rfl)
    (hs : swapsWithSole [.Tuple [.Name x px, .Name y py, .Name z pz] kt pt] (.Tuple [a, b, c] k2 pt2) pos.line X.env = pure false := by rfl) (hw : swappedStores [.Tuple [.Name x px, .Name y py, .Name z pz] kt pt] (.Tuple [a, b, c] k2 pt2) X.env = pure none := by rfl)
    (h1 : (assignEach [.Tuple [.Name x px, .Name y py, .Name z pz] kt pt] X.env).map (·.2) = [assign (.Tuple [.Name x px, .Name y py, .Name z pz] kt pt) X.env] := by rfl)
    (hn : (assignEach [.Name x px, .Name y py, .Name z pz] X.env).length = 3 := by rfl) (hst : (assignEach [.Name x px, .Name y py, .Name z pz] X.env).findIdx? (·.1) = none := by rfl)
    (s1 : (assignEach [.Name x px, .Name y py, .Name z pz] X.env).map (·.2) = assign (.Name x px) X.env :: (assignEach [.Name y py, .Name z pz] X.env).map (·.2) := by rfl)
    (s2 : (assignEach [.Name y py, .Name z pz] X.env).map (·.2) = assign (.Name y py) X.env :: (assignEach [.Name z pz] X.env).map (·.2) := by rfl)
    (s3 : (assignEach [.Name z pz] X.env).map (·.2) = assign (.Name z pz) X.env :: (assignEach [] X.env).map (·.2) := by rfl) :
    WS X B (.Assign [.Tuple [.Name x px, .Name y py, .Name z pz] kt pt] (.Tuple [a, b, c] k2 pt2) pos) E ρ cs := by
  refine ws_of (ps_asg (pe_tup h) (pg_tup hc (pgs_cons (pg_name hN hi hx fx) (pgs_cons (pg_name hN hj hy fy) (pgs_cons (pg_name hN hl hz fz) pgs_nil s3) s2) s1) hn hst) hs hw h1) fun as hs σ H DD hB f q => ?_
  refine subA f fun vs H1 as1 ds cs1 g1 f1 r1 ⟨d1, d2, d3, e, p1⟩ => ?_
  subst e
  cases r1 with
  | @cons _ _ v1 _ r1 t =>
    cases t with
    | @cons _ _ v2 _ r2 t =>
      cases t with
      | @cons _ _ v3 _ r3 t =>
        cases t
        refine ⟨sz_of (by show 3 ≤ 100000; decide), fun p n => ⟨p, _, rfl, .inl (.inl upd_same), rfl, _, _, rfl, _, _, rfl, _, _, rfl, rfl, ?_⟩⟩
        have gl := Grow.laid (as := as1) (o := .tup [v1, v2, v3]) n
        exact q.nx _ _ _ _ _ ((g1.trans gl).B B) ((((f1.grow gl (f1.cells.laid n)).set i (r1.grow gl)).set j (r2.grow gl)).set l (r3.grow gl)) p1
end
structure NiceB (B m w : Nat) (p : PyData) : Prop where
  show_ : p.showable = true
  nodict : p.hasDict = false
  dep : p.depth ≤ m
  short : p.leavesShort B = true
  wt : p.weight ≤ w
  lay : p.canLay0 = true
theorem niceB_all {B m w : Nat} : ∀ {xs : List PyData}, (∀ x ∈ xs, NiceB B m w x) → PyData.showableAll xs = true ∧ PyData.hasDictAll xs = false ∧ PyData.depthAll xs ≤ m ∧ PyData.leavesShortAll B xs = true ∧ PyData.weightAll xs ≤ xs.length * (w + 1) ∧ PyData.canLayAll0 xs = true
  | [], _ => ⟨rfl, rfl, Nat.zero_le _, rfl, by simp [PyData.weightAll], rfl⟩
  | x :: xs, h => by
    obtain ⟨a, b, c, d, e, f⟩ := niceB_all (xs := xs) fun y hy => h y (List.mem_cons_of_mem _ hy)
    have n := h x List.mem_cons_self
    have nw := n.wt
    have nd := n.dep
    refine ⟨by simp only [PyData.showableAll, n.show_, a, Bool.and_self], by simp only [PyData.hasDictAll, n.nodict, b, Bool.or_self], by simp only [PyData.depthAll]; omega, by simp only [PyData.leavesShortAll, n.short, d, Bool.and_self], ?_, by simp only [PyData.canLayAll0, n.lay, f, Bool.and_self]⟩
    simp only [PyData.weightAll, List.length_cons]
    rw [Nat.add_mul]
    omega
theorem niceB_list {B m w : Nat} {xs : List PyData} (h : ∀ x ∈ xs, NiceB B m w x) : NiceB B (m + 1) (xs.length * (w + 1)) (.list xs) := by
  obtain ⟨a, b, c, d, e, f⟩ := niceB_all h
  exact ⟨by simpa only [PyData.showable] using a, by simpa only [PyData.hasDict] using b, by simp only [PyData.depth]; omega, by simpa only [PyData.leavesShort] using d, by simpa only [PyData.weight] using e, by simpa only [PyData.canLay0] using f⟩
theorem niceB_int {i : Int} (h : i.natAbs < 10 ^ 100) : NiceB 101 0 400 (.int i) := by
  have h2 : i.natAbs.log2 < 400 := PySem.Flt.log2_lt_of (by decide) (Nat.lt_of_lt_of_le h (by decide +kernel))
  refine ⟨by simp only [PyData.showable]; exact decide_eq_true (by omega), by simp only [PyData.hasDict], by simp only [PyData.depth]; omega, ?_, ?_, by simp only [PyData.canLay0]⟩
  · simp only [PyData.leavesShort]
    refine decide_eq_true ?_
    rw [PyData.shown_int, PySem.ofString_length]
    exact int_text_length_le10 (k := 100) (by decide) h
  · simp only [PyData.weight]
    split <;> omega
theorem niceB_ints {r : List Int} (h : ∀ i ∈ r, i.natAbs < 10 ^ 100) : NiceB 101 1 (r.length * 401) (pyInts r) := by
  have := niceB_list (B := 101) (m := 0) (w := 400) (xs := r.map PyData.int) fun x hx => by
    obtain ⟨i, hi, rfl⟩ := List.mem_map.mp hx
    exact niceB_int (h i hi)
  simpa using this
theorem NiceB.fits {m w : Nat} {p : PyData} (n : NiceB 101 m w p) (h : w ≤ 30000) : p.shown.length ≤ sizeLine := by
  have a := PyData.shown_le 101 (by decide) p n.short
  have b := n.wt
  have c : 103 * 30000 + 101 ≤ sizeLine := by decide
  have d : (101 + 2) * p.weight ≤ 103 * 30000 := Nat.mul_le_mul (by decide) (by omega)
  omega
end Rg
set_option Elab.async false
set_option linter.all false
set_option maxRecDepth 100000
namespace Rg
open PySem PySem.Spec
open PyProof.Rows L2
section
variable {X : Cx} {ρ : Ro} {cs : Cs} {e a b c : Expr} {es rest : List Expr} {P : PD} {PN : List D → Cs → Prop} {PT' : Bool → Cs → Prop} {pos : Pos}
/-- a op b op' c as a test -/
theorem wt_chain {op op' : CmpOp} {r r' : R2} {g g' : GD2} (ho : OpR X (compareOp op) r) (ho' : OpR X (compareOp op') r') (hd : OpD r g) (hd' : OpD r' g') 
    (h : W X a ρ cs fun d1 cs1 => W X b ρ cs1 fun d2 cs2 => g d1 d2 cs2 fun d3 cs3 => ∃ k, d3 = .bl k ∧ if k = true then W X c ρ cs3 fun d4 cs4 => g' d2 d4 cs4 (isB PT') else PT' false cs3) (hm : lastMarks [op, op'] [b, c] = false := by rfl) : WT X (.Compare a [op, op'] [b, c] pos) ρ cs PT' := by
  refine wt_of (pt_chain ho ho' h (pe_any (S := W X b) fun _ _ _ z => z) (pe_any (S := W X c) fun _ _ _ z => z) hm) fun as hs σ H Q f q => ?_
  refine sub1 f fun v1 H1 as1 d1 cs1 g1 f1 r1 p1 => ⟨ρ, cs1, _, p1, sub1 f1 fun v2 H2 as2 d2 cs2 g2 f2 r2 p2 => ?_⟩
  refine hd as2 hs H2 v1 v2 d1 d2 cs2 _ _ f2.cells (r1.grow g2) r2 p2 fun v3 H3 as3 d3 cs3 g3 c3 r3 p3 => ?_
  obtain ⟨k, rfl, p3⟩ := p3
  cases r3
  refine ⟨k, rfl, ?_⟩
  cases k with
  | true => exact ⟨ρ, cs3, _, p3, sub1 (f2.grow g3 c3) fun v4 H4 as4 d4 cs4 g4 f4 r4 p4 => hd' as4 hs H4 v2 v4 d2 d4 cs4 _ _ f4.cells ((r2.grow g3).grow g4) r4 p4 (fin_b (FinT.next q (((g1.trans g2).trans g3).trans g4)))⟩
  | false => exact ⟨false, rfl, q _ _ _ _ ((g1.trans g2).trans g3) c3 p3⟩
theorem wt_notN {j pos'} (h : W X a ρ cs fun d cs1 => ∃ k, (k = true ↔ d = .non) ∧ PT' (!k) cs1) : WT X (.Compare a [.IsNot] [.Constant .none j pos'] pos) ρ cs PT' :=
  wt_of (pt_cmp (pc_notN h)) fun as hs σ H Q f q => sub1 f fun v H1 as1 d cs1 g1 f1 r1 p1 => by
    obtain ⟨k, hk, p1⟩ := p1
    have e : decide (v = V.non) = k := by
      cases r1 <;> cases k <;> simp_all
    exact ⟨!k, by rw [← e], q _ _ _ _ g1 f1.cells p1⟩
theorem w_notN {j pos'} (h : W X a ρ cs fun d cs1 => ∃ k, (k = true ↔ d = .non) ∧ P (.bl (!k)) cs1) : W X (.Compare a [.IsNot] [.Constant .none j pos'] pos) ρ cs P :=
  w_of (pe_cmp (pc_notN h)) fun as hs σ H Q f q => sub1 f fun v H1 as1 d cs1 g1 f1 r1 p1 => by
    obtain ⟨k, hk, p1⟩ := p1
    have e : decide (v = V.non) = k := by
      cases r1 <;> cases k <;> simp_all
    show Q (.bl (!decide (v = V.non))) H1
    rw [e]
    exact q _ _ _ _ _ g1 f1.cells .bl p1
end
end Rg
set_option Elab.async false
set_option linter.all false
set_option maxRecDepth 100000
/-! dicts that stay as they are made -/
namespace Rg
open PySem PySem.Spec
open PyProof.Rows L2
def keyD : Key → D
  | .inl i => .int i
  | .inr x => .str x
theorem keyD_rep {as hs H k v} (r : Rep as hs H (keyD k) v) : v = kV k := by
  cases k with
  | inl i => cases r; rfl
  | inr x => cases r; rfl
theorem zip_snoc {α β : Type} : ∀ {xs : List α} {ys : List β} {x : α} {y : β}, xs.length = ys.length → (xs ++ [x]).zip (ys ++ [y]) = xs.zip ys ++ [(x, y)]
  | [], [], _, _, _ => rfl
  | a :: xs, b :: ys, x, y, h => by
    have ih := zip_snoc (x := x) (y := y) (xs := xs) (ys := ys) (by simpa using h)
    simp [ih]
  | [], _ :: _, _, _, h => by simp at h
  | _ :: _, [], _, _, h => by simp at h
theorem valV_zip_none {k : Key} : ∀ {ks : List Key} {vs : List V}, k ∉ ks → valV (ks.zip vs) k = none
  | [], _, _ => by simp [valV]
  | _ :: _, [], _ => by simp [valV]
  | a :: ks, v :: vs, h => by
    rw [List.zip_cons_cons, valV_neg (fun e => h (by rw [← e]; exact List.mem_cons_self))]
    exact valV_zip_none (fun z => h (List.mem_cons_of_mem _ z))
theorem valV_zip_at {k : Key} : ∀ {ks : List Key} {vs : List V} {j : Nat} {v : V}, ks.Nodup → ks[j]? = some k → vs[j]? = some v → valV (ks.zip vs) k = some v
  | [], _, _, _, _, at_, _ => by simp at at_
  | a :: ks, [], j, _, _, _, h => by simp at h
  | a :: ks, u :: vs, 0, v, _, h1, h2 => by
    rw [List.zip_cons_cons, valV_pos (by simpa using h1)]
    simpa using h2
  | a :: ks, u :: vs, j + 1, v, nd, h1, h2 => by
    have nd' := List.nodup_cons.mp nd
    have hk : ks[j]? = some k := by simpa using h1
    rw [List.zip_cons_cons, valV_neg (fun e => nd'.1 (by rw [show a = k from e]; exact List.mem_of_getElem? hk))]
    exact valV_zip_at nd'.2 hk (by simpa using h2)
theorem Cells.show1 {as hs cs H D} (c : Cells as (D :: hs) cs H) : Cells as hs cs H :=
  ⟨c.nd, c.len, fun k a e => by
    obtain ⟨ds, vs, h1, h2, h3⟩ := c.at_ k a e
    exact ⟨ds, vs, h1, h2, h3.show fun a h => List.mem_cons_of_mem _ h⟩, fun a h => c.hid a (List.mem_cons_of_mem _ h)⟩
section
variable {X : Cx} {ρ : Ro} {cs : Cs} {P : PD} {σ : L2.St}
/-- a dict comprehension's loop over n items -/
theorem dc_loop {n : Nat} {J : It} {g : TG} {tk tv : TE} {vs : List Nat} {as1 hs : List Addr} {cs1 : Cs} {H1 : Hp} {Q : VK} (I : Nat → List Key → List D → Cs → Prop) (ρi : Nat → Ro) (f1 : Fit as1 hs ρ cs1 σ H1) (i0 : I 0 [] [] cs1)
    (src : ∀ D, H1 D = none → ∀ j as' cs' ks ds H, j ≤ n → Grow as1 as' H1 H → Fit as' (D :: hs) (wipeD ρ vs) cs' (wipe σ vs) H → I j ks ds cs' → (j = n → J.stop j H) ∧ (j < n → J.go j H ∧ ∀ x H', J.yld j H x H' → ∀ Q' : L2.St → Hp → Prop,
      (∀ σ2 H2, wipe σ2 vs = wipe σ vs → Grow as' as' H H2 → Fit as' (D :: hs) (ρi j) cs' σ2 H2 → Q' σ2 H2) → g x (wipe σ vs) H' Q'))
    (elt : ∀ j ks ds cs' as' hs' σ2 H2 (Q' : V → V → Hp → Prop), j < n → I j ks ds cs' → Fit as' hs' (ρi j) cs' σ2 H2 →
      (∀ y H3 as3 k d cs3, k ∉ ks → Grow as' as3 H2 H3 → Cells as3 hs' cs3 H3 → Rep as3 hs' H3 d y → I (j + 1) (ks ++ [k]) (ds ++ [d]) cs3 → Q' (kV k) y H3) →
      tk σ2 H2 fun x H3 => tv σ2 H3 fun y H4 => Q' x y H4)
    (small : ∀ j ks ds cs', I j ks ds cs' → ks.length = ds.length ∧ ks.length < 100000) (fin : Fin as1 hs H1 (fun d cs' => ∃ ks ds, d = .dct ks ds ∧ I n ks ds cs') Q) :
    ∀ D, H1 D = none → ∃ W : Nat → Nat → Hp → Prop, (∃ m, W 0 m (upd H1 D (.dK []))) ∧ ∀ i m H, W i m H → (J.stop i H ∧ Q (.ref D) H) ∨ (J.go i H ∧ ∃ Nx : Hp → Prop, (∀ H', Nx H' → ∃ m', m' < m ∧ W (i + 1) m' H') ∧ ∀ x H', J.yld i H x H' → g x (wipe σ vs) H' fun σ2 H2 => wipe σ2 vs = wipe σ vs ∧ tTst TNo σ2 H2 fun b H3 => if b = true then tk σ2 H3 fun y H4 => tv σ2 H4 fun z H5 => ∃ kvs k, y = kV k ∧ H5 D = some (.dK kvs) ∧ kvs.length < sizeLine ∧ Nx (upd H5 D (.dK (putK kvs k z))) else Nx H3) := by
  intro D nD
  have fresh := f1.cells.fresh nD
  let S : Nat → Hp → Prop := fun j H => ∃ as' cs' ks ds us, Grow as1 as' H1 H ∧ Cells as' (D :: hs) cs' H ∧ H D = some (.dK (ks.zip us)) ∧ RepL as' (D :: hs) H ds us ∧ I j ks ds cs'
  refine ⟨fun j m H => m = n - j ∧ j ≤ n ∧ S j H, ⟨n, by simp, Nat.zero_le _, as1, cs1, [], [], [], Grow.laid nD, f1.cells.hide nD, upd_same, .nil, i0⟩, ?_⟩
  rintro j m H ⟨rfl, hj, as', cs', ks, ds, us, g1, c', hD, ra, ij⟩
  have f' : Fit as' (D :: hs) (wipeD ρ vs) cs' (wipe σ vs) H := by
    refine Fit.wipe ⟨c', f1.slen, fun i d e => ?_⟩ vs
    obtain ⟨v, h, r⟩ := f1.slot i d e
    exact ⟨v, h, (r.hide nD).grow g1⟩
  obtain ⟨s1, s2⟩ := src D nD j as' cs' ks ds H hj g1 f' ij
  obtain ⟨hlen, hsm⟩ := small j ks ds cs' ij
  by_cases hlt : j < n
  · obtain ⟨go, s2⟩ := s2 hlt
    refine .inr ⟨go, S (j + 1), fun H' z => ⟨n - (j + 1), by omega, rfl, hlt, z⟩, fun x H' y => s2 x H' y _ fun σ2 H2 ew g2 f2 => ⟨ew, ?_⟩⟩
    have keepD : ∀ {asx asy : List Addr} {Hx Hy : Hp} {csx : Cs} {u : List (Key × V)}, Cells asx (D :: hs) csx Hx → Grow asx asy Hx Hy → Hx D = some (.dK u) → Hy D = some (.dK u) := fun c g h => g.keep _ _ (c.hid D List.mem_cons_self).1 h
    have hD2 := keepD c' g2 hD
    refine ⟨_, cs', fun b cs2 => b = true ∧ cs2 = cs', ⟨rfl, rfl⟩, as', D :: hs, f2, fun b H2' as2' cs2' g2' c2' ⟨eb, ec⟩ => ?_⟩
    subst eb ec
    rw [if_pos rfl]
    have f2' := f2.grow g2' c2'
    have hD2' := keepD f2.cells g2' hD2
    refine elt j ks ds cs2' as2' (D :: hs) σ2 H2' _ hlt ij f2' fun y H3 as3 k d cs3 hk g3 c3 r3 i3 => ?_
    have hD3 := keepD f2'.cells g3 hD2'
    have ra3 := ((ra.grow g2).grow g2').grow g3
    have hl3 : ks.length = us.length := by rw [hlen, ra3.length]
    have mutD : ∀ b, b ∉ as3 → b ∉ D :: hs → upd H3 D (.dK (putK (ks.zip us) k y)) b = H3 b := fun b _ m => upd_ne fun e => m (by rw [e]; exact List.mem_cons_self)
    refine ⟨ks.zip us, k, rfl, hD3, ?_, as3, cs3, ks ++ [k], ds ++ [d], us ++ [y], ?_, c3.dmut List.mem_cons_self, ?_, (ra3.append (.cons r3 .nil)).mut mutD, i3⟩
    · rw [List.length_zip, ← hl3, Nat.min_self]
      exact sz_lt hsm
    · have gg := ((g1.trans g2).trans g2').trans g3
      exact ⟨gg.ext, gg.new, fun a o na ha => by rw [upd_ne (ne_of_none ha nD)]; exact gg.keep a o na ha⟩
    · rw [upd_same, putK_new _ (valV_zip_none hk), zip_snoc hl3]
  · have e : j = n := by omega
    subst e
    refine .inl ⟨s1 rfl, ?_⟩
    have hul : ks.length = us.length := by rw [hlen, ra.length]
    exact fin (.ref D) H as' (.dct ks ds) cs' g1 (c'.show1) (.dct (c'.hid D List.mem_cons_self).1 fresh.2 hD hlen (ra.show fun a h => List.mem_cons_of_mem _ h)) ⟨ks, ds, rfl, ij⟩
end
section
variable {X : Cx} {ρ : Ro} {cs : Cs} {kx vx iter a b o : Expr} {P : PD} {E : En} {B : Nat} {pos p py spos cpos kpos : Pos} {x y : Str} {scope : Scope}
/-- what a dict comprehension over a list asks -/
def DcL (X : Cx) (kx vx : Expr) (i : Nat) (scope : Scope) (ρ : Ro) (cs1 : Cs) (d : D) (P : PD) : Prop := ∃ (xs : List D) (I : Nat → List Key → List D → Cs → Prop), I 0 [] [] cs1 ∧ (∀ j ks ds cs', I j ks ds cs' → LstD cs' d xs ∧ ks.length = ds.length ∧ ks.length < 100000) ∧
  (∀ j x ks ds cs', xs[j]? = some x → I j ks ds cs' → Blk X scope fun Y => W Y kx ((wipeD ρ [i]).set i (some x)) cs' fun dk cs2 => ∃ k, dk = keyD k ∧ k ∉ ks ∧ Blk X scope fun Y => W Y vx ((wipeD ρ [i]).set i (some x)) cs2 fun y cs3 => I (j + 1) (ks ++ [k]) (ds ++ [y]) cs3) ∧
  (∀ ks ds cs', I xs.length ks ds cs' → P (.dct ks ds) cs')
theorem dcl_reads {i : Nat} {as hs : List Addr} {σ : L2.St} {H0 : Hp} {Q : VK} (f : Fit as hs ρ cs σ H0) (q : Fin as hs H0 P Q) :
    tDc (iList X.K (tD ρ cs fun d cs1 => DcL X kx vx i scope ρ cs1 d P)) (gName i) (tTst TNo) (tElt X kx scope) (tElt X vx scope) [i] σ H0 Q := by
  refine sub1 f fun v H1 as1 d cs1 g1 f1 r1 ⟨xs, I, i0, hl, step, done⟩ => ?_
  obtain ⟨a, vs, ev, hr, rl⟩ := (hl 0 [] [] cs1 i0).1.rep f1.cells r1
  subst ev
  refine ⟨a, rfl, ⟨vs, .inl hr⟩, dc_loop (n := xs.length) I (fun j => match xs[j]? with | some x => (wipeD ρ [i]).set i (some x) | none => ρ) f1 i0 ?_ ?_ (fun j ks ds cs' z => (hl j ks ds cs' z).2) ?_⟩
  · intro D nD j as' cs' ks ds H hj g f' ij
    obtain ⟨a2, vs2, e2, hr2, rl2⟩ := (hl j ks ds cs' ij).1.rep f'.cells ((r1.hide nD).grow g)
    cases e2
    refine ⟨fun e => ⟨vs2, .inl hr2, by rw [← rl2.length, e]; exact Nat.le_refl _⟩, fun hlt => ⟨⟨vs2, vs2[j]'(by rw [← rl2.length]; exact hlt), .inl hr2, by simp⟩, fun x H' yy Q' k => ?_⟩⟩
    obtain ⟨e3, yy⟩ := yy
    subst e3
    obtain ⟨x', hx', rx'⟩ := rl2.get' (yy vs2 (.inl hr2))
    refine k _ _ ?_ (Grow.refl as' _) ?_
    · show List.set (List.set (List.set σ i none) i (some x)) i none = List.set σ i none
      rw [List.set_set, List.set_set]
    · rw [hx']; exact f'.set i rx'
  · intro j ks ds cs' as' hs' σ2 H2 Q' hlt ij f2 k1
    have hx : xs[j]? = some xs[j] := List.getElem?_eq_getElem hlt
    rw [hx] at f2
    refine ⟨_, cs', _, step j _ ks ds cs' hx ij, as', hs', f2, fun z H3 as3 d3 cs3 g3 c3 r3 ⟨k, ek, hk, p3⟩ => ?_⟩
    subst ek
    have ez := keyD_rep r3
    subst ez
    exact ⟨_, cs3, _, p3, as3, hs', f2.grow g3 c3, fun y H4 as4 d4 cs4 g4 c4 r4 p4 => k1 y H4 as4 k d4 cs4 hk (g3.trans g4) c4 r4 p4⟩
  · intro v H1' as' d cs' g c r ⟨ks, ds, ed, hp⟩
    subst ed
    exact q v H1' as' _ cs' (g1.trans g) c r (done ks ds cs' hp)
theorem w_dc (i : Nat) (hc : X.calm = true) (hN : X.N.Nodup) (ok : BlkOk X.N X.env.scope scope [(x, i)]) (hg : PgB X scope x p i) (h : W X iter ρ cs fun d cs1 => DcL X kx vx i scope ρ cs1 d P)
    (hs : ∀ x, foldedSetIterable iter X.env x = pure x := by intro _; rfl) : W X (.DictComp kx vx [⟨.Name x p, iter, [], 0⟩] scope pos) ρ cs P :=
  w_of (pe_dc hc hN (pi_list h) ok hg (fun s H C cl fp => pts_no) pe_elt pe_elt hs) fun as hs σ H Q f q => dcl_reads f q
/-- a dict comprehension whose name is a local one: the frame lets the name go first -/
theorem sw_trueD {gens : List Comprehension} {cpos npos : Pos} {nm : Str} {row : Nat} {env : Env} (isF : env.scope.kind = .function) (loc : env.scope.names.lookup nm = some .local) (same : (npos.line == cpos.line) = true)
    (out : (scope.names.any fun (n, k) => n == nm && (k == .local || k == .cell)) = false) : swapsWith (.DictComp kx vx gens scope cpos) (some (.Name nm npos)) row env = pure true := by
  have knd : env.kindOf nm = some .local := loc
  have blkF : env.blockKind = .function := by
    unfold Env.blockKind
    rw [isF]; rfl
  unfold swapsWith
  simp only [blkF, knd, out, Expr.pos, same]
  rfl
/-- name = {..} on one row -/
theorem ps_setDc {i : Nat} {tgt : Expr} {tests : List Expr} {mine : List (Str × Nat)} {wi : TI} {g : TG} {tt : TT} {tk tv : TE} (calm : X.calm = true) (nod : X.N.Nodup) (slot : X.N[i]? = some y) (loc : X.env.scope.names.lookup y = some .local)
    (sw : swapsWith (.DictComp kx vx [⟨tgt, iter, tests, 0⟩] scope pos) (some (.Name y py)) spos.line X.env = pure true) (src : PI X tgt iter wi) (ok : BlkOk X.N X.env.scope scope mine)
    (store : Blk X scope fun Y => PG Y tgt g) (test : Blk X scope fun Y => PTs Y tests tt) (keys : Blk X scope fun Y => PE Y kx tk) (vals : Blk X scope fun Y => PE Y vx tv) (plain : ∀ x, foldedSetIterable iter X.env x = pure x := by intro _; rfl) :
    PS X (.Assign [.Name y py] (.DictComp kx vx [⟨tgt, iter, tests, 0⟩] scope pos) spos) (tAsg (tDc wi g tt tk tv (mine.map (·.2))) (gName i)) := by
  constructor
  intro pins sh slots H0 ends inv asked
  have want : tDc wi g tt tk tv (mine.map (·.2)) slots H0 (fun z Hz => gName i z slots Hz ends.nx) := asked
  rw [exec_Assign_Name_used _ _ _ _ sw]
  apply wpAny_bind
  apply wpAny_standAt
  apply wpAny_bind
  show wpAny _ X.A (do let _ ← comprehension (.DictComp kx vx [⟨tgt, iter, tests, 0⟩] scope pos) scope X.env (firstIterPos [⟨tgt, iter, tests, 0⟩] pos) newDict false (eval iter X.env) (some (assign (.Name y py) X.env))) _ _ sh
  have core := dc_core (pos := pos) (pos' := firstIterPos [⟨tgt, iter, tests, 0⟩] pos) (use := some (assign (.Name y py) X.env)) (Qf := fun _ fin => SP X pins ends .next fin) calm nod inv src ok store test keys vals plain want fun L C fin m Hf invF done ns frame => by
    show wpAny (model X.prog X.w) X.A (assign (.Name y py) X.env (.ref L)) _ _ fin
    refine wpAny_assign_Name (store_ok2 (v := V.ref L) invF nod slot (.inl loc) rfl (fun fin2 inv2 ⟨at_, but, whose⟩ => ?_) (.inr loc))
    have apart : C ≠ at_ := whose.elim (fun z => z ▸ frame.2.1) fun z w => frame.2.2.2.2.1 y at_ z w.symm
    exact ⟨m, ns.sameBut but apart, fun h3 but3 => ⟨_, Hf, inv2.turned (t' := fin2.toks) (fun b o ne e => (but3.2 b ne).trans e) frame.1 frame.2.1 frame.2.2.2.1 frame.2.2.2.2.1 frame.2.2.2.2.2, done⟩⟩
  exact wpAny_bind (thn core fun _ fin hq => wpAny_pure (wpAny_pure hq))
theorem ws_dc (iy : Nat) (i : Nat) (hc : X.calm = true) (hN : X.N.Nodup) (hsw : swapsWith (.DictComp kx vx [⟨.Name x p, iter, [], 0⟩] scope pos) (some (.Name y py)) spos.line X.env = pure true) (ok : BlkOk X.N X.env.scope scope [(x, i)]) (hg : PgB X scope x p i)
    (h : W X iter ρ cs fun d cs1 => DcL X kx vx i scope ρ cs1 d fun d cs' => E.nx (ρ.set iy (some d)) cs') (hy : X.N[iy]? = some y := by rfl) (hyl : X.env.scope.names.lookup y = some .local := by rfl)
    (hs : ∀ x, foldedSetIterable iter X.env x = pure x := by intro _; rfl) : WS X B (.Assign [.Name y py] (.DictComp kx vx [⟨.Name x p, iter, [], 0⟩] scope pos) spos) E ρ cs :=
  ws_of (ps_setDc hc hN hy hyl hsw (pi_list h) ok hg (fun s H C cl fp => pts_no) pe_elt pe_elt hs) fun as hs σ H DD hB f q =>
    dcl_reads (P := fun d cs' => E.nx (ρ.set iy (some d)) cs') f fun v H' as' d cs' g c r hp => q.nx _ _ as' _ cs' (g.B B) ((f.grow g c).set iy r) hp
/-- d[k] -/
theorem w_dget (hu : X.A.units + 1 < cLine) (h : W X o ρ cs fun d cs1 => W X b ρ cs1 fun d2 cs2 => ∃ (ks : List Key) (xs : List D) (k : Key) (j : Nat) (y : D), d = .dct ks xs ∧ d2 = keyD k ∧ ks.Nodup ∧ ks[j]? = some k ∧ xs[j]? = some y ∧ P y cs2) (hs : NoSl b := by exact fun _ _ => rfl) : W X (.Subscript o b pos) ρ cs P :=
  w_of (pe_dget hu h (pe_any (S := W X b) fun _ _ _ z => z) hs) fun as hs σ H Q f q =>
    two_t (r := fun x y H2 Q => ∃ a v, x = .ref a ∧ DGet H2 a y (some v) ∧ Q v H2) f (fun d1 cs1 z => z) fun x y H2 as2 d1 d2 cs1 cs2 g2 f2 r1 r2 ⟨ks, xs, k, j, z, e1, e2, nd, hk, hx, hp⟩ => by
      subst e1 e2
      cases r1 with
      | @dct a _ us _ n m hH hl rl =>
        obtain ⟨v, hv, rv⟩ := rl.get hx
        have ek := keyD_rep r2
        subst ek
        refine ⟨a, v, rfl, ?_, q _ _ as2 _ cs2 g2 f2.cells rv hp⟩
        have := DGet.k (k := k) hH
        rw [valV_zip_at nd hk hv] at this
        exact this
end
end Rg
set_option Elab.async false
set_option linter.all false
set_option maxRecDepth 100000
/-! list(d.values()) -/
namespace Rg
open PySem PySem.Spec
open PyProof.Rows L2
theorem vals_at : ∀ {xs : List V} {us : List Value}, xs.length = us.length → (∀ (i : Nat) x u, xs[i]? = some x → us[i]? = some u → RelV x u) → Vals xs us
  | [], us, len, _ => by
    cases us with
    | nil => exact .nil
    | cons _ _ => simp at len
  | x :: xs, us, len, at_ => by
    cases us with
    | nil => simp at len
    | cons u us => exact .cons (at_ 0 x u rfl rfl) (vals_at (by simpa using len) fun i y z e1 e2 => at_ (i + 1) y z (by simpa using e1) (by simpa using e2))
def tListVals (td : TE) : TE := fun σ H Q => td σ H fun x H1 => ∃ a kvs, x = V.ref a ∧ H1 a = some (.dK kvs) ∧ ∀ p, H1 p = none → Q (.ref p) (upd H1 p (.lst (kvs.map (·.2))))
section
variable {X : Cx} {e : Expr} {te : TE} {p pos apos cpos : Pos}
theorem pe_listVals (calm : X.calm = true) (dict : PE X e te) (hg : Gl X "list") (hm : X.mg "list" = none) (hv : bootBuiltins "list" = some (.type "list")) (late : attributeBase e "values" X.env (eval e X.env) = eval e X.env := by rfl) (row : (apos.endLine == cpos.line) = true := by rfl)
    (args : starEach [.Call (.Attribute e "values" apos) [] [] cpos] X.env = (false, eval (.Call (.Attribute e "values" apos) [] [] cpos) X.env) :: starEach [] X.env := by rfl) :
    PE X (.Call (.Name "list" p) [.Call (.Attribute e "values" apos) [] [] cpos] [] pos) (tListVals te) := by
  constructor
  intro pins sh slots H0 Q inv asked
  refine wpAny_Call_Name_kw (ld_blt inv hg hm hv (PyProof.Rows.callWith_type1 ?_ args rfl))
  rw [args]
  show wpAny _ _ (spliced ((false, eval (.Call (.Attribute e "values" apos) [] [] cpos) X.env) :: backTo pos (starEach [] X.env))) _ _ sh
  refine Calls.spliced_cons (wpAny_Call_method (T := "dict") (id := "dict.values") late rfl row F.plainAttrs_dict F.slot_dict_values F.type_dict_values (thn (dict.run pins sh slots H0 _ inv asked) ?_))
  rintro u mid ⟨_, H1, inv1, rel, d, kvs, rfl, at_d, done⟩
  cases (show u = Value.ref d from rel)
  obtain ⟨few, notSys, vs, pairs, isD⟩ := inv1.hok d _ at_d
  obtain ⟨ep, entries⟩ := isD.dictAt
  have inv2 : Inv X pins slots H1 { mid with heap := mid.heap.push { cls := .type "dict_values", data := .fields #[.ref d] } } := inv1.kept (t' := mid.toks) fun b o at_b => Heap.get?_push_of_some _ at_b
  refine ⟨isD.typeIs, isD.mapOf.noDict, ?_⟩
  show wpAny _ _ (callWith cpos (.builtin "dict.values") [.ref d] [] []) _ X.xe mid
  refine method_meetsIn F.slot_dict_values F.entry_dict_values rfl (PySem.evalArgs_none ⟨rfl, isD.typeIs, F.args_dict_values_1 _, _, meets_dict_values (mixKind X.prog X.w) d notSys, ⟨vs, isD⟩, Calls.spliced_nil ?_⟩)
  have room : vs.length ≤ sizeLine := pairs.length ▸ few
  refine PySem.W.kdl_call (PySem.W.kdl_values (knd := mixKind X.prog X.w) (kvs := vs) (ep := ep)) (inv1.ok.hd calm) ⟨⟨_, Heap.get?_push_size _ rfl, rfl, rfl⟩, entries.push _⟩ room ?_
  intro h' tk acc c' old new items
  have rels : Vals (kvs.map (·.2)) acc.toList := by
    refine vals_at ?_ fun i x v e1 e2 => ?_
    · rw [List.length_map, pairs.length, ← items.1]
      exact Array.length_toList.symm
    · obtain ⟨k, e3⟩ := items.2 i v (by rw [← Array.getElem?_toList]; exact e2)
      obtain ⟨y, e4, ry⟩ := pairs.at' e3
      rw [List.getElem?_map, e4] at e1
      cases e1
      exact ry
  refine ⟨.ref _, _, inv2.laid (t' := tk) old (Nat.le_refl _) (show ObjOk X.prog X.w _ _ _ (.lst (kvs.map (·.2))) from ⟨by rw [List.length_map]; exact few, acc.toList, c', rels, ?_⟩), rfl, done _ (inv2.hok.fresh (Nat.le_refl _))⟩
  rw [Array.toArray_toList]
  exact new
end
section
variable {X : Cx} {ρ : Ro} {cs : Cs} {o : Expr} {PN : List D → Cs → Prop} {p pos apos cpos : Pos}
theorem zip_snd {α β : Type} {xs : List α} {ys : List β} (h : xs.length = ys.length) : (xs.zip ys).map (·.2) = ys :=
  List.map_snd_zip (Nat.le_of_eq h.symm)
theorem wn_listVals (hc : X.calm = true) (hm : X.mg "list" = none) (h : W X o ρ cs fun d cs1 => ∃ (ks : List Key) (xs : List D), d = .dct ks xs ∧ PN xs cs1) (hg : Gl X "list" := by rfl) (hv : bootBuiltins "list" = some (.type "list") := by first | rfl | decide +kernel)
    (hbase : attributeBase o "values" X.env (eval o X.env) = eval o X.env := by rfl) (hline : (apos.endLine == cpos.line) = true := by rfl)
    (hs : starEach [.Call (.Attribute o "values" apos) [] [] cpos] X.env = (false, eval (.Call (.Attribute o "values" apos) [] [] cpos) X.env) :: starEach [] X.env := by rfl) : WN X (.Call (.Name "list" p) [.Call (.Attribute o "values" apos) [] [] cpos] [] pos) ρ cs PN :=
  wn_of (pe_listVals hc h hg hm hv hbase hline hs) fun as hs σ H Q f q => sub1 f fun v H1 as1 d cs1 g1 f1 r1 ⟨ks, xs, e, hp⟩ => by
    subst e
    cases r1 with
    | @dct a _ us _ n m hH hl rl =>
      refine ⟨a, ks.zip us, rfl, hH, fun p hn => ?_⟩
      rw [zip_snd (by rw [hl, rl.length])]
      exact q p H1 as1 xs us cs1 g1 f1.cells hn rl hp
end
end Rg
set_option Elab.async false
set_option linter.all false
set_option maxRecDepth 100000
/-! ranges with two or three ends, name op= e, int of a bool -/
namespace Rg
open PySem PySem.Spec
open PyProof.Rows L2
section
variable {X : Cx} {ρ : Ro} {cs : Cs} {e a b c : Expr} {es rest : List Expr} {P : PD} {PN : List D → Cs → Prop} {PT' : Bool → Cs → Prop} {pos p cpos kpos pos' : Pos} {E : En} {B : Nat} {st : Stmt} {body : List Stmt} {x : Str}
/-- for x in range(a, b, c) -/
theorem ws_forR3 {hp : PassesOwn (model X.prog X.w) X.A X.env X.xe} (i : Nat) (hc : X.calm = true) (hN : X.N.Nodup) (hm : X.mg "range" = none) (h : WA X [a, b, c] ρ cs fun ds cs1 => ∃ (lo hi st : Int) (n : Nat) (I : Nat → Ro → Cs → Prop), ds = [.int lo, .int hi, .int st] ∧ RgC lo hi st n ∧ I 0 ρ cs1 ∧
      (∀ (j : Nat) ρ' cs', j < n → I j ρ' cs' → WSs X cs1.length body { nx := I (j + 1), rt := E.rt, bk := E.nx, ct := I (j + 1) } (ρ'.set i (some (.int (lo + (j : Int) * st)))) cs') ∧ (∀ ρ' cs', I n ρ' cs' → E.nx ρ' cs'))
    (hi : X.N[i]? = some x := by rfl) (hx : Loc X.env.scope x := by first | exact .inl rfl | exact .inr rfl) (hf : X.fn x = true ∨ X.env.scope.names.lookup x = some .local := by first | exact .inl rfl | exact .inr rfl)
    (hg : Gl X "range" := by rfl) (hse : starEach [a, b, c] X.env = (false, eval a X.env) :: starEach [b, c] X.env := by rfl) (hpl : (backTo kpos (starEach [b, c] X.env)).any (·.1) = false := by rfl)
    (hs : ∀ x, foldedSetIterable (.Call (.Name "range" cpos) [a, b, c] [] kpos) X.env x = pure x := by intro _; rfl) : WS X B (.For (.Name x p) (.Call (.Name "range" cpos) [a, b, c] [] kpos) body [] pos) E ρ cs := by
  refine ws_of (ps_for hp hc (pi_range3 hg hm h hse hpl) (pg_name hN hi hx hf) (⟨fun pins s σ H DD I ⟨B', z⟩ => (pss_any (B := B') (S := WSs X B' body) fun _ _ _ z => z).run pins s σ H DD I z⟩ : PSs X body fun DD σ H => ∃ B', tAnyS B' (WSs X B' body) DD σ H) hs) fun as hs σ H DD hB f q => ?_
  refine subA f fun vs H1 as1 ds cs1 g1 f1 r1 ⟨lo, hi, st, n, I, ed, hn, i0, step, done⟩ => ?_
  subst ed
  obtain rfl : vs = [.int lo, .int hi, .int st] := by
    cases r1 with
    | cons a1 t =>
      cases t with
      | cons a2 t =>
        cases t with
        | cons a3 t => cases t; cases a1; cases a2; cases a3; rfl
  refine ⟨lo, hi, st, n, rfl, hn, for_rangeC (lo := lo) (c := st) (n := n) (g := gName i) (tb := fun DD σ H => ∃ B', tAnyS B' (WSs X B' body) DD σ H) (fun j σ' H' => ∃ as' ρ' cs', Grow as1 as' H1 H' ∧ Fit as' hs ρ' cs' σ' H' ∧ I j ρ' cs') ⟨as1, ρ, cs1, Grow.refl as1 H1, f1, i0⟩ (fun j σ' H' hj ⟨as', ρ', cs', g, f', i'⟩ => ?_) fun σ' H' ⟨as', ρ', cs', g, f', i'⟩ => q.nx _ _ as' ρ' cs' ((g1.trans g).B B) f' (done ρ' cs' i')⟩
  have hle : cs1.length ≤ as'.length := by
    obtain ⟨mm, e⟩ := g.ext
    rw [f1.cells.len, e, List.length_append]; omega
  have ex : ∀ {as'' H3}, GrowB cs1.length as' as'' H' H3 → Grow as1 as'' H1 H3 := fun {as'' H3} g' => by
    have t := (g.B cs1.length).trans g' (by rw [f1.cells.len]; exact Nat.le_refl _)
    rw [f1.cells.len] at t
    exact t.grow
  have fs := f'.set i (v := V.int (lo + (j : Int) * st)) (d := .int (lo + (j : Int) * st)) .int
  refine ⟨cs1.length, _, _, _, step j ρ' cs' hj i', ?_⟩
  have nxt : ∀ σ'' H3 as'' ρ'' cs'', GrowB cs1.length as' as'' H' H3 → Fit as'' hs ρ'' cs'' σ'' H3 → I (j + 1) ρ'' cs'' → ∃ as' ρ' cs', Grow as1 as' H1 H3 ∧ Fit as' hs ρ' cs' σ'' H3 ∧ I (j + 1) ρ' cs' := fun σ'' H3 as'' ρ'' cs'' g' f'' i'' => ⟨as'', ρ'', cs'', ex g', f'', i''⟩
  exact tS_mk (le_cs fs hle) fs ⟨nxt, fun v H3 as'' d' cs'' g' c' r' p' => q.rt v H3 as'' d' cs'' ((g1.trans (ex g')).B B) c' r' p', fun σ'' H3 as'' ρ'' cs'' g' f'' p' => q.nx σ'' H3 as'' ρ'' cs'' ((g1.trans (ex g')).B B) f'' p', nxt⟩
/-- for x in range(a, b) -/
theorem ws_forR2 {hp : PassesOwn (model X.prog X.w) X.A X.env X.xe} (i : Nat) (hc : X.calm = true) (hN : X.N.Nodup) (hm : X.mg "range" = none) (h : WA X [a, b] ρ cs fun ds cs1 => ∃ (lo hi : Int) (I : Nat → Ro → Cs → Prop), ds = [.int lo, .int hi] ∧ (-1000000 ≤ lo ∧ lo ≤ 1000000 ∧ -1000000 ≤ hi ∧ hi ≤ 1000000) ∧ I 0 ρ cs1 ∧
      (∀ (j : Nat) ρ' cs', j < (hi - lo).toNat → I j ρ' cs' → WSs X cs1.length body { nx := I (j + 1), rt := E.rt, bk := E.nx, ct := I (j + 1) } (ρ'.set i (some (.int (lo + (j : Int))))) cs') ∧ (∀ ρ' cs', I (hi - lo).toNat ρ' cs' → E.nx ρ' cs'))
    (hi : X.N[i]? = some x := by rfl) (hx : Loc X.env.scope x := by first | exact .inl rfl | exact .inr rfl) (hf : X.fn x = true ∨ X.env.scope.names.lookup x = some .local := by first | exact .inl rfl | exact .inr rfl)
    (hg : Gl X "range" := by rfl) (hse : starEach [a, b] X.env = [(false, eval a X.env), (false, eval b X.env)] := by rfl) (hse2 : starEach [b] X.env = [(false, eval b X.env)] := by rfl)
    (hs : ∀ x, foldedSetIterable (.Call (.Name "range" cpos) [a, b] [] kpos) X.env x = pure x := by intro _; rfl) : WS X B (.For (.Name x p) (.Call (.Name "range" cpos) [a, b] [] kpos) body [] pos) E ρ cs := by
  refine ws_of (ps_for hp hc (pi_range2 hg hm h hse hse2) (pg_name hN hi hx hf) (⟨fun pins s σ H DD I ⟨B', z⟩ => (pss_any (B := B') (S := WSs X B' body) fun _ _ _ z => z).run pins s σ H DD I z⟩ : PSs X body fun DD σ H => ∃ B', tAnyS B' (WSs X B' body) DD σ H) hs) fun as hs σ H DD hB f q => ?_
  refine subA f fun vs H1 as1 ds cs1 g1 f1 r1 ⟨lo, hi, I, ed, hn, i0, step, done⟩ => ?_
  subst ed
  obtain rfl : vs = [.int lo, .int hi] := by
    cases r1 with
    | cons a1 t =>
      cases t with
      | cons a2 t => cases t; cases a1; cases a2; rfl
  refine ⟨lo, hi, rfl, ⟨by omega, by omega, by omega, by omega⟩, for_range (lo := lo) (n := (hi - lo).toNat) (g := gName i) (tb := fun DD σ H => ∃ B', tAnyS B' (WSs X B' body) DD σ H) (fun j σ' H' => ∃ as' ρ' cs', Grow as1 as' H1 H' ∧ Fit as' hs ρ' cs' σ' H' ∧ I j ρ' cs') ⟨as1, ρ, cs1, Grow.refl as1 H1, f1, i0⟩ (fun j σ' H' hj ⟨as', ρ', cs', g, f', i'⟩ => ?_) fun σ' H' ⟨as', ρ', cs', g, f', i'⟩ => q.nx _ _ as' ρ' cs' ((g1.trans g).B B) f' (done ρ' cs' i')⟩
  have hle : cs1.length ≤ as'.length := by
    obtain ⟨mm, e⟩ := g.ext
    rw [f1.cells.len, e, List.length_append]; omega
  have ex : ∀ {as'' H3}, GrowB cs1.length as' as'' H' H3 → Grow as1 as'' H1 H3 := fun {as'' H3} g' => by
    have t := (g.B cs1.length).trans g' (by rw [f1.cells.len]; exact Nat.le_refl _)
    rw [f1.cells.len] at t
    exact t.grow
  have fs := f'.set i (v := V.int (lo + (j : Int))) (d := .int (lo + (j : Int))) .int
  refine ⟨cs1.length, _, _, _, step j ρ' cs' hj i', ?_⟩
  have nxt : ∀ σ'' H3 as'' ρ'' cs'', GrowB cs1.length as' as'' H' H3 → Fit as'' hs ρ'' cs'' σ'' H3 → I (j + 1) ρ'' cs'' → ∃ as' ρ' cs', Grow as1 as' H1 H3 ∧ Fit as' hs ρ' cs' σ'' H3 ∧ I (j + 1) ρ' cs' := fun σ'' H3 as'' ρ'' cs'' g' f'' i'' => ⟨as'', ρ'', cs'', ex g', f'', i''⟩
  exact tS_mk (le_cs fs hle) fs ⟨nxt, fun v H3 as'' d' cs'' g' c' r' p' => q.rt v H3 as'' d' cs'' ((g1.trans (ex g')).B B) c' r' p', fun σ'' H3 as'' ρ'' cs'' g' f'' p' => q.nx σ'' H3 as'' ρ'' cs'' ((g1.trans (ex g')).B B) f'' p', nxt⟩
/-- name += e, name -= e, two ints -/
theorem ws_augI {op : Operator} {f : Int → Int → Int} (ip : PIp X op (ipI f)) (i : Nat) (n : Int) (h0 : ρ[i]? = some (some (.int n))) (h : W X e ρ cs fun d cs1 => ∃ m, d = .int m ∧ E.nx (ρ.set i (some (.int (f n m)))) cs1) (hN : X.N.Nodup) (hi : X.N[i]? = some x := by rfl) (hx : Loc X.env.scope x := by first | exact .inl rfl | exact .inr rfl)
    (hf : X.fn x = true ∨ X.env.scope.names.lookup x = some .local := by first | exact .inl rfl | exact .inr rfl) : WS X B (.AugAssign (.Name x pos') op e pos) E ρ cs :=
  ws_of (ps_aug hN hi hx h ip hf) fun as hs σ H DD hB ft q => by
    obtain ⟨v, hv, rv⟩ := ft.slot i _ h0
    cases rv
    refine ⟨_, hv, sub1 ft fun u H1 as1 d cs1 g1 f1 r1 ⟨m, ed, hp⟩ => ?_⟩
    subst ed
    cases r1
    exact ⟨n, m, rfl, rfl, q.nx _ _ as1 _ cs1 (g1.B B) (f1.set i .int) hp⟩
theorem ws_inc (i : Nat) (n : Int) (h0 : ρ[i]? = some (some (.int n)) := by rfl) (h : W X e ρ cs fun d cs1 => ∃ m, d = .int m ∧ E.nx (ρ.set i (some (.int (n + m)))) cs1) (hN : X.N.Nodup) (hi : X.N[i]? = some x := by rfl) (hx : Loc X.env.scope x := by first | exact .inl rfl | exact .inr rfl)
    (hf : X.fn x = true ∨ X.env.scope.names.lookup x = some .local := by first | exact .inl rfl | exact .inr rfl) : WS X B (.AugAssign (.Name x pos') .Add e pos) E ρ cs := ws_augI ip_add i n h0 h hN hi hx hf
/-- int(a bool) -/
theorem w_intB (hm : X.mg "int" = none) (h : WA X [e] ρ cs fun ds cs1 => ∃ k, ds = [.bl k] ∧ P (.int (if k = true then 1 else 0)) cs1) (hg : Gl X "int" := by rfl) (he : starEach [e] X.env = (false, eval e X.env) :: starEach [] X.env := by rfl) : W X (.Call (.Name "int" p) [e] [] pos) ρ cs P := by
  refine w_bt (g := fun ds cs1 P => ∃ k, ds = [.bl k] ∧ P (.int (if k = true then 1 else 0)) cs1) call_int1 ?_ hm (by decide +kernel) h hg (he := he)
  rintro as hs H vs ds cs P Q c r ⟨k, rfl, hp⟩ q
  cases r with
  | cons r t =>
    cases t
    cases r
    exact .inr ⟨k, rfl, q _ _ _ _ _ (Grow.refl as H) c .int hp⟩
/-- another word for what holds behind a statement -/
theorem WS.nxt {Q : Ro → Cs → Prop} (h : WS X B st { E with nx := Q } ρ cs) (i : ∀ ρ' cs', Q ρ' cs' → E.nx ρ' cs') : WS X B st E ρ cs :=
  ws_of h fun as hs σ H DD hB f q => tS_mk (le_cs f hB) f ⟨fun σ' H' as' ρ' cs' g f' h' => q.nx σ' H' as' ρ' cs' g f' (i _ _ h'), q.rt, q.bk, q.ct⟩
theorem wss_seq {sts : List Stmt} (Q : Ro → Cs → Prop) (h : WS X B st { E with nx := Q } ρ cs) (k : ∀ ρ' cs', Q ρ' cs' → WSs X B sts E ρ' cs') : WSs X B (st :: sts) E ρ cs :=
  wss_cons (WS.nxt (E := { E with nx := fun ρ' cs' => WSs X B sts E ρ' cs' }) h k)
end
end Rg
set_option Elab.async false
set_option linter.all false
set_option maxRecDepth 100000
/-! comprehensions over range(a, b) -/
namespace Rg
open PySem PySem.Spec
open PyProof.Rows L2
section
variable {X : Cx} {ρ : Ro} {cs : Cs} {elt iter a b c : Expr} {PN : List D → Cs → Prop} {P : PD} {PT' : Bool → Cs → Prop} {E : En} {B : Nat} {pos p py spos cpos kpos : Pos} {x y : Str} {scope : Scope}
def LcR2 (X : Cx) (elt : Expr) (i : Nat) (scope : Scope) (T : Ro → Cs → (Bool → Cs → Prop) → Prop) (ρ : Ro) (cs1 : Cs) (ds : List D) (PN : List D → Cs → Prop) : Prop := ∃ (lo hi : Int) (I : Nat → List D → Cs → Prop), ds = [.int lo, .int hi] ∧ (-1000000 ≤ lo ∧ lo ≤ 1000000 ∧ -1000000 ≤ hi ∧ hi ≤ 1000000) ∧ I 0 [] cs1 ∧ (∀ j acc cs', I j acc cs' → acc.length < 100000) ∧
  (∀ (j : Nat) acc cs', j < (hi - lo).toNat → I j acc cs' → T ((wipeD ρ [i]).set i (some (.int (lo + (j : Int))))) cs' fun k cs2 => if k = true then Blk X scope fun Y => W Y elt ((wipeD ρ [i]).set i (some (.int (lo + (j : Int))))) cs2 fun y cs3 => I (j + 1) (acc ++ [y]) cs3 else I (j + 1) acc cs2) ∧
  (∀ acc cs', I (hi - lo).toNat acc cs' → PN acc cs')
theorem lcr2_reads {i : Nat} {T : Ro → Cs → (Bool → Cs → Prop) → Prop} {as hs : List Addr} {σ : L2.St} {H0 : Hp} {Q : VK} (f : Fit as hs ρ cs σ H0) (q : FinN as hs H0 PN Q) :
    tLc (iRng2 (tDA ρ cs fun ds cs1 => LcR2 X elt i scope T ρ cs1 ds PN)) (gName i) (tTst T) (tElt X elt scope) [i] σ H0 Q := by
  refine subA f fun vs H1 as1 ds cs1 g1 f1 r1 ⟨lo, hi, I, ed, hn, i0, hl, step, done⟩ => ?_
  subst ed
  obtain rfl : vs = [.int lo, .int hi] := by
    cases r1 with
    | cons a1 t =>
      cases t with
      | cons a2 t => cases t; cases a1; cases a2; rfl
  refine ⟨lo, hi, rfl, ⟨by omega, by omega, by omega, by omega⟩, lc_loop (n := (hi - lo).toNat) I (fun j => (wipeD ρ [i]).set i (some (.int (lo + (j : Int))))) f1 i0 ?_ ?_ hl ?_⟩
  · intro D nD j as' cs' acc H hj g f' ij
    refine ⟨fun e => by show (hi - lo).toNat ≤ j; omega, fun hlt => ⟨hlt, fun x H' yy Q' k => ?_⟩⟩
    obtain ⟨e3, ex⟩ := yy
    subst e3 ex
    refine k _ _ ?_ (Grow.refl as' _) ?_
    · show List.set (List.set (List.set σ i none) i (some _)) i none = List.set σ i none
      rw [List.set_set, List.set_set]
    · exact f'.set i .int
  · intro j acc cs' as' hs' σ2 H2 Q' Qn hlt ij f2 k1 k2
    refine ⟨_, cs', _, step j acc cs' hlt ij, as', hs', f2, fun b H3 as3 cs3 g3 c3 p3 => ?_⟩
    cases b with
    | true =>
      rw [if_pos rfl] at p3 ⊢
      exact ⟨_, cs3, _, p3, as3, hs', f2.grow g3 c3, fun y H4 as4 d4 cs4 g4 c4 r4 p4 => k1 y H4 as4 d4 cs4 (g3.trans g4) c4 r4 p4⟩
    | false =>
      rw [if_neg Bool.false_ne_true] at p3 ⊢
      exact k2 H3 as3 cs3 g3 c3 p3
  · intro p H1' as' ds vs cs' g c n r hp
    exact q p H1' as' ds vs cs' (g1.trans g) c n r (done ds cs' hp)
theorem wn_lr2 (i : Nat) (hc : X.calm = true) (hN : X.N.Nodup) (hm : X.mg "range" = none) (ok : BlkOk X.N X.env.scope scope [(x, i)]) (hg : PgB X scope x p i) (h : WA X [a, b] ρ cs fun ds cs1 => LcR2 X elt i scope TNo ρ cs1 ds PN)
    (hgl : Gl X "range" := by rfl) (hse : starEach [a, b] X.env = [(false, eval a X.env), (false, eval b X.env)] := by rfl) (hse2 : starEach [b] X.env = [(false, eval b X.env)] := by rfl)
    (hs : ∀ x, foldedSetIterable (.Call (.Name "range" cpos) [a, b] [] kpos) X.env x = pure x := by intro _; rfl) : WN X (.ListComp elt [⟨.Name x p, .Call (.Name "range" cpos) [a, b] [] kpos, [], 0⟩] scope pos) ρ cs PN :=
  wn_of (pe_lc hc hN (pi_range2 hgl hm h hse hse2) ok hg (fun s H C cl fp => pts_no) pe_elt hs) fun as hs σ H Q f q => lcr2_reads f q
theorem wn_lr2I (i : Nat) (hc : X.calm = true) (hN : X.N.Nodup) (hm : X.mg "range" = none) (ok : BlkOk X.N X.env.scope scope [(x, i)]) (hg : PgB X scope x p i) (h : WA X [a, b] ρ cs fun ds cs1 => LcR2 X elt i scope (TIf X scope c) ρ cs1 ds PN)
    (hgl : Gl X "range" := by rfl) (hse : starEach [a, b] X.env = [(false, eval a X.env), (false, eval b X.env)] := by rfl) (hse2 : starEach [b] X.env = [(false, eval b X.env)] := by rfl)
    (hs : ∀ x, foldedSetIterable (.Call (.Name "range" cpos) [a, b] [] kpos) X.env x = pure x := by intro _; rfl) : WN X (.ListComp elt [⟨.Name x p, .Call (.Name "range" cpos) [a, b] [] kpos, [c], 0⟩] scope pos) ρ cs PN :=
  wn_of (pe_lc hc hN (pi_range2 hgl hm h hse hse2) ok hg pts_if pe_elt hs) fun as hs σ H Q f q => lcr2_reads f q
theorem ws_lr2 (cell : Bool) (iy : Nat) (i : Nat) (hc : X.calm = true) (hN : X.N.Nodup) (hm : X.mg "range" = none) (hsw : swapsWith (.ListComp elt [⟨.Name x p, .Call (.Name "range" cpos) [a, b] [] kpos, [], 0⟩] scope pos) (some (.Name y py)) spos.line X.env = pure true) (ok : BlkOk X.N X.env.scope scope [(x, i)]) (hg : PgB X scope x p i)
    (h : WA X [a, b] ρ cs fun ds cs1 => LcR2 X elt i scope TNo ρ cs1 ds (asN E ρ iy cell)) (hy : X.N[iy]? = some y := by rfl) (hyl : X.env.scope.names.lookup y = some .local := by rfl)
    (hgl : Gl X "range" := by rfl) (hse : starEach [a, b] X.env = [(false, eval a X.env), (false, eval b X.env)] := by rfl) (hse2 : starEach [b] X.env = [(false, eval b X.env)] := by rfl)
    (hs : ∀ x, foldedSetIterable (.Call (.Name "range" cpos) [a, b] [] kpos) X.env x = pure x := by intro _; rfl) : WS X B (.Assign [.Name y py] (.ListComp elt [⟨.Name x p, .Call (.Name "range" cpos) [a, b] [] kpos, [], 0⟩] scope pos) spos) E ρ cs :=
  ws_of (ps_setLc hc hN hy hyl hsw (pi_range2 hgl hm h hse hse2) ok hg (fun s H C cl fp => pts_no) pe_elt hs) fun as hs σ H DD hB f q => setN hB f q cell fun Q k => lcr2_reads f k
/-- is True, is False: two bools -/
theorem w_isB (h : W X a ρ cs fun d1 cs1 => W X b ρ cs1 fun d2 cs2 => ∃ i j, d1 = .bl i ∧ d2 = .bl j ∧ P (.bl (decide (i = j))) cs2) : W X (.Compare a [.Is] [b] pos) ρ cs P :=
  w_cmp (g := fun d1 d2 cs P => ∃ i j, d1 = .bl i ∧ d2 = .bl j ∧ P (.bl (decide (i = j))) cs) op_is_bl (by
    rintro as hs H x y d1 d2 cs P Q c r1 r2 ⟨i, j, rfl, rfl, p⟩ q
    cases r1; cases r2
    exact ⟨i, j, rfl, rfl, q _ _ _ _ _ (Grow.refl as H) c .bl p⟩) (nomark _) h
theorem wt_isB (h : W X a ρ cs fun d1 cs1 => W X b ρ cs1 fun d2 cs2 => ∃ i j, d1 = .bl i ∧ d2 = .bl j ∧ PT' (decide (i = j)) cs2) : WT X (.Compare a [.Is] [b] pos) ρ cs PT' :=
  wt_cmp (g := fun d1 d2 cs P => ∃ i j, d1 = .bl i ∧ d2 = .bl j ∧ P (.bl (decide (i = j))) cs) op_is_bl (by
    rintro as hs H x y d1 d2 cs P Q c r1 r2 ⟨i, j, rfl, rfl, p⟩ q
    cases r1; cases r2
    exact ⟨i, j, rfl, rfl, q _ _ _ _ _ (Grow.refl as H) c .bl p⟩) (nomark _) (h.mono fun _ _ z => W.mono z fun _ _ ⟨i, j, e1, e2, p⟩ => ⟨i, j, e1, e2, _, rfl, p⟩)
theorem wt_isNotB (h : W X a ρ cs fun d1 cs1 => W X b ρ cs1 fun d2 cs2 => ∃ i j, d1 = .bl i ∧ d2 = .bl j ∧ PT' (!decide (i = j)) cs2) : WT X (.Compare a [.IsNot] [b] pos) ρ cs PT' :=
  wt_cmp (g := fun d1 d2 cs P => ∃ i j, d1 = .bl i ∧ d2 = .bl j ∧ P (.bl (!decide (i = j))) cs) op_isnot_bl (by
    rintro as hs H x y d1 d2 cs P Q c r1 r2 ⟨i, j, rfl, rfl, p⟩ q
    cases r1; cases r2
    exact ⟨i, j, rfl, rfl, q _ _ _ _ _ (Grow.refl as H) c .bl p⟩) (nomark _) (h.mono fun _ _ z => W.mono z fun _ _ ⟨i, j, e1, e2, p⟩ => ⟨i, j, e1, e2, _, rfl, p⟩)
end
end Rg
set_option Elab.async false
set_option linter.all false
set_option maxRecDepth 100000
/-! a loop over pairs, xs.clear() -/
namespace Rg
open PySem PySem.Spec
open PyProof.Rows L2
section
variable {X : Cx} {ρ : Ro} {cs : Cs} {e o : Expr} {P : PD} {pos p cpos apos px py tp : Pos} {kt : Nat} {E : En} {B : Nat} {body : List Stmt} {x y : Str}
theorem ws_forT {hp : PassesOwn (model X.prog X.w) X.A X.env X.xe} (i j : Nat) (hc : X.calm = true) (hN : X.N.Nodup) (h : W X e ρ cs fun d cs1 => ∃ (xs : List D) (I : Nat → Ro → Cs → Prop), I 0 ρ cs1 ∧ (∀ t ρ' cs', I t ρ' cs' → LstD cs' d xs) ∧
      (∀ t x ρ' cs', xs[t]? = some x → I t ρ' cs' → ∃ d1 d2, x = .tup [d1, d2] ∧ WSs X cs1.length body { nx := I (t + 1), rt := E.rt, bk := E.nx, ct := I (t + 1) } ((ρ'.set i (some d1)).set j (some d2)) cs') ∧ (∀ ρ' cs', I xs.length ρ' cs' → E.nx ρ' cs'))
    (hg : PG X (.Tuple [.Name x px, .Name y py] kt tp) (gPair X.K i j)) (hs : ∀ x, foldedSetIterable e X.env x = pure x := by intro _; rfl) : WS X B (.For (.Tuple [.Name x px, .Name y py] kt tp) e body [] pos) E ρ cs := by
  refine ws_of (ps_for hp hc (pi_list h) hg (⟨fun pins s σ H DD I ⟨B', z⟩ => (pss_any (B := B') (S := WSs X B' body) fun _ _ _ z => z).run pins s σ H DD I z⟩ : PSs X body fun DD σ H => ∃ B', tAnyS B' (WSs X B' body) DD σ H) hs) fun as hs σ H DD hB f q => ?_
  refine sub1 f fun v H1 as1 d cs1 g1 f1 r1 ⟨xs, I, i0, hl, step, done⟩ => ?_
  obtain ⟨a, vs, ev, hr, rl⟩ := (hl 0 ρ cs1 i0).rep f1.cells r1
  subst ev
  refine ⟨a, rfl, ⟨vs, .inl hr⟩, fun t m σ' H' => m = xs.length - t ∧ t ≤ xs.length ∧ ∃ as' ρ' cs', Grow as1 as' H1 H' ∧ Fit as' hs ρ' cs' σ' H' ∧ I t ρ' cs', ⟨xs.length, by simp, Nat.zero_le _, as1, ρ, cs1, Grow.refl as1 H1, f1, i0⟩, ?_⟩
  rintro t m σ' H' ⟨rfl, hj, as', ρ', cs', g, f', i'⟩
  obtain ⟨a2, vs2, e2, hr2, rl2⟩ := (hl t ρ' cs' i').rep f'.cells (r1.grow g)
  cases e2
  by_cases hlt : t < xs.length
  · have hlv : t < vs2.length := by rw [← rl2.length]; exact hlt
    refine .inr ⟨⟨vs2, vs2[t], .inl hr2, by simp [hlv]⟩, fun σ'' H'' => ∃ as'' ρ'' cs'', Grow as1 as'' H1 H'' ∧ Fit as'' hs ρ'' cs'' σ'' H'' ∧ I (t + 1) ρ'' cs'', fun σ'' H'' z => ⟨xs.length - (t + 1), by omega, rfl, hlt, z⟩, fun y H'' yy => ?_⟩
    obtain ⟨e3, yy⟩ := yy
    subst e3
    obtain ⟨x', hx', rx'⟩ := rl2.get' (yy vs2 (.inl hr2))
    obtain ⟨d1, d2, ex', st⟩ := step t x' ρ' cs' hx' i'
    subst ex'
    have hle : cs1.length ≤ as'.length := by
      obtain ⟨mm, e⟩ := g.ext
      rw [f1.cells.len, e, List.length_append]; omega
    have ex : ∀ {as'' H3}, GrowB cs1.length as' as'' H'' H3 → Grow as1 as'' H1 H3 := fun {as'' H3} g' => by
      have t := (g.B cs1.length).trans g' (by rw [f1.cells.len]; exact Nat.le_refl _)
      rw [f1.cells.len] at t
      exact t.grow
    have nxt : ∀ σ'' H3 as'' ρ'' cs'', GrowB cs1.length as' as'' H'' H3 → Fit as'' hs ρ'' cs'' σ'' H3 → I (t + 1) ρ'' cs'' → ∃ as' ρ' cs', Grow as1 as' H1 H3 ∧ Fit as' hs ρ' cs' σ'' H3 ∧ I (t + 1) ρ' cs' := fun σ'' H3 as'' ρ'' cs'' g' f'' i'' => ⟨as'', ρ'', cs'', ex g', f'', i''⟩
    cases rx' with
    | tup na nh hT rT =>
      cases rT with
      | cons q1 rT =>
        cases rT with
        | cons q2 rT =>
          cases rT
          have fs := (f'.set i q1).set j q2
          exact ⟨_, _, rfl, .inl (.inl hT), rfl, _, _, rfl, _, _, rfl, rfl, cs1.length, _, _, _, st, tS_mk (le_cs fs hle) fs ⟨nxt, fun v H3 as'' d' cs'' g' c' r' p' => q.rt v H3 as'' d' cs'' ((g1.trans (ex g')).B B) c' r' p', fun σ'' H3 as'' ρ'' cs'' g' f'' p' => q.nx σ'' H3 as'' ρ'' cs'' ((g1.trans (ex g')).B B) f'' p', nxt⟩⟩
  · have e : t = xs.length := by omega
    subst e
    exact .inl ⟨⟨vs2, .inl hr2, by rw [← rl2.length]; exact Nat.le_refl _⟩, q.nx _ _ as' ρ' cs' ((g1.trans g).B B) f' (done ρ' cs' i')⟩
/-- xs.clear() -/
theorem w_clear (h : W X o ρ cs fun d cs1 => ∃ k xs, d = .own k ∧ cs1[k]? = some xs ∧ P .non (cs1.set k []))
    (hbase : attributeBase o "clear" X.env (eval o X.env) = eval o X.env := by rfl) (hline : (apos.endLine == cpos.line) = true := by rfl) : W X (.Call (.Attribute o "clear" apos) [] [] cpos) ρ cs P := by
  refine w_me0 (g := fun xs ds cs2 P => ds = [] ∧ P .non []) PySem.F.plainAttrs_list PySem.F.slot_list_clear PySem.F.type_list_clear mt_clear ?_ (h.mono fun _ _ ⟨k, xs, e1, e2, r⟩ => ⟨k, xs, e1, e2, rfl, r⟩) hbase hline
  rintro as hs H k a ds vs cs xs P Q c ea hx r ⟨rfl, hp⟩ q
  obtain ⟨us, h1, h2⟩ := cell_of c ea hx
  cases r
  exact ⟨a, us, rfl, rfl, h1, q _ _ .non _ .non .nil hp⟩
end
end Rg
set_option Elab.async false
set_option linter.all false
set_option maxRecDepth 100000
/-! max of a list; list.index of truth values -/
namespace Rg
open PySem PySem.Spec
open PyProof.Rows L2
section
variable {X : Cx} {ρ : Ro} {cs : Cs} {e o : Expr} {P : PD} {pos p apos cpos : Pos}
theorem w_maxL (hc : X.calm = true) (hm : X.mg "max" = none) (h : WA X [e] ρ cs fun ds cs1 => ∃ d, ∃ ns : List Int, ds = [d] ∧ LstD cs1 d (ns.map .int) ∧ 0 < ns.length ∧ ∀ m, m ∈ ns → (∀ y, y ∈ ns → y ≤ m) → P (.int m) cs1)
    (hg : Gl X "max" := by rfl) (he : starEach [e] X.env = (false, eval e X.env) :: starEach [] X.env := by rfl) : W X (.Call (.Name "max" p) [e] [] pos) ρ cs P := by
  refine w_bi (g := fun ds cs1 P => ∃ d, ∃ ns : List Int, ds = [d] ∧ LstD cs1 d (ns.map .int) ∧ 0 < ns.length ∧ ∀ m, m ∈ ns → (∀ y, y ∈ ns → y ≤ m) → P (.int m) cs1) (cr_max hc) ?_ hm (by decide +kernel) h hg (he := he)
  rintro as hs H vs ds cs P Q c r ⟨d, ns, rfl, hl, h0, hp⟩ q
  cases r with
  | cons r t =>
    cases t
    obtain ⟨a, us, rfl, hr, rl⟩ := hl.rep c r
    have eu : us = ns.map V.int := repL_ints' rl
    subst eu
    exact ⟨a, ns, rfl, .inl hr, h0, fun m hm1 hm2 => q _ _ _ _ _ (Grow.refl as H) c .int (hp m hm1 hm2)⟩
theorem w_indexB (h : W X o ρ cs fun d cs1 => ∃ ns : List Bool, LstD cs1 d (ns.map .bl) ∧ WA X [e] ρ cs1 fun ds cs2 => LstD cs2 d (ns.map .bl) ∧ ∃ y : Bool, ∃ j : Nat, ds = [.bl y] ∧ ns[j]? = some y ∧ (∀ m z, m < j → ns[m]? = some z → z ≠ y) ∧ P (.int (j : Nat)) cs2)
    (hbase : attributeBase o "index" X.env (eval o X.env) = eval o X.env := by rfl) (hfew : ((backTo cpos (starEach [e] X.env)).all (fun x => !x.1) && (backToKw cpos (keywordEach [] X.env)).all (fun x => x.1.isSome) && decide (([e] : List Expr).length + ([] : List Keyword).length + (if ([] : List Keyword).isEmpty then 0 else 1) < 30)) = true := by rfl)
    (hline : (apos.endLine == cpos.line) = true := by rfl) (hs : starEach [e] X.env = (false, eval e X.env) :: starEach [] X.env := by rfl) :
    W X (.Call (.Attribute o "index" apos) [e] [] cpos) ρ cs P := by
  refine w_of (pe_bm PySem.F.plainAttrs_list PySem.F.slot_list_index PySem.F.type_list_index mt_index h (pa_any (S := WA X [e]) fun _ _ _ z => z) hbase hfew hline hs) fun as hs σ H Q f q => sub1 f fun v H1 as1 d cs1 g1 f1 r1 p1 => ?_
  obtain ⟨ns, hl, p1⟩ := p1
  obtain ⟨a, us, rfl, hr, rl⟩ := hl.rep f1.cells r1
  refine ⟨.inl ⟨rfl, _, .inl hr⟩, ρ, cs1, _, p1, subA f1 fun vs H2 as2 ds cs2 g2 f2 r2 ⟨hl2, y, j, ed, hj, hne, p2⟩ => ?_⟩
  subst ed
  obtain ⟨a2, us2, e2, hr2, rl2⟩ := hl2.rep f2.cells (r1.grow g2)
  cases e2
  have eu : us2 = ns.map V.bl := repL_bls' rl2
  subst eu
  cases r2 with
  | cons r2 t =>
    cases t
    cases r2
    refine ⟨a, ns.map V.bl, .bl y, j, .bl y, rfl, rfl, .inl hr2, rfl, by simp [flatV], by rw [List.getElem?_map, hj]; rfl, by simp [eqV], fun m z' hm hz => ?_, q _ _ as2 _ _ (g1.trans g2) f2.cells .int p2⟩
    rw [List.getElem?_map] at hz
    cases hz2 : ns[m]? with
    | none => rw [hz2] at hz; cases hz
    | some z =>
      rw [hz2] at hz
      cases hz
      have := hne m z hm hz2
      simp [eqV, this]
end
end Rg
set_option Elab.async false
set_option linter.all false
set_option maxRecDepth 100000
/-! a, b = a call that gives a pair -/
namespace Rg
open PySem PySem.Spec
open PyProof.Rows L2
section
variable {X : Cx} {ρ : Ro} {cs : Cs} {e o : Expr} {P : PD} {pos p cpos apos px py tp : Pos} {kt : Nat} {E : En} {B : Nat} {body : List Stmt} {x y : Str}
theorem ws_unp (i j : Nat) (h : W X e ρ cs fun d cs1 => ∃ d1 d2, d = .tup [d1, d2] ∧ E.nx ((ρ.set i (some d1)).set j (some d2)) cs1) (hg : PG X (.Tuple [.Name x px, .Name y py] kt tp) (gPair X.K i j))
    (hs : swapsWithSole [.Tuple [.Name x px, .Name y py] kt tp] e pos.line X.env = pure false := by rfl) (hw : swappedStores [.Tuple [.Name x px, .Name y py] kt tp] e X.env = pure none := by rfl)
    (h1 : (assignEach [.Tuple [.Name x px, .Name y py] kt tp] X.env).map (·.2) = [assign (.Tuple [.Name x px, .Name y py] kt tp) X.env] := by rfl) : WS X B (.Assign [.Tuple [.Name x px, .Name y py] kt tp] e pos) E ρ cs := by
  refine ws_of (ps_asg h hg hs hw h1) fun as hs σ H DD hB f q => ?_
  refine sub1 f fun v H1 as1 d cs1 g1 f1 r1 ⟨d1, d2, ed, p1⟩ => ?_
  subst ed
  cases r1 with
  | tup na nh hT rT =>
    cases rT with
    | cons q1 rT =>
      cases rT with
      | cons q2 rT =>
        cases rT
        have fs := (f1.set i q1).set j q2
        exact ⟨_, _, rfl, .inl (.inl hT), rfl, _, _, rfl, _, _, rfl, rfl, q.nx _ _ _ _ _ (g1.B B) fs p1⟩
/-- a part of a pair -/
def gIxP : GD2 := fun d1 d2 cs P => ∃ xs i d, d1 = .tup xs ∧ d2 = .int i ∧ atI xs i = some d ∧ P d cs
theorem od_ixP {K : PySem.W.Frag} : OpD (rIxT K) gIxP := by
  rintro as hs H x y d1 d2 cs P Q c r1 r2 ⟨xs, i, d, rfl, rfl, ha, p⟩ q
  cases r2
  cases r1 with
  | tup na nh hT rT =>
    obtain ⟨v, hv, rv⟩ := atI_rep rT ha
    exact ⟨_, _, i, v, rfl, rfl, .inl (.inl hT), hv, q _ _ _ _ _ (Grow.refl as H) c rv p⟩
theorem w_atP {a b : Expr} (h : W X a ρ cs fun d1 cs1 => W X b ρ cs1 fun d2 cs2 => ∃ xs i d, d1 = .tup xs ∧ d2 = .int i ∧ atI xs i = some d ∧ P d cs2) (hs : PlainIx b := by exact fun _ _ => rfl) : W X (.Subscript a b pos) ρ cs P :=
  w_ix ix_tup od_ixP h hs
end
end Rg
set_option Elab.async false
set_option linter.all false
set_option maxRecDepth 100000
/-! xs.remove(y); dict(zip(xs, ys)) -/
namespace Rg
open PySem PySem.Spec
open PyProof.Rows L2
theorem erase_mapD : ∀ (l : List Int) (j : Nat), (l.map D.int).eraseIdx j = (l.eraseIdx j).map D.int
  | [], j => by simp
  | a :: r, 0 => by simp
  | a :: r, j + 1 => by
    have ih := erase_mapD r j
    simp [ih]
theorem valV_out {k : Key} : ∀ {kvs : List (Key × V)}, k ∉ kvs.map (fun q => q.1) → valV kvs k = none
  | [], _ => rfl
  | q :: t, h => by
    rw [valV_neg (fun e => h (by rw [← e]; simp))]
    exact valV_out fun z => h (by rw [List.map_cons]; exact List.mem_cons_of_mem _ z)
theorem mergeK_new : ∀ {kvs acc : List (Key × V)}, (kvs.map fun q => q.1).Nodup → (∀ k ∈ kvs.map fun q => q.1, k ∉ acc.map fun q => q.1) → mergeK acc kvs = acc ++ kvs
  | [], acc, _, _ => by simp [mergeK]
  | kv :: t, acc, nd, no => by
    have nd' := List.nodup_cons.mp nd
    have h1 : putK acc kv.1 kv.2 = acc ++ [(kv.1, kv.2)] := putK_new _ (valV_out (no _ (by simp)))
    have h2 := mergeK_new (kvs := t) (acc := acc ++ [(kv.1, kv.2)]) nd'.2 fun k hk hm => by
      rw [List.map_append] at hm
      rcases List.mem_append.mp hm with z | z
      · exact no k (by rw [List.map_cons]; exact List.mem_cons_of_mem _ hk) z
      · have : k = kv.1 := by simpa using z
        rw [this] at hk
        exact nd'.1 hk
    show mergeK (putK acc kv.1 kv.2) t = _
    rw [h1, h2, List.append_assoc]; rfl
theorem merge_zip {ks : List Key} {ys : List V} (nd : ks.Nodup) (h : ks.length = ys.length) : mergeK [] (ks.zip ys) = ks.zip ys := by
  have e : (ks.zip ys).map (fun q => q.1) = ks := List.map_fst_zip (by omega)
  rw [mergeK_new (by rw [e]; exact nd) (fun k _ z => by simp at z)]
  rfl
theorem kv_zip : ∀ {ks : List Key} {ys : List V} {us : List Value}, Vals ys us → ks.length = ys.length → KV (ks.zip ys) (ks.zip us)
  | [], [], _, .nil, _ => .nil
  | k :: ks, y :: ys, _, .cons r t, h => .cons ⟨rfl, r⟩ (kv_zip t (by simpa using h))
section
variable {X : Cx} {ρ : Ro} {cs : Cs} {e o a b : Expr} {P : PD} {pos p apos cpos kpos : Pos}
theorem w_remove (h : W X o ρ cs fun d cs1 => ∃ k, d = .own k ∧ WA X [e] ρ cs1 fun ds cs2 => ∃ xs, cs2[k]? = some xs ∧ ∃ (ns : List Int) (y : Int) (j : Nat), xs = ns.map .int ∧ ds = [.int y] ∧ ns[j]? = some y ∧ (∀ m : Nat, m < j → ns[m]? ≠ some y) ∧ P .non (cs2.set k ((ns.eraseIdx j).map .int)))
    (hbase : attributeBase o "remove" X.env (eval o X.env) = eval o X.env := by rfl) (hfew : ((backTo cpos (starEach [e] X.env)).all (fun x => !x.1) && (backToKw cpos (keywordEach [] X.env)).all (fun x => x.1.isSome) && decide (([e] : List Expr).length + ([] : List Keyword).length + (if ([] : List Keyword).isEmpty then 0 else 1) < 30)) = true := by rfl)
    (hline : (apos.endLine == cpos.line) = true := by rfl) (hs : starEach [e] X.env = (false, eval e X.env) :: starEach [] X.env := by rfl) :
    W X (.Call (.Attribute o "remove" apos) [e] [] cpos) ρ cs P := by
  refine w_me (g := fun xs ds cs2 P => ∃ (ns : List Int) (y : Int) (j : Nat), xs = ns.map .int ∧ ds = [.int y] ∧ ns[j]? = some y ∧ (∀ m : Nat, m < j → ns[m]? ≠ some y) ∧ P .non ((ns.eraseIdx j).map .int)) PySem.F.plainAttrs_list PySem.F.slot_list_remove PySem.F.type_list_remove mt_remove ?_ h hbase hfew hline hs
  rintro as hs H k a ds vs cs xs P Q c ea hx r ⟨ns, y, j, rfl, rfl, hj, hno, hp⟩ q
  obtain ⟨us, h1, h2⟩ := cell_of c ea hx
  have eu : us = ns.map V.int := repL_ints' h2
  subst eu
  cases r with
  | cons r t =>
    cases t
    cases r
    have h3 := h2.eraseIdx j
    rw [erase_mapI, erase_mapD] at h3
    exact ⟨a, ns, y, j, rfl, rfl, h1, hj, hno, q _ _ .non _ .non h3 hp⟩
/-- f() -/
theorem pe_call0G {x : Str} {CX : CXT} {k : Nat} {f : Addr} {fd : FuncData} {ps : List Str} {sp : Sp} {E : XK} (F : FnG X.prog X.w X.K X.mg X.base CX k f fd ps sp) (hr : Rm k X.A) (hg : Gl X x) (hm : X.mg x = some (.ref f)) (hk : PySem.W.keepIn X.K (.ref f) = true) (hb : Binds X.K fd ps []) (hx : Passes CX X E)
    (hdb : (x == ("__debug__" : Str)) = false) : PE X (.Call (.Name x p) [] [] pos) fun σ H Q => sp [] H Q E := by
  refine ⟨fun pins s σ H Q I h => wpAny_Call_Name_kw (ld_glob I hg hm ?_ hdb)⟩
  exact PySem.W.callWith_K0 I.kIn hk (run_fnG (us := []) F hr hb hx I .nil h)
theorem w_call0 {x : Str} {k : Nat} {ps : List Str} {g : GD} (F : FnD X.prog X.w X.K X.mg X.base k x ps (spD g)) (hr : Rm k X.A) (h : g [] cs P) (hg : Gl X x := by rfl) (hdb : (x == ("__debug__" : Str)) = false := by decide) : W X (.Call (.Name x p) [] [] pos) ρ cs P := by
  obtain ⟨f, fd, hm, ok, kp, bd⟩ := F.ex
  exact w_of (pe_call0G ok hr hg hm kp bd pass0 hdb) fun as hs σ H Q ft q => ⟨as, hs, [], cs, P, ft.cells, .nil, h, q⟩
/-- dict(zip(a, b)) of lists: the keys differ -/
theorem pe_dictZip {ta : TA} (hc : X.calm = true) (hm : X.mg "dict" = none) (hm2 : X.mg "zip" = none) (ha : PA X [a, b] ta) (hg : Gl X "dict" := by rfl) (hg2 : Gl X "zip" := by rfl)
    (hs : starEach [a, b] X.env = (false, eval a X.env) :: starEach [b] X.env := by rfl) (hpl : (backTo cpos (starEach [b] X.env)).any (fun x => x.1) = false := by rfl)
    (na : starEach [.Call (.Name "zip" p) [a, b] [] cpos] X.env = (false, eval (.Call (.Name "zip" p) [a, b] [] cpos) X.env) :: starEach [] X.env := by rfl) :
    PE X (.Call (.Name "dict" kpos) [.Call (.Name "zip" p) [a, b] [] cpos] [] pos) fun σ H Q => ta σ H fun vs H1 => ∃ (la lb : Addr) (ks : List Key) (ys : List V), vs = [.ref la, .ref lb] ∧ SqL X.K H1 la (ks.map kV) ∧ SqL X.K H1 lb ys ∧ ks.length = ys.length ∧ ∀ q, H1 q = none → Q (.ref q) (upd H1 q (.dK (mergeK [] (ks.zip ys)))) := by
  refine (⟨fun pins s σ H Q I h => ?_⟩)
  have zz : wpAny (model X.prog X.w) X.A (eval (.Call (.Name "zip" p) [a, b] [] cpos) X.env) (fun x s' => ∃ (s1 : Shared) (H1 : Hp) (h' : Heap) (la lb : Addr) (ks : List Key) (ys : List V), x = .ref (s1.heap.objs.size + 4) ∧ s' = { s1 with heap := h' } ∧ Inv X pins σ H1 s1 ∧ SqL X.K H1 la (ks.map kV) ∧ SqL X.K H1 lb ys ∧ ks.length = ys.length ∧ (∀ q, H1 q = none → Q (.ref q) (upd H1 q (.dK (mergeK [] (ks.zip ys))))) ∧
      IsZip h' (s1.heap.objs.size + 4) (s1.heap.objs.size + 2) (s1.heap.objs.size + 3) .none ∧ IsPair h' (s1.heap.objs.size + 2) (.ref s1.heap.objs.size) (.ref (s1.heap.objs.size + 1)) ∧ IsPair h' (s1.heap.objs.size + 3) .none .none ∧ h'.IsListIter s1.heap.objs.size la 0 ∧ h'.IsListIter (s1.heap.objs.size + 1) lb 0 ∧ h'.objs.size = s1.heap.objs.size + 5 ∧ ∀ c o, s1.heap.get? c = some o → h'.get? c = some o) X.xe s := by
    refine Call_ (ld_blt I hg2 hm2 PyProof.Rows.boot_zip (PyProof.Rows.callWith_type1 (thn (ha.run cpos pins s σ H _ I h) fun us s1 ⟨vs, H1, I1, r1, q1⟩ => ?_) hs hpl))
    obtain ⟨la, lb, ks, ys, ex, hqx, hqy, hlen, q⟩ := q1
    subst ex
    cases r1 with
    | cons r rr =>
      cases rr with
      | cons r' rr =>
        cases rr
        cases r
        cases r'
        obtain ⟨its, rv, p1, _⟩ := (I1.list hqx)
        obtain ⟨its2, rv2, p2, _⟩ := (I1.list hqy)
        exact call_zip_2 p1.isList p2.isList fun h' z1 z2 z3 z4 z5 z6 z7 => ⟨s1, H1, h', la, lb, ks, ys, rfl, rfl, I1, hqx, hqy, hlen, q, z1, z2, z3, z4, z5, z6, z7⟩
  refine Call_ (ld_blt I hg hm (show bootBuiltins "dict" = some (.type "dict") by decide +kernel) (PyProof.Rows.callWith_type1 (args_cons (thn zz fun x s' hz => args_nil ?_) na) na))
  obtain ⟨s1, H1, h', la, lb, ks, ys, ex, es, I1, hqx, hqy, hlen, q, z1, z2, z3, z4, z5, z6, z7⟩ := hz
  subst ex es
  obtain ⟨its, rv, p1, hz1⟩ := (I1.list hqx)
  obtain ⟨its2, rv2, p2, hz2⟩ := (I1.list hqy)
  have la' : la < s1.heap.objs.size := p1.lt
  have lb' : lb < s1.heap.objs.size := p2.lt
  have l1 := rv.length
  have l2 := rv2.length
  rw [List.length_map] at l1 hz1
  have D : ZipApart (s1.heap.objs.size + 4) (s1.heap.objs.size + 2) (s1.heap.objs.size + 3) s1.heap.objs.size (s1.heap.objs.size + 1) la lb := PySem.W.ktu_apart s1.heap.objs.size la lb la' lb'
  have hn : min its.toArray.size its2.toArray.size = ks.length := by rw [List.size_toArray, List.size_toArray]; omega
  have P := PairArg.zip (prog := X.prog) (w := X.w) _ _ _ _ _ _ _ D its.toArray its2.toArray
  rw [hn] at P
  refine PySem.call_dict_pairs (knd := mixKind X.prog X.w) (kvs := ks.zip its2) P (I1.ok.hd hc) ⟨z1, z2, ⟨_, _, z3⟩, z4, z5, p1.isList.at fun o e => z7 _ o e, p2.isList.at fun o e => z7 _ o e⟩ ⟨by simp only [List.length_zip, List.size_toArray]; omega, fun i key v ⟨hk, hv⟩ => ?_⟩ hz1 fun h'' tk hd' hk => ?_
  · have hi : i < its2.length := by
      have := (Array.getElem?_eq_some_iff.mp hv).1
      simpa using this
    have hik : i < ks.length := by omega
    have h1 : ks[i]? = some ks[i] := List.getElem?_eq_getElem hik
    obtain ⟨u, hu, ru⟩ := rv.get (i := i) (x := kV ks[i]) (by rw [List.getElem?_map, h1]; rfl)
    have eu : u = key := by
      have : its[i]? = some key := by simpa using hk
      rw [hu] at this; exact Option.some.inj this
    subst eu
    exact ⟨ks[i], List.getElem?_zip_eq_some.mpr ⟨h1, by simpa using hv⟩, kV_is ru⟩
  · have hm' : (h'.objs.size == sysModules) = false := beq_eq_false_iff_ne.mpr (Nat.ne_of_gt (Nat.lt_of_lt_of_le I1.big (by rw [z6]; exact Nat.le_add_right _ _)))
    have hlen' : (mergeK [] (ks.zip ys)).length ≤ sizeLine := by
      refine Nat.le_trans (length_mergeK (ks.zip ys) []) ?_
      rw [List.length_nil, List.length_zip]
      omega
    have rel : KV (ks.zip ys) (ks.zip its2) := kv_zip rv2 hlen
    have k2 : ∀ c o, s1.heap.get? c = some o → h''.get? c = some o := fun c o e => hk c o (fun m => by
      have hc9 : c < s1.heap.objs.size := Heap.lt_size e
      simp only [List.mem_cons, List.not_mem_nil, or_false] at m
      rcases m with m | m | m | m
      · rw [m] at hc9; exact Nat.lt_irrefl _ (Nat.lt_of_le_of_lt (Nat.le_add_right _ _) hc9)
      · rw [m] at hc9; exact Nat.lt_irrefl _ (Nat.lt_of_le_of_lt (Nat.le_add_right _ _) hc9)
      · rw [m] at hc9; exact Nat.lt_irrefl _ hc9
      · rw [m] at hc9; exact Nat.lt_irrefl _ (Nat.lt_of_le_of_lt (Nat.le_add_right _ _) hc9)) (z7 c o e)
    exact ⟨.ref h'.objs.size, upd H1 h'.objs.size (.dK (mergeK [] (ks.zip ys))), I1.laid (t' := tk) k2 (by rw [z6]; omega) (show ObjOk X.prog X.w _ _ _ (.dK (mergeK [] (ks.zip ys))) from ⟨hlen', hm', merged [] (ks.zip its2), KV.merge rel .nil, hd'⟩), rfl, q _ (I1.hok.fresh (by rw [z6]; omega))⟩
theorem w_dictZip (hc : X.calm = true) (hm : X.mg "dict" = none) (hm2 : X.mg "zip" = none) (h : WA X [a, b] ρ cs fun ds cs1 => ∃ (d1 d2 : D) (ns : List Int) (xs : List D), ds = [d1, d2] ∧ LstD cs1 d1 (ns.map .int) ∧ LstD cs1 d2 xs ∧ ns.length = xs.length ∧ ns.Nodup ∧ P (.dct (ns.map .inl) xs) cs1) (hg : Gl X "dict" := by rfl) (hg2 : Gl X "zip" := by rfl)
    (hs : starEach [a, b] X.env = (false, eval a X.env) :: starEach [b] X.env := by rfl) (hpl : (backTo cpos (starEach [b] X.env)).any (fun x => x.1) = false := by rfl)
    (na : starEach [.Call (.Name "zip" p) [a, b] [] cpos] X.env = (false, eval (.Call (.Name "zip" p) [a, b] [] cpos) X.env) :: starEach [] X.env := by rfl) :
    W X (.Call (.Name "dict" kpos) [.Call (.Name "zip" p) [a, b] [] cpos] [] pos) ρ cs P := by
  refine w_of (pe_dictZip hc hm hm2 h hg hg2 hs hpl na) fun as hs σ H Q f q => subA f fun vs H1 as1 ds cs1 g1 f1 r1 ⟨d1, d2, ns, xs, ed, h1, h2, hl, nd, hp⟩ => ?_
  subst ed
  cases r1 with
  | cons r1 t =>
    cases t with
    | cons r2 t =>
      cases t
      obtain ⟨la, us, rfl, hr, rl⟩ := h1.rep f1.cells r1
      obtain ⟨lb, ws, rfl, hr2, rl2⟩ := h2.rep f1.cells r2
      have eu : us = ns.map V.int := repL_ints' rl
      subst eu
      have hlw := rl2.length
      have nd2 : (ns.map (Sum.inl : Int → Key)).Nodup := List.Pairwise.map _ (fun a b h => fun z => h (Sum.inl.inj z)) nd
      refine ⟨la, lb, ns.map .inl, ws, rfl, .inl (by rw [List.map_map]; exact hr), .inl hr2, by rw [List.length_map]; omega, fun p np => ?_⟩
      rw [merge_zip nd2 (by rw [List.length_map]; omega)]
      exact q _ _ as1 _ cs1 (g1.trans (Grow.laid np)) (f1.cells.laid np) (.dct (f1.cells.fresh np).1 (f1.cells.fresh np).2 upd_same (by rw [List.length_map]; exact hl) (rl2.grow (Grow.laid np))) hp
end
end Rg
set_option Elab.async false
set_option linter.all false
set_option maxRecDepth 100000
/-! a dict that is filled, one statement after the other; sorted(d) -/
namespace Rg
open PySem PySem.Spec
open PyProof.Rows L2
/-- the dict at Dd, hidden, at slot i: its keys, what they hold -/
structure DFit (as hs : List Addr) (Dd : Addr) (i : Nat) (ρ : Ro) (cs : Cs) (ks : List Key) (ds : List D) (σ : L2.St) (H : Hp) : Prop where
  fit : Fit as (Dd :: hs) ρ cs σ H
  at_ : σ[i]? = some (some (.ref Dd))
  dct : ∃ us, H Dd = some (.dK (ks.zip us)) ∧ ks.length = us.length ∧ RepL as (Dd :: hs) H ds us
abbrev NxF := Ro → Cs → List Key → List D → Prop
def tF (i : Nat) (Nx : NxF) (ρ : Ro) (cs : Cs) (ks : List Key) (ds : List D) : TS := fun DD σ H => ∃ as0 H0 as hs Dd, H0 Dd = none ∧ Grow as0 as H0 H ∧ DFit as hs Dd i ρ cs ks ds σ H ∧ ∀ σ' H' as' ρ' cs' ks' ds', Grow as0 as' H0 H' → DFit as' hs Dd i ρ' cs' ks' ds' σ' H' → Nx ρ' cs' ks' ds' → DD.nx σ' H'
def WF (X : Cx) (i : Nat) (st : Stmt) (Nx : NxF) (ρ : Ro) (cs : Cs) (ks : List Key) (ds : List D) : Prop := PS X st (tF i Nx ρ cs ks ds)
def WFs (X : Cx) (i : Nat) (sts : List Stmt) (Nx : NxF) (ρ : Ro) (cs : Cs) (ks : List Key) (ds : List D) : Prop := PSs X sts (tF i Nx ρ cs ks ds)
theorem DFit.grow {as hs as1 : List Addr} {Dd : Addr} {i : Nat} {ρ ρ1 : Ro} {cs cs1 : Cs} {ks : List Key} {ds : List D} {σ σ1 : L2.St} {H H1 : Hp} (f : DFit as hs Dd i ρ cs ks ds σ H) (g : Grow as as1 H H1) (f1 : Fit as1 (Dd :: hs) ρ1 cs1 σ1 H1) (e : σ1[i]? = some (some (.ref Dd))) : DFit as1 hs Dd i ρ1 cs1 ks ds σ1 H1 := by
  obtain ⟨us, h1, h2, h3⟩ := f.dct
  exact ⟨f1, e, us, g.keep _ _ (f.fit.cells.hid Dd List.mem_cons_self).1 h1, h2, h3.grow g⟩
theorem grow_hole0 {as : List Addr} {H : Hp} {Dd : Addr} : Grow as as (hole H Dd) H := ⟨⟨[], by simp⟩, fun a h n => absurd h n, fun b o _ hb => by
  by_cases e : b = Dd
  · rw [e, hole_at] at hb; cases hb
  · rwa [hole_ne e] at hb⟩
theorem Grow.hole2 {as as' : List Addr} {H H' : Hp} {Dd : Addr} (g : Grow as as' (Rg.hole H Dd) H') : Grow as as' (Rg.hole H Dd) (Rg.hole H' Dd) := ⟨g.ext, g.new, fun b o nb hb => by
  by_cases e : b = Dd
  · rw [e, hole_at] at hb; cases hb
  · rw [hole_ne e]; exact g.keep b o nb hb⟩
theorem Grow.base {as0 as as' : List Addr} {H0 H H' : Hp} {Dd : Addr} (n0 : H0 Dd = none) (g : Grow as0 as H0 H) (g' : Grow as as' (Rg.hole H Dd) H') : Grow as0 as' H0 H' := by
  have h1 : Grow as0 as H0 (Rg.hole H Dd) := ⟨g.ext, g.new, fun b o nb hb => (hole_ne (ne_of_none hb n0)).trans (g.keep b o nb hb)⟩
  exact h1.trans g'
theorem Rep.past {as as' hs : List Addr} {H H' : Hp} {Dd : Addr} {d : D} {v : V} (r : Rep as (Dd :: hs) H d v) (g : Grow as as' (Rg.hole H Dd) H') : Rep as' (Dd :: hs) H' d v :=
  ((r.hole.grow g.hole2).hide (p := Dd) hole_at).mut fun b _ m => (hole_ne fun e => m (by rw [e]; exact List.mem_cons_self)).symm
theorem putK_at {k : Key} {v : V} : ∀ {ks : List Key} {us : List V} {p : Nat}, ks.Nodup → ks.length = us.length → ks[p]? = some k → putK (ks.zip us) k v = ks.zip (us.set p v)
  | ks, us, p, nd, hl, hp => by
    have hpl := (List.getElem?_eq_some_iff.mp hp).1
    have hu : us[p]? = some us[p] := List.getElem?_eq_getElem (by omega)
    have hx : (k, us[p]) ∈ ks.zip us := List.mem_of_getElem? (List.getElem?_zip_eq_some.mpr ⟨hp, hu⟩)
    have hany : ((ks.zip us).any fun kv => decide (kv.1 = k)) = true := List.any_eq_true.mpr ⟨_, hx, by simp⟩
    unfold putK
    rw [if_pos hany]
    apply List.ext_getElem?
    intro t
    rw [List.getElem?_map]
    by_cases ht : t < ks.length
    · have h1 : ks[t]? = some ks[t] := List.getElem?_eq_getElem ht
      have h2 : us[t]? = some us[t] := List.getElem?_eq_getElem (by omega)
      have e1 : (ks.zip us)[t]? = some (ks[t], us[t]'(by omega)) := List.getElem?_zip_eq_some.mpr ⟨h1, h2⟩
      rw [e1]
      by_cases e : p = t
      · subst e
        have ek : ks[p] = k := by rw [h1] at hp; exact Option.some.inj hp
        have h3 : (us.set p v)[p]? = some v := List.getElem?_set_self (by omega)
        have e3 : (ks.zip (us.set p v))[p]? = some (ks[p], v) := List.getElem?_zip_eq_some.mpr ⟨h1, h3⟩
        rw [e3]
        simp [ek]
      · have ne : ks[t] ≠ k := fun z => by
          obtain ⟨q, e2⟩ := List.getElem?_eq_some_iff.mp hp
          exact e ((List.getElem_inj nd).mp (e2.trans z.symm))
        have h3 : (us.set p v)[t]? = some us[t] := by rw [List.getElem?_set_ne e]; exact h2
        have e3 : (ks.zip (us.set p v))[t]? = some (ks[t], us[t]'(by omega)) := List.getElem?_zip_eq_some.mpr ⟨h1, h3⟩
        rw [e3]
        simp [ne]
    · rw [List.getElem?_eq_none (by rw [List.length_zip]; omega), List.getElem?_eq_none (by rw [List.length_zip, List.length_set]; omega)]; rfl
section
variable {X : Cx} {ρ : Ro} {cs : Cs} {ks : List Key} {ds : List D} {e a b c o ky kz iter : Expr} {Nx : NxF} {E : En} {P : PD} {PN : List D → Cs → Prop} {pos p apos cpos kpos pos' px py tp mpos : Pos} {x y : Str} {B i kt : Nat} {st : Stmt} {sts body rest : List Stmt}
def tAnyF (i : Nat) (S : NxF → Ro → Cs → List Key → List D → Prop) : TS := fun DD σ H => ∃ Nx ρ cs ks ds, S Nx ρ cs ks ds ∧ tF i Nx ρ cs ks ds DD σ H
theorem pssF_any : PSs X sts (tAnyF i (WFs X i sts)) := ⟨fun pins s σ H DD I ⟨Nx, ρ, cs, ks, ds, hs, q⟩ => hs.run pins s σ H DD I q⟩
theorem wfs_nil (h : Nx ρ cs ks ds) : WFs X i [] Nx ρ cs ks ds := pss_imp pss_nil fun DD σ H ⟨as0, H0, as, hs, Dd, n0, g, f, q⟩ => q σ H as ρ cs ks ds g f h
theorem wfs_one (h : WF X i st Nx ρ cs ks ds) : WFs X i [st] Nx ρ cs ks ds := pss_imp (pss_one h) fun DD σ H z => z
theorem wfs_cons (h : WF X i st (fun ρ' cs' ks' ds' => WFs X i sts Nx ρ' cs' ks' ds') ρ cs ks ds) : WFs X i (st :: sts) Nx ρ cs ks ds :=
  pss_imp (pss_cons h pssF_any) fun DD σ H ⟨as0, H0, as, hs, Dd, n0, g, f, q⟩ => ⟨as0, H0, as, hs, Dd, n0, g, f, fun σ' H' as' ρ' cs' ks' ds' g' f' h' => ⟨Nx, ρ', cs', ks', ds', h', as0, H0, as', hs, Dd, n0, g', f', q⟩⟩
/-- name = {}; one statement that fills it; the rest has the dict as it then is -/
theorem wss_fill (i : Nat) (hi : X.N[i]? = some x) (hN : X.N.Nodup) (hil : i < ρ.length) (h : WF X i st (fun ρ' cs' ks ds => ks.length = ds.length ∧ WSs X B rest E (ρ'.set i (some (.dct ks ds))) cs') (ρ.set i none) cs [] [])
    (hx : Loc X.env.scope x := by first | exact .inl rfl | exact .inr rfl) (hs : swapsWith (.Dict [] [] pos') (some (.Name x px)) pos.line X.env = pure false := by rfl)
    (hf : X.fn x = true ∨ X.env.scope.names.lookup x = some .local := by first | exact .inl rfl | exact .inr rfl) : WSs X B (.Assign [.Name x px] (.Dict [] [] pos') pos :: st :: rest) E ρ cs := by
  refine wss_of (pss_cons (ps_set hN hi hx pe_dnewK hs hf) (pss_cons h (pss_any (B := B) (S := WSs X B rest) fun _ _ _ z => z))) fun as hs σ H DD hB f q => ?_
  intro p np
  have fr := f.cells.fresh np
  refine ⟨as, H, as, hs, p, np, Grow.laid np, ⟨⟨f.cells.hide np, by simp [f.slen], fun j d e => ?_⟩, List.getElem?_set_self (by rw [← f.slen]; exact hil), [], upd_same, rfl, .nil⟩, fun σ' H' as' ρ' cs' ks' ds' g' f' ⟨hl, hw⟩ => ?_⟩
  · by_cases hj : j = i
    · subst hj
      rw [List.getElem?_set_self hil] at e; cases e
    · rw [List.getElem?_set_ne (Ne.symm hj)] at e
      rw [List.getElem?_set_ne (Ne.symm hj)]
      obtain ⟨v, h1, h2⟩ := f.slot j d e
      exact ⟨v, h1, (h2.hide np).grow (Grow.laid np)⟩
  · obtain ⟨us, u1, u2, u3⟩ := f'.dct
    have sub : ∀ a, a ∈ hs → a ∈ p :: hs := fun a h => List.mem_cons_of_mem _ h
    have f2 : Fit as' hs (ρ'.set i (some (.dct ks' ds'))) cs' σ' H' := ⟨f'.fit.cells.show1, by simp [f'.fit.slen], fun j d e => by
      by_cases hj : j = i
      · subst hj
        have hjl : j < ρ'.length := by
          have := (List.getElem?_eq_some_iff.mp e).1
          simpa using this
        rw [List.getElem?_set_self hjl] at e; cases e
        exact ⟨_, f'.at_, .dct (f'.fit.cells.hid p List.mem_cons_self).1 fr.2 u1 hl (u3.show sub)⟩
      · rw [List.getElem?_set_ne (Ne.symm hj)] at e
        obtain ⟨v, h1, h2⟩ := f'.fit.slot j d e
        exact ⟨v, h1, h2.show sub⟩⟩
    exact ⟨E, _, cs', hw, tS_mk (le_cs f2 ((g'.B B).le hB)) f2 (q.next (g'.B B) hB)⟩
/-- for over a list -/
theorem wf_for {hp : PassesOwn (model X.prog X.w) X.A X.env X.xe} (j : Nat) (hij : j ≠ i) (hc : X.calm = true) (hN : X.N.Nodup) (h : W X e ρ cs fun d cs1 => ∃ (xs : List D) (I : Nat → NxF), I 0 ρ cs1 ks ds ∧ (∀ t ρ' cs' ks' ds', I t ρ' cs' ks' ds' → LstD cs' d xs) ∧
      (∀ t x ρ' cs' ks' ds', xs[t]? = some x → I t ρ' cs' ks' ds' → WFs X i body (I (t + 1)) (ρ'.set j (some x)) cs' ks' ds') ∧ (∀ ρ' cs' ks' ds', I xs.length ρ' cs' ks' ds' → Nx ρ' cs' ks' ds'))
    (hi : X.N[j]? = some x := by rfl) (hx : Loc X.env.scope x := by first | exact .inl rfl | exact .inr rfl) (hf : X.fn x = true ∨ X.env.scope.names.lookup x = some .local := by first | exact .inl rfl | exact .inr rfl)
    (hs : ∀ x, foldedSetIterable e X.env x = pure x := by intro _; rfl) : WF X i (.For (.Name x p) e body [] pos) Nx ρ cs ks ds := by
  refine ps_imp (ps_for hp hc (pi_list h) (pg_name hN hi hx hf) (pssF_any (X := X) (i := i) (sts := body)) hs) fun DD σ H ⟨as0, H0, as, hs, Dd, n0, g0, f, q⟩ => ?_
  refine sub1 f.fit fun v H1 as1 d cs1 g1 f1 r1 ⟨xs, I, i0, hl, step, done⟩ => ?_
  obtain ⟨a, vs, ev, hr, rl⟩ := (hl 0 ρ cs1 ks ds i0).rep f1.cells r1
  subst ev
  refine ⟨a, rfl, ⟨vs, .inl hr⟩, fun t m σ' H' => m = xs.length - t ∧ t ≤ xs.length ∧ ∃ as' ρ' cs' ks' ds', Grow as1 as' (hole H1 Dd) H' ∧ DFit as' hs Dd i ρ' cs' ks' ds' σ' H' ∧ I t ρ' cs' ks' ds', ⟨xs.length, by simp, Nat.zero_le _, as1, ρ, cs1, ks, ds, grow_hole0, f.grow g1 f1 f.at_, i0⟩, ?_⟩
  rintro t m σ' H' ⟨rfl, hj, as', ρ', cs', ks', ds', g, f', i'⟩
  obtain ⟨a2, vs2, e2, hr2, rl2⟩ := (hl t ρ' cs' ks' ds' i').rep f'.fit.cells (r1.past g)
  cases e2
  by_cases hlt : t < xs.length
  · have hlv : t < vs2.length := by rw [← rl2.length]; exact hlt
    refine .inr ⟨⟨vs2, vs2[t], .inl hr2, by simp [hlv]⟩, fun σ'' H'' => ∃ as'' ρ'' cs'' ks'' ds'', Grow as1 as'' (hole H1 Dd) H'' ∧ DFit as'' hs Dd i ρ'' cs'' ks'' ds'' σ'' H'' ∧ I (t + 1) ρ'' cs'' ks'' ds'', fun σ'' H'' z => ⟨xs.length - (t + 1), by omega, rfl, hlt, z⟩, fun y H'' yy => ?_⟩
    obtain ⟨e3, yy⟩ := yy
    subst e3
    obtain ⟨x', hx', rx'⟩ := rl2.get' (yy vs2 (.inl hr2))
    refine ⟨_, _, _, _, _, step t x' ρ' cs' ks' ds' hx' i', as1, hole H1 Dd, as', hs, Dd, hole_at, g, ⟨f'.fit.set j rx', by rw [List.getElem?_set_ne hij]; exact f'.at_, f'.dct⟩, fun σ2 H2 as2 ρ2 cs2 ks2 ds2 g2 f2 h2 => ⟨as2, ρ2, cs2, ks2, ds2, g2, f2, h2⟩⟩
  · have e : t = xs.length := by omega
    subst e
    exact .inl ⟨⟨vs2, .inl hr2, by rw [← rl2.length]; exact Nat.le_refl _⟩, q _ _ as' ρ' cs' ks' ds' ((g0.trans g1).base n0 g) f' (done ρ' cs' ks' ds' i')⟩
/-- for over enumerate(list) -/
theorem wf_forE {hp : PassesOwn (model X.prog X.w) X.A X.env X.xe} (j l : Nat) (hij : j ≠ i) (hil : l ≠ i) (hc : X.calm = true) (hN : X.N.Nodup) (hm : X.mg "enumerate" = none) (h : WA X [e] ρ cs fun es cs1 => ∃ (d : D) (xs : List D) (I : Nat → NxF), es = [d] ∧ I 0 ρ cs1 ks ds ∧ (∀ t ρ' cs' ks' ds', I t ρ' cs' ks' ds' → LstD cs' d xs) ∧
      (∀ t x ρ' cs' ks' ds', xs[t]? = some x → I t ρ' cs' ks' ds' → WFs X i body (I (t + 1)) ((ρ'.set j (some (.int (t : Nat)))).set l (some x)) cs' ks' ds') ∧ (∀ ρ' cs' ks' ds', I xs.length ρ' cs' ks' ds' → Nx ρ' cs' ks' ds'))
    (hg : PG X (.Tuple [.Name x px, .Name y py] kt tp) (gPair X.K j l)) (hgl : Gl X "enumerate" := by rfl) (hse : starEach [e] X.env = [(false, eval e X.env)] := by rfl)
    (hs : ∀ x, foldedSetIterable (.Call (.Name "enumerate" cpos) [e] [] kpos) X.env x = pure x := by intro _; rfl) : WF X i (.For (.Tuple [.Name x px, .Name y py] kt tp) (.Call (.Name "enumerate" cpos) [e] [] kpos) body [] pos) Nx ρ cs ks ds := by
  refine ps_imp (ps_for hp hc (pi_enum hgl hm h hse) hg (pssF_any (X := X) (i := i) (sts := body)) hs) fun DD σ H ⟨as0, H0, as, hs, Dd, n0, g0, f, q⟩ => ?_
  refine subA f.fit fun vs H1 as1 es cs1 g1 f1 r1 ⟨d, xs, I, ed, i0, hl, step, done⟩ => ?_
  subst ed
  cases r1 with
  | @cons _ _ v1 _ r1 t =>
    cases t
    obtain ⟨a, us, ev, hr, rl⟩ := (hl 0 ρ cs1 ks ds i0).rep f1.cells r1
    subst ev
    refine ⟨a, us, rfl, .inl hr, fun t m σ' H' => m = xs.length - t ∧ t ≤ xs.length ∧ ∃ as' ρ' cs' ks' ds', Grow as1 as' (hole H1 Dd) H' ∧ DFit as' hs Dd i ρ' cs' ks' ds' σ' H' ∧ I t ρ' cs' ks' ds', ⟨xs.length, by simp, Nat.zero_le _, as1, ρ, cs1, ks, ds, grow_hole0, f.grow g1 f1 f.at_, i0⟩, ?_⟩
    rintro t m σ' H' ⟨rfl, hk, as', ρ', cs', ks', ds', g, f', ik⟩
    obtain ⟨a2, vs2, e2, hr2, rl2⟩ := (hl t ρ' cs' ks' ds' ik).rep f'.fit.cells (r1.past g)
    cases e2
    by_cases hlt : t < xs.length
    · have hlv : t < vs2.length := by rw [← rl2.length]; exact hlt
      refine .inr ⟨⟨vs2, vs2[t], .inl hr2, by simp [hlv]⟩, fun σ'' H'' => ∃ as'' ρ'' cs'' ks'' ds'', Grow as1 as'' (hole H1 Dd) H'' ∧ DFit as'' hs Dd i ρ'' cs'' ks'' ds'' σ'' H'' ∧ I (t + 1) ρ'' cs'' ks'' ds'', fun σ'' H'' z => ⟨xs.length - (t + 1), by omega, rfl, hlt, z⟩, fun v H'' yy => ?_⟩
      obtain ⟨Tt, x1, rfl, nT, rfl, yy⟩ := yy
      obtain ⟨x', hx', rx'⟩ := rl2.get' (yy vs2 (.inl hr2))
      refine pair_go (d1 := .int (t : Nat)) (d2 := x') f'.fit nT .int rx' fun gg ff => ⟨_, _, _, _, _, step t x' ρ' cs' ks' ds' hx' ik, as1, hole H1 Dd, as', hs, Dd, hole_at, g.trans gg, f'.grow gg ff (by rw [List.getElem?_set_ne hil, List.getElem?_set_ne hij]; exact f'.at_), fun σ2 H2 as2 ρ2 cs2 ks2 ds2 g2 f2 h2 => ⟨as2, ρ2, cs2, ks2, ds2, g2, f2, h2⟩⟩
    · have e : t = xs.length := by omega
      subst e
      exact .inl ⟨⟨vs2, .inl hr2, by rw [← rl2.length]; exact Nat.le_refl _⟩, q _ _ as' ρ' cs' ks' ds' ((g0.trans g1).base n0 g) f' (done ρ' cs' ks' ds' ik)⟩
/-- the new entry -/
theorem put_end {as0 as as2 hs : List Addr} {H0 H H2 : Hp} {Dd : Addr} {σ : L2.St} {DD : Ends} {k : Key} {d : D} {v : V} (n0 : H0 Dd = none) (g0 : Grow as0 as H0 H) (f : DFit as hs Dd i ρ cs ks ds σ H)
    (q : ∀ σ' H' as' ρ' cs' ks' ds', Grow as0 as' H0 H' → DFit as' hs Dd i ρ' cs' ks' ds' σ' H' → Nx ρ' cs' ks' ds' → DD.nx σ' H') {cs2 : Cs} (g : Grow as as2 H H2) (f2 : Fit as2 (Dd :: hs) ρ cs2 σ H2) (r : Rep as2 (Dd :: hs) H2 d v) (hl : ks.length < 100000)
    (hp : (k ∉ ks ∧ Nx ρ cs2 (ks ++ [k]) (ds ++ [d])) ∨ ∃ p : Nat, ks[p]? = some k ∧ ks.Nodup ∧ Nx ρ cs2 ks (ds.set p d)) : ∃ H4, DPut H2 Dd (kV k) v H4 ∧ DD.nx σ H4 := by
  obtain ⟨us, h1, h2, h3⟩ := f.dct
  have hD : H2 Dd = some (.dK (ks.zip us)) := g.keep _ _ (f.fit.cells.hid Dd List.mem_cons_self).1 h1
  have hz : (ks.zip us).length < sizeLine := by
    rw [List.length_zip, ← h2, Nat.min_self]
    exact sz_lt hl
  refine ⟨_, DPut.k hD hz, ?_⟩
  have mutD : ∀ {o : HO} (b : Addr), b ∉ as2 → b ∉ Dd :: hs → upd H2 Dd o b = H2 b := fun {o} b _ m => upd_ne fun e => m (by rw [e]; exact List.mem_cons_self)
  have gg := g0.trans g
  have gu : ∀ {o : HO}, Grow as0 as2 H0 (upd H2 Dd o) := fun {o} => ⟨gg.ext, gg.new, fun a o' na ha => by rw [upd_ne (ne_of_none ha n0)]; exact gg.keep a o' na ha⟩
  have fu : ∀ {o : HO} (nt : NoT o), Fit as2 (Dd :: hs) ρ cs2 σ (upd H2 Dd o) := fun {o} nt => ⟨f2.cells.dmut List.mem_cons_self nt, f2.slen, fun j d' e => by
    obtain ⟨v', a, b⟩ := f2.slot j d' e
    exact ⟨v', a, b.mut mutD⟩⟩
  have ra := h3.grow g
  rcases hp with ⟨hk, hn⟩ | ⟨p, hk, nd, hn⟩
  · refine q σ _ as2 ρ cs2 _ _ gu ⟨fu True.intro, f.at_, us ++ [v], ?_, by simp [h2], (ra.append (.cons r .nil)).mut mutD⟩ hn
    rw [upd_same, putK_new _ (valV_zip_none hk), zip_snoc h2]
  · refine q σ _ as2 ρ cs2 _ _ gu ⟨fu True.intro, f.at_, us.set p v, ?_, by simp [h2], (ra.set r p).mut mutD⟩ hn
    rw [upd_same, putK_at nd h2 hk]
/-- found[key] = e -/
theorem wf_put (hu : X.A.units + 1 < cLine) (hi : X.N[i]? = some x) (hv : Vis X.env.scope x) (h : W X e ρ cs fun d cs1 => W X ky ρ cs1 fun dk cs2 => ∃ k, dk = keyD k ∧ ks.length < 100000 ∧ ((k ∉ ks ∧ Nx ρ cs2 (ks ++ [k]) (ds ++ [d])) ∨ ∃ p : Nat, ks[p]? = some k ∧ ks.Nodup ∧ Nx ρ cs2 ks (ds.set p d)))
    (hs : swapsWith e (some (.Subscript (.Name x px) ky pos')) pos.line X.env = pure false := by rfl) (hd : (x == ("__debug__" : Str)) = false := by decide) (hcd : (x == ("__classdict__" : Str)) = false := by decide) : WF X i (.Assign [.Subscript (.Name x px) ky pos'] e pos) Nx ρ cs ks ds := by
  refine ps_imp (ps_dput hu (pe_var (i := i) hi hv hd hcd) (pe_any (S := W X ky) fun _ _ _ z => z) h hs) fun DD σ H ⟨as0, H0, as, hs, Dd, n0, g0, f, q⟩ => ?_
  refine sub1 f.fit fun v H1 as1 d cs1 g1 f1 r1 p1 => ⟨.ref Dd, f.at_, ρ, cs1, _, p1, sub1 f1 fun y H2 as2 dk cs2 g2 f2 r2 ⟨k, ek, hl, hp⟩ => ?_⟩
  subst ek
  have ey := keyD_rep r2
  subst ey
  obtain ⟨H4, h4, h5⟩ := put_end n0 g0 f q (g1.trans g2) f2 (r1.grow g2) hl hp
  exact ⟨Dd, H4, rfl, h4, h5⟩
/-- found[key] = found.get(ka, kz) + b -/
theorem wf_putGet (hu : X.A.units + 1 < cLine) (hi : X.N[i]? = some x) (hv : Vis X.env.scope x) (m : M2 X (.Name x px) "get" apos e kz cpos)
    (h : W X e ρ cs fun dk cs1 => ∃ k, dk = keyD k ∧ W X kz ρ cs1 fun d0 cs2 => W X b ρ cs2 fun d2 cs3 => ∃ (dv : D) (xs ys : List D), ((k ∉ ks ∧ dv = d0) ∨ ∃ p : Nat, ks[p]? = some k ∧ ks.Nodup ∧ ds[p]? = some dv) ∧ TrkD cs3 dv xs ∧ TrkD cs3 d2 ys ∧ xs.length + ys.length ≤ 100000 ∧
      W X ky ρ cs3 fun dk cs4 => ∃ k, dk = keyD k ∧ ks.length < 100000 ∧ ((k ∉ ks ∧ Nx ρ cs4 (ks ++ [k]) (ds ++ [.lst (xs ++ ys)])) ∨ ∃ p : Nat, ks[p]? = some k ∧ ks.Nodup ∧ Nx ρ cs4 ks (ds.set p (.lst (xs ++ ys)))))
    (hs : swapsWith (.BinOp (.Call (.Attribute (.Name x px) "get" apos) [e, kz] [] cpos) .Add b kpos) (some (.Subscript (.Name x py) ky pos')) pos.line X.env = pure false := by rfl) (hd : (x == ("__debug__" : Str)) = false := by decide) (hcd : (x == ("__classdict__" : Str)) = false := by decide) :
    WF X i (.Assign [.Subscript (.Name x py) ky pos'] (.BinOp (.Call (.Attribute (.Name x px) "get" apos) [e, kz] [] cpos) .Add b kpos) pos) Nx ρ cs ks ds := by
  refine ps_imp (ps_dput hu (pe_var (i := i) hi hv hd hcd) (pe_any (S := W X ky) fun _ _ _ z => z) (pe_op op_cat (pe_dget2 hu (pe_var (i := i) hi hv hd hcd) h (pe_any (S := W X kz) fun _ _ _ z => z) m) (pe_any (S := W X b) fun _ _ _ z => z)) hs) fun DD σ H ⟨as0, H0, as, hs, Dd, n0, g0, f, q⟩ => ?_
  obtain ⟨us, h1, h2, h3⟩ := f.dct
  have keepD : ∀ {as' : List Addr} {H' : Hp}, Grow as as' H H' → H' Dd = some (.dK (ks.zip us)) := fun {as' H'} g => g.keep _ _ (f.fit.cells.hid Dd List.mem_cons_self).1 h1
  refine ⟨.ref Dd, f.at_, Dd, rfl, .inl ⟨_, .inl h1⟩, sub1 f.fit fun y H1 as1 dk cs1 g1 f1 r1 ⟨k, ek, p1⟩ => ⟨ρ, cs1, _, p1, sub1 f1 fun z H2 as2 d0 cs2 g2 f2 r2 p2 => ?_⟩⟩
  subst ek
  have ey := keyD_rep r1
  subst ey
  have gg := g1.trans g2
  refine ⟨_, DGet.k (k := k) (keepD gg), ρ, cs2, _, p2, sub1 f2 fun w H3 as3 d2 cs3 g3 f3 r3 ⟨dv, xs, ys, hdv, hx, hy, hxy, p3⟩ => ?_⟩
  have g13 := gg.trans g3
  have rv : Rep as3 (Dd :: hs) H3 dv ((valV (ks.zip us) k).getD z) := by
    rcases hdv with ⟨hk, e⟩ | ⟨p, hk, nd, hp⟩
    · rw [valV_zip_none hk, e]; exact r2.grow g3
    · obtain ⟨u, hu2, ru⟩ := h3.get hp
      rw [valV_zip_at nd hk hu2]
      exact ru.grow g13
  obtain ⟨pa, va, ea, ha, la⟩ := hx.rep f3.cells rv
  obtain ⟨pb, vb, eb, hb, lb⟩ := hy.rep f3.cells r3
  refine ⟨pa, pb, va, vb, ea, eb, ha, hb, by rw [← la.length, ← lb.length]; exact sz_of hxy, fun pp hn => ?_⟩
  have gl := Grow.laid (as := as3) (o := .lst (va ++ vb)) hn
  have fr := f3.cells.fresh hn
  have f4 : Fit as3 (Dd :: hs) ρ cs3 σ (upd H3 pp (.lst (va ++ vb))) := f3.grow gl (f3.cells.laid hn)
  refine ⟨.ref Dd, f.at_, ρ, cs3, _, p3, sub1 f4 fun y2 H5 as5 dk2 cs5 g5 f5 r5 ⟨k2, ek2, hl, hp⟩ => ?_⟩
  subst ek2
  have ey2 := keyD_rep r5
  subst ey2
  have rl : Rep as3 (Dd :: hs) (upd H3 pp (.lst (va ++ vb))) (.lst (xs ++ ys)) (.ref pp) := .lst fr.1 fr.2 upd_same ((la.append lb).grow gl)
  obtain ⟨H6, h6, h7⟩ := put_end n0 g0 f q ((g13.trans gl).trans g5) f5 (rl.grow g5) hl hp
  exact ⟨Dd, H6, rfl, h6, h7⟩
/-- sorted(d), its keys whole numbers -/
theorem wn_sortedD (hc : X.calm = true) (hm : X.mg "sorted" = none) (h : WA X [e] ρ cs fun ds cs1 => ∃ (ns : List Int) (xs : List D), ds = [.dct (ns.map .inl) xs] ∧ ns.length < 64 ∧ ∀ ns' : List Int, ns'.Perm ns → ns'.Pairwise (· ≤ ·) → PN (ns'.map .int) cs1) (hg : Gl X "sorted" := by rfl) (he : starEach [e] X.env = (false, eval e X.env) :: starEach [] X.env := by rfl) : WN X (.Call (.Name "sorted" p) [e] [] pos) ρ cs PN := by
  refine wn_bi (g := fun ds cs1 P => ∃ (ns : List Int) (xs : List D), ds = [.dct (ns.map .inl) xs] ∧ ns.length < 64 ∧ ∀ ns' : List Int, ns'.Perm ns → ns'.Pairwise (· ≤ ·) → P (ns'.map .int) cs1) (call_sortedDI hc) ?_ hm (by decide +kernel) h hg (he := he)
  rintro as hs H vs ds cs P Q c r ⟨ns, xs, rfl, h64, hp⟩ q
  cases r with
  | cons r t =>
    cases t
    cases r with
    | @dct a _ us _ n1 n2 hd hl rl =>
      have hlu := rl.length
      refine ⟨a, _, ns, rfl, .inl hd, List.map_fst_zip (by rw [← hlu]; omega), h64, fun ys pp pm pw hn => ?_⟩
      exact q pp H as _ _ cs (Grow.refl as H) c hn (repL_ints ys) (hp ys pm pw)
end
end Rg
set_option Elab.async false
set_option linter.all false
set_option maxRecDepth 100000
/-! xs[::j], j one or minus one; sum(xs) -/
namespace Rg
open PySem PySem.Spec
open PyProof.Rows L2
section
variable {X : Cx} {ρ : Ro} {cs : Cs} {e st : Expr} {PN : List D → Cs → Prop} {P : PD} {te ts : TE} {p p2 pos : Pos}
theorem pe_sliceS (he : PE X e te) (hst : PE X st ts) : PE X (.Subscript e (.Slice none none (some st) p2) pos) fun σ H Q => te σ H fun x H1 => ts σ H1 fun y H2 => ∃ (a : Addr) (xs : List V) (j : Int), x = .ref a ∧ y = .int j ∧ SqL X.K H2 a xs ∧ (j = -1 ∨ j = 1) ∧ ∀ q, H2 q = none → Q (.ref q) (upd H2 q (.lst (if j = -1 then xs.reverse else xs))) := by
  refine (⟨fun pins s σ H Q I h => ?_⟩)
  refine (Subscript_ (thn (he.run pins s σ H _ I h) fun v s1 ⟨x, H1, I1, r1, q1⟩ => ?_))
  refine wpAny_Slice ?_
  rw [evalPart_none, evalPart_some]
  refine wpAny_pure (wpAny_pure (thn (hst.run pins s1 σ H1 _ I1 q1) fun vk s3 ⟨y, H3, I3, ry, a, xs, j, ex, ey, hx, hj, q3⟩ => ?_))
  subst ex ey
  obtain rfl : v = (Value.ref a) := r1
  obtain ⟨t, rfl⟩ := ry
  have I4 : Inv X pins σ H3 { s3 with heap := s3.heap.push { cls := .type "slice", data := .fields #[.none, .none, .int j t] } } := I3.kept (t' := s3.toks) fun b ob q => Heap.get?_push_of_some _ q
  obtain ⟨its, r, ht, hz⟩ := I4.list hx
  have hlen := r.length
  show wpAny (model X.prog X.w) X.A (subscriptTail e (.Slice none none (some st) p2) (.ref a) (.ref s3.heap.objs.size)) (EP X pins σ Q) X.xe { s3 with heap := s3.heap.push { cls := .type "slice", data := .fields #[.none, .none, .int j t] } }
  refine tail_any (ops := [.ref a, .ref s3.heap.objs.size]) ht.isList.typeIs slot_list_getitem.lookup ?_ (by with_unfolding_all rfl)
  have hj0 : some j ≠ some 0 := fun z => by
    have := Option.some.inj z
    omega
  refine wpAny_getItem_list_slice ht.isList (Heap.IsSliceOf.new ..) .none .none (.int j t) hj0 ?_ (by rw [List.size_toArray]; omega)
  have fin : ∀ {zs : List V} {us : List Value}, Vals zs us → zs.length ≤ sizeLine → (∀ q, H3 q = none → Q (.ref q) (upd H3 q (.lst zs))) → EP X pins σ Q (.ref (s3.heap.push { cls := .type "slice", data := .fields #[.none, .none, .int j t] }).objs.size) { s3 with heap := (s3.heap.push { cls := .type "slice", data := .fields #[.none, .none, .int j t] }).push { cls := .type "list", data := .seq us.toArray } } := fun {zs us} r hz q => by
    refine ⟨.ref _, _, I4.laid (t' := s3.toks) (o := .lst zs) (fun b ob q => Heap.get?_push_of_some _ q) (Nat.le_refl _) ?_, rfl, q _ (I4.hok.fresh (Nat.le_refl _))⟩
    exact ⟨hz, _, 0, r, Heap.get?_push_size _ rfl⟩
  rcases hj with rfl | rfl
  · rw [PySem.W.krv_pick]
    have e1 : its.toArray.toList.reverse = its.reverse := by simp
    rw [e1]
    exact fin r.reverse (by rw [List.length_reverse]; exact hz) fun q hq => by
      have := q3 q hq
      rwa [if_pos rfl] at this
  · have e1 : slicePick its.toArray none none (some 1) = its.toArray := by
      have h := slicePick_cut its none none
      have e2 : slicePick its.toArray none none (some 1) = slicePick its.toArray none none none := rfl
      rw [e2, h, HT.sIx_none, HT.sIx_none, List.drop_zero, Nat.sub_zero, (List.take_length)]
    rw [e1]
    exact fin r hz fun q hq => by
      have := q3 q hq
      rwa [if_neg (by decide)] at this
/-- xs[::j] -/
theorem wn_sliceS (h : W X e ρ cs fun d cs1 => W X st ρ cs1 fun d2 cs2 => ∃ (xs : List D) (j : Int), LstD cs2 d xs ∧ d2 = .int j ∧ (j = -1 ∨ j = 1) ∧ PN (if j = -1 then xs.reverse else xs) cs2) : WN X (.Subscript e (.Slice none none (some st) p2) pos) ρ cs PN := by
  refine wn_of (pe_sliceS h (pe_any (S := W X st) fun _ _ _ z => z)) fun as hs σ H Q f q => sub1 f fun v H1 as1 d cs1 g1 f1 r1 p1 => ⟨ρ, cs1, _, p1, sub1 f1 fun v2 H2 as2 d2 cs2 g2 f2 r2 ⟨xs, j, hl, e2, hj, hp⟩ => ?_⟩
  subst e2
  cases r2
  obtain ⟨a, us, rfl, hr, rl⟩ := hl.rep f2.cells (r1.grow g2)
  refine ⟨a, us, j, rfl, rfl, .inl hr, hj, fun pp hn => ?_⟩
  have rr : RepL as2 hs H2 (if j = -1 then xs.reverse else xs) (if j = -1 then us.reverse else us) := by
    split
    · exact rl.reverse
    · exact rl
  exact q pp H2 as2 _ _ cs2 (g1.trans g2) f2.cells hn rr hp
/-- sum(xs), whole numbers -/
theorem w_sum (hc : X.calm = true) (hm : X.mg "sum" = none) (h : WA X [e] ρ cs fun ds cs1 => ∃ d, ∃ ns : List Int, ds = [d] ∧ LstD cs1 d (ns.map .int) ∧ P (.int ns.sum) cs1) (hg : Gl X "sum" := by rfl) (he : starEach [e] X.env = (false, eval e X.env) :: starEach [] X.env := by rfl) : W X (.Call (.Name "sum" p) [e] [] pos) ρ cs P := by
  refine w_bi (g := fun ds cs1 P => ∃ d, ∃ ns : List Int, ds = [d] ∧ LstD cs1 d (ns.map .int) ∧ P (.int ns.sum) cs1) (cr_sum hc) ?_ hm (by decide +kernel) h hg (he := he)
  rintro as hs H vs ds cs P Q c r ⟨d, ns, rfl, hl, hp⟩ q
  cases r with
  | cons r t =>
    cases t
    obtain ⟨a, us, rfl, hr, rl⟩ := hl.rep c r
    have eu : us = ns.map V.int := repL_ints' rl
    subst eu
    exact ⟨a, ns, rfl, .inl hr, q _ _ _ _ _ (Grow.refl as H) c .int hp⟩
end
end Rg
set_option Elab.async false
set_option linter.all false
set_option maxRecDepth 100000
/-! a set of ints out of which None is thrown, its truth, its members in order -/
namespace Rg
open PySem PySem.Spec
open PyProof.Rows L2
theorem set_noBool : typeLookup (.type "set") "__bool__" = pure none := by
  rw [typeLookup_type, (builtinLookup_eq_fast)]
  kernel_rfl
section
variable {pr : Program} {w : World} {Ar : Around} {Er : Value → Shared → Prop} {st : Shared} {ad : Addr} {Sm : Int → Bool} {nn : Nat}
theorem set_truth {Q : Bool → Shared → Prop} (R : SetR w st.heap ad Sm nn) (h : Q ((nn : Int) != 0) { st with toks := st.toks + 1 + 1 }) : wpAny (model pr w) Ar (truthy (.ref ad)) Q Er st := by
  obtain ⟨o, es, ep, t, ho, hx, hd, _, _, _, hb, hf, hn, _⟩ := R
  have b0 : es.size < scanBound := hb
  have b1 : scanBound = 4096 := rfl
  have ty : st.TypeIs (.ref ad) "set" := ⟨o, ho, hx.1⟩
  have lenRun : wpAny (model pr w) Ar (runValue (.builtin "len" ⟨[.ref ad], []⟩)) (fun r z => r = .int es.size (st.toks + 1) ∧ Q ((nn : Int) != 0) z) Er st := by
    refine (wpAny_runValue (codeAny_builtin entry_len ?_))
    rw [(Around.under_plainId plain_len _)]
    refine wpAny_mono (wpAny_len_body_set (Q := fun r z => r = .int es.size (st.toks + 1) ∧ Q ((nn : Int) != 0) z) ho hx hd hf (by omega) ⟨rfl, h⟩) (fun fin z hz => ?_) fun _ _ e => e
    obtain ⟨r, rfl, hq⟩ := hz
    exact hq
  have fin2 : wpAny (model pr w) Ar (runValue (.builtin "len" ⟨[.ref ad], []⟩)) (fun r z => wpAny (model pr w) Ar (match r with | .int i _ => pure (i != 0) | _ => pure true) Q Er z) Er st := by
    refine wpAny_mono lenRun (fun r z hz => ?_) fun _ _ e => e
    obtain ⟨rfl, hq⟩ := hz
    exact wpAny_pure (by rw [hn]; exact hq)
  unfold truthy
  first
    | refine (wpAny_bind (wpAny_callSpecial?_none (name := Str.ofString "__bool__") ty set_noBool ?_))
    | refine (wpAny_bind (wpAny_pure (wpAny_bind (wpAny_callSpecial?_none (name := Str.ofString "__bool__") ty set_noBool ?_))))
  first
    | refine (wpAny_bind (wpAny_specialOf (name := Str.ofString "__len__") ty F.slot_set_len.lookup ?_))
    | refine (wpAny_bind (wpAny_pure (wpAny_bind (wpAny_specialOf (name := Str.ofString "__len__") ty F.slot_set_len.lookup ?_))))
  first
    | exact wpAny_bind (wpAny_mono lenRun (fun r z hz => by obtain ⟨rfl, hq⟩ := hz; exact wpAny_pure (by rw [hn]; exact hq)) fun _ _ e => e)
    | exact wpAny_bind (wpAny_pure (wpAny_bind (wpAny_mono lenRun (fun r z hz => by obtain ⟨rfl, hq⟩ := hz; exact wpAny_pure (by rw [hn]; exact hq)) fun _ _ e => e)))
/-- the set among keys that may be None -/
theorem SetR.withNone (R : SetR w st.heap ad Sm nn) : ∃ S', st.heap.SetOf (noneKind pr w) ad S' nn ∧ S' none = false := by
  obtain ⟨o, es, ep, t, ho, hx, hd, g, _, _, hb, hf, hn, _⟩ := R
  refine ⟨fun k => es.toList.any fun e => (noneKind pr w).is k e.2, ⟨o, es, ep, t, ho, hx, hd, fun e he => ?_, fun k => List.any_eq_true, hb, hf, hn⟩, ?_⟩
  · obtain ⟨k, tk, e1, e2⟩ := g e he
    refine ⟨⟨some (.inl k), ?_, e2⟩, by rw [e1]; rfl⟩
    rw [e1]
    show keyIs (.inl k) (.int k tk) = true
    exact beq_self_eq_true k
  · refine Bool.eq_false_iff.mpr fun z => ?_
    obtain ⟨e, he, q⟩ := List.any_eq_true.mp z
    obtain ⟨k, tk, e1, _⟩ := g e he
    rw [e1] at q
    exact nomatch (show false = true from q)
theorem set_dropNone {Q : Value → Shared → Prop} (R : SetR w st.heap ad Sm nn) (h : ∀ tk, Q .none { st with toks := tk }) : wpAny (model pr w) Ar (call (.builtin "set.discard") [.ref ad, .none]) Q Er st := by
  obtain ⟨S', hS, h0⟩ := SetR.withNone (pr := pr) R
  refine wpAny_call_entry F.slot_set_discard hS.typeIs F.entry_set_discard ?_ (F.args_set_discard_2 _ _)
  unfold Builtin.«set.discard» Builtin.Frozenset.oneOther
  simp only [List.isEmpty_nil, (bind_assoc)]
  unfold Builtin.Frozenset.addrOf Builtin.Frozenset.withSetAsKey setDiscard setDiscardHashed
  refine (wpAny_bind (wpAny_pure ?_))
  try dsimp only
  refine (wpAny_bind (wpAny_pure ?_))
  try dsimp only
  refine (wpAny_bind (wpAny_tryCatch ?_))
  refine (wpAny_holding ?_)
  have hk : (noneKind pr w).is none .none = true := rfl
  refine (wpAny_bind ((noneKind pr w).pyHash hk ?_))
  refine wpAny_bind (wpAny_setFind_of (s := { st with toks := st.toks + 1 }) hk rfl hS fun r hr => ?_)
  rw [h0] at hr
  cases r with
  | some i => cases hr
  | none => exact wpAny_pure (wpAny_pure ⟨_, rfl, h _⟩)
end
section
variable {X : Cx}
theorem tru_setI : TruR X fun x H Q => ∃ a S n, x = .ref a ∧ H a = some (SetO X.w a S n) ∧ (∃ k, S k = true) ∧ Q true H := by
  intro pins s σ H x v Q I rx h
  obtain ⟨a, S, n, rfl, e, ⟨k, hk⟩, q⟩ := h
  cases rx
  have R := setO_get I e
  have np : ((n : Int) != 0) = true := by
    obtain ⟨_, es, _, _, _, _, _, _, _, hm, _, _, hn, _⟩ := R
    have m := (hm k).mp hk
    have : 0 < es.size := by
      rcases Nat.eq_zero_or_pos es.size with z | z
      · have : es.toList = [] := List.eq_nil_of_length_eq_zero (by rw [Array.length_toList]; exact z)
        rw [this] at m
        exact nomatch m
      · exact z
    simp; omega
  exact set_truth R ⟨H, I.tok _, by rw [np]; exact q⟩
variable {o : Expr} {to : TE} {j : Nat} {apos cpos npos : Pos}
theorem pe_dropNone (ho : PE X o to) (hbase : attributeBase o "discard" X.env (eval o X.env) = eval o X.env := by rfl)
    (hfew : ((backTo cpos (starEach [.Constant .none j npos] X.env)).all (fun x => !x.1) && (backToKw cpos (keywordEach [] X.env)).all (fun x => x.1.isSome) && decide (([.Constant .none j npos] : List Expr).length + ([] : List Keyword).length + (if ([] : List Keyword).isEmpty then 0 else 1) < 30)) = true := by rfl)
    (hline : (apos.endLine == cpos.line) = true := by rfl) (hs : starEach [.Constant .none j npos] X.env = (false, eval (.Constant .none j npos) X.env) :: starEach [] X.env := by rfl) (hplain : (backTo cpos (starEach [] X.env)).any (·.1) = false := by rfl) :
    PE X (.Call (.Attribute o "discard" apos) [.Constant .none j npos] [] cpos) fun σ H Q => to σ H fun x H1 => ∃ a S n, x = .ref a ∧ H1 a = some (SetO X.w a S n) ∧ Q .non H1 := by
  refine (⟨fun pins s σ H Q I h => ?_⟩)
  refine wpAny_Call_method_late hbase hfew hline rfl (thn (ho.run pins s σ H _ I h) fun v s1 ⟨x, H1, I1, r1, a, S, n, ex, hka, q1⟩ => ?_)
  subst ex
  have R := setO_get I1 hka
  cases r1
  have hS : s1.heap.SetOf (intKind X.prog X.w) a S n := (R.setOf)
  refine (⟨"set", "set.discard", F.plainAttrs_set, F.slot_set_discard, F.type_set_discard, hS.typeIs, hS.noDict, ?_⟩)
  have hA := (pa_cons (pe_non (j := j) (pos := npos)) pa_nil hs).run cpos pins s1 σ H1 (fun vs H2 => vs = [.non] ∧ H2 = H1) I1 (show _ from ⟨rfl, rfl⟩)
  rw [hs] at hA ⊢
  refine (Calls.callWith_builtin (by show (false || (backTo cpos (starEach [] X.env)).any (·.1)) = false; rw [hplain] <;> rfl) (Calls.evalArgs_plain ?_))
  refine thn hA fun us s2 ⟨vs, H2, I2, r2, e1, e2⟩ => ?_
  subst e1 e2
  cases r2 with
  | cons r t =>
    cases t
    cases r
    exact set_dropNone (setO_get I2 hka) fun tk => ⟨.non, H2, I2.tok _, rfl, q1⟩
end
theorem Fit.drop {as hs : List Addr} {ρ : Ro} {cs : Cs} {σ : L2.St} {H : Hp} (f : Fit as hs ρ cs σ H) (i : Nat) (v : V) : Fit as hs (ρ.set i none) cs (σ.set i (some v)) H :=
  ⟨f.cells, by simp [f.slen], fun k d e => by
    by_cases hk : k = i
    · subst hk
      by_cases hl : k < ρ.length
      · rw [List.getElem?_set_self hl] at e; cases e
      · rw [List.getElem?_eq_none (by simpa using hl)] at e; cases e
    · rw [List.getElem?_set_ne (Ne.symm hk)] at e ⊢
      exact f.slot k d e⟩
section
variable {X : Cx} {ρ : Ro} {cs : Cs} {E : En} {e : Expr} {B j0 j1 : Nat} {x y : Str} {px p cpos pos px2 apos npos cpos2 pos2 px3 upos npos2 rpos ipos py sp px4 scpos spos : Pos} {rest : List Stmt}
/-- x = set(e); x.discard(None); if not x: return None; y = sorted(x), over ints, not empty, fewer than 64 -/
theorem wss_setSorted (i j : Nat) (hc : X.calm = true) (hN : X.N.Nodup) (hm : X.mg "set" = none) (hm2 : X.mg "sorted" = none) (hi : X.N[i]? = some x) (hj : X.N[j]? = some y) (hil : i < ρ.length)
    (h : W X e ρ cs fun d cs1 => ∃ ns : List Int, LstD cs1 d (ns.map .int) ∧ ns ≠ [] ∧ ns.length < 64 ∧ ∀ ns' : List Int, ns'.Pairwise (· < ·) → (∀ k, k ∈ ns' ↔ k ∈ ns) → WSs X B rest E ((ρ.set i none).set j (some (.lst (ns'.map .int)))) cs1)
    (hg : Gl X "set" := by rfl) (hg2 : Gl X "sorted" := by rfl) (he : starEach [e] X.env = (false, eval e X.env) :: starEach [] X.env := by rfl)
    (hx : Loc X.env.scope x := by first | exact .inl rfl | exact .inr rfl) (hf : X.fn x = true ∨ X.env.scope.names.lookup x = some .local := by first | exact .inl rfl | exact .inr rfl)
    (hy : Loc X.env.scope y := by first | exact .inl rfl | exact .inr rfl) (hf2 : X.fn y = true ∨ X.env.scope.names.lookup y = some .local := by first | exact .inl rfl | exact .inr rfl)
    (hv : Vis X.env.scope x := by first | exact Or.inl rfl | exact Or.inr (Or.inl rfl) | exact Or.inr (Or.inr rfl)) (hdb : (x == ("__debug__" : Str)) = false := by decide) (hcd : (x == ("__classdict__" : Str)) = false := by decide)
    (hs1 : swapsWith (.Call (.Name "set" p) [e] [] cpos) (some (.Name x px)) pos.line X.env = pure false := by rfl)
    (hs2 : swapsWith (.Call (.Attribute (.Name x px2) "discard" apos) [.Constant .none j0 npos] [] cpos2) none pos2.line X.env = pure false := by rfl)
    (hs3 : swapsWith (.Call (.Name "sorted" sp) [.Name x px4] [] scpos) (some (.Name y py)) spos.line X.env = pure false := by rfl)
    (he3 : starEach [.Name x px4] X.env = (false, eval (.Name x px4) X.env) :: starEach [] X.env := by rfl)
    (hit : ∀ whole, isTrue (.Name x px3) X.env whole = (do let v ← whole; standAt (Expr.Name x px3).pos; holding [v] (truthy v)) := by intro _; rfl)
    (hbase : attributeBase (.Name x px2) "discard" X.env (eval (.Name x px2) X.env) = eval (.Name x px2) X.env := by rfl)
    (hfew : ((backTo cpos2 (starEach [.Constant .none j0 npos] X.env)).all (fun x => !x.1) && (backToKw cpos2 (keywordEach [] X.env)).all (fun x => x.1.isSome) && decide (([.Constant .none j0 npos] : List Expr).length + ([] : List Keyword).length + (if ([] : List Keyword).isEmpty then 0 else 1) < 30)) = true := by rfl)
    (hline : (apos.endLine == cpos2.line) = true := by rfl) (hs : starEach [.Constant .none j0 npos] X.env = (false, eval (.Constant .none j0 npos) X.env) :: starEach [] X.env := by rfl) (hplain : (backTo cpos2 (starEach [] X.env)).any (·.1) = false := by rfl) :
    WSs X B (.Assign [.Name x px] (.Call (.Name "set" p) [e] [] cpos) pos :: .Expr (.Call (.Attribute (.Name x px2) "discard" apos) [.Constant .none j0 npos] [] cpos2) pos2 :: .If (.UnaryOp .Not (.Name x px3) upos) [.Return (some (.Constant .none j1 npos2)) rpos] [] ipos :: .Assign [.Name y py] (.Call (.Name "sorted" sp) [.Name x px4] [] scpos) spos :: rest) E ρ cs := by
  refine wss_of (pss_cons (ps_set hN hi hx (pe_callTy (cr_setL hc) hg hm (by decide +kernel) (pa_cons h pa_nil he) (by decide) (by decide) he rfl) hs1 hf)
    (pss_cons (ps_expr (pe_dropNone (pe_var hi hv hdb hcd) hbase hfew hline hs hplain) hs2)
    (pss_cons (ps_if (pt_not (pt_truthR (pe_var hi hv hdb hcd) tru_setI hit)) (pss_one (ps_ret pe_non)) pss_nil)
    (pss_cons (ps_set hN hj hy (pe_callB (cr_sortedSet hc) hg2 hm2 (by decide +kernel) (pa_cons (pe_var hi hv hdb hcd) pa_nil he3) (by decide) (by decide) he3 rfl) hs3 hf2) (pss_any (B := B) (S := WSs X B rest) fun _ _ _ z => z))))) fun as hs σ H DD hB f q => ?_
  refine sub1 f fun v H1 as1 d cs1 g1 f1 r1 ⟨ns, hl, ne, h64, hp⟩ => ?_
  obtain ⟨a, vs, rfl, hr, rl⟩ := hl.rep f1.cells r1
  have ev := repL_ints' rl
  subst ev
  refine ⟨a, ns, rfl, .inl hr, by omega, fun pp c hn hcn => ?_⟩
  obtain ⟨k0, hk0⟩ : ∃ k, k ∈ ns := List.exists_mem_of_ne_nil _ ne
  have hil2 : i < σ.length := by rw [← f1.slen]; exact hil
  have at_ : (σ.set i (some (V.ref pp)))[i]? = some (some (V.ref pp)) := List.getElem?_set_self hil2
  refine ⟨_, at_, pp, _, c, rfl, upd_same, ⟨_, at_, pp, _, c, rfl, upd_same, ⟨k0, decide_eq_true hk0⟩, ?_⟩⟩
  show tNext _ _ _
  show tAsg (tCB (rSortedSet X.w) (tCons (tVar i) tNil)) (gName j) _ _ _
  refine ⟨_, at_, pp, _, c, rfl, upd_same, by omega, fun ns' p2 pw mem len hn2 => ?_⟩
  have f2 : Fit as1 hs ρ cs1 σ (upd H1 pp (SetO X.w pp (fun j => decide (j ∈ ns)) c)) := f1.grow (Grow.laid hn) (f1.cells.laid hn)
  have f3 := (f2.drop i (.ref pp)).grow (Grow.laid (o := .lst (ns'.map V.int)) hn2) (f2.cells.laid hn2)
  have np := f2.cells.fresh hn2
  have f4 := f3.set j (d := .lst (ns'.map .int)) (v := .ref p2) (.lst np.1 np.2 upd_same (repL_ints ns'))
  have gg := (g1.trans (Grow.laid hn)).trans (Grow.laid (o := .lst (ns'.map V.int)) hn2)
  exact ⟨E, _, cs1, hp ns' pw fun k => (mem k).trans (by simp), tS_mk (le_cs f4 ((gg.B B).le hB)) f4 (q.next (gg.B B) hB)⟩
end
end Rg
set_option Elab.async false
set_option linter.all false
set_option maxRecDepth 100000
/-! is not None -/
namespace Rg
open PySem PySem.Spec
open PyProof.Rows L2
section
variable {X : Cx} {ρ : Ro} {cs : Cs} {a : Expr} {P : PD} {PT' : Bool → Cs → Prop} {pos pos' : Pos}
theorem wt_isNN {j : Nat} (h : W X a ρ cs fun d cs1 => ∃ k, (k = true ↔ d = .non) ∧ PT' (!k) cs1) : WT X (.Compare a [.IsNot] [.Constant .none j pos'] pos) ρ cs PT' :=
  wt_of (pt_cmp (pc_notN h)) fun as hs σ H Q f q => sub1 f fun v H1 as1 d cs1 g1 f1 r1 ⟨k, hk, p1⟩ => by
    have ek : decide (v = V.non) = k := by
      cases r1 <;> cases k <;> simp_all
    exact ⟨!k, by rw [ek], q (!k) H1 as1 cs1 g1 f1.cells p1⟩
end
end Rg
set_option Elab.async false
set_option linter.all false
set_option maxRecDepth 100000
/-! xs.insert(i, y) -/
namespace Rg
open PySem PySem.Spec
open PyProof.Rows L2
section
variable {X : Cx} {ρ : Ro} {cs : Cs} {e e2 o : Expr} {P : PD} {pos apos cpos : Pos}
theorem w_insert (h : W X o ρ cs fun d cs1 => ∃ k, d = .own k ∧ WA X [e, e2] ρ cs1 fun ds cs2 => ∃ xs, cs2[k]? = some xs ∧ ∃ (i : Nat) (y : D), ds = [.int (i : Nat), y] ∧ i < 100000 ∧ xs.length < 100000 ∧ P .non (cs2.set k (xs.take i ++ [y] ++ xs.drop i)))
    (hbase : attributeBase o "insert" X.env (eval o X.env) = eval o X.env := by rfl) (hfew : ((backTo cpos (starEach [e, e2] X.env)).all (fun x => !x.1) && (backToKw cpos (keywordEach [] X.env)).all (fun x => x.1.isSome) && decide (([e, e2] : List Expr).length + ([] : List Keyword).length + (if ([] : List Keyword).isEmpty then 0 else 1) < 30)) = true := by rfl)
    (hline : (apos.endLine == cpos.line) = true := by rfl) (hs : starEach [e, e2] X.env = (false, eval e X.env) :: starEach [e2] X.env := by rfl) (hpl : (backTo cpos (starEach [e2] X.env)).any (·.1) = false := by rfl) :
    W X (.Call (.Attribute o "insert" apos) [e, e2] [] cpos) ρ cs P := by
  refine w_me (g := fun xs ds cs2 P => ∃ (i : Nat) (y : D), ds = [.int (i : Nat), y] ∧ i < 100000 ∧ xs.length < 100000 ∧ P .non (xs.take i ++ [y] ++ xs.drop i)) PySem.F.plainAttrs_list PySem.F.slot_list_insert PySem.F.type_list_insert mt_insert ?_ h hbase hfew hline hs hpl
  rintro as hs H k a ds vs cs xs P Q c ea hx r ⟨i, y, rfl, hi, hxl, hp⟩ q
  obtain ⟨us, h1, h2⟩ := cell_of c ea hx
  cases r with
  | cons r t =>
    cases t with
    | cons r' t =>
      cases t
      cases r
      refine ⟨a, us, i, _, rfl, rfl, h1, ?_, by omega, by omega, q _ _ .non _ .non ?_ hp⟩
      · have := h2.length
        have : sizeLine = 16777216 := rfl
        omega
      · rw [Int.toNat_natCast]
        exact ((h2.take i).append (.cons r' .nil)).append (h2.drop i)
end
end Rg
set_option Elab.async false
set_option linter.all false
set_option maxRecDepth 100000
/-! sorted of a list of lists of ints (in some order) -/
namespace Rg
open PySem PySem.Spec
open PyProof.Rows L2
theorem reads_ints {h : Heap} : ∀ {us : List Value} {ns : List Int}, IntsAre us ns → ReadsAll h us (ns.map PyData.int) []
  | _, _, .nil => .nil
  | _, _, .cons k t r => .cons (.int k t) (reads_ints r)
theorem depth_ints : ∀ ns : List Int, PyData.depthAll (ns.map PyData.int) ≤ 1
  | [] => (by simp [PyData.depthAll])
  | a :: r => by
    have := depth_ints r
    simp only [PyData.depthAll, List.map_cons, PyData.depth]
    omega
theorem depth_row (ns : List Int) : (PyData.list (ns.map PyData.int)).depth ≤ 2 := by
  have := depth_ints ns
  simp only [PyData.depth]
  omega
abbrev RowV : Value → V × List Int → Prop := fun v b => RelV b.1 v
theorem each_vals : ∀ {bs : List (V × List Int)} {us : List Value}, Vals (bs.map (·.1)) us → PySem.W.EachIs RowV us bs
  | [], _, r => by cases r; exact .nil
  | _ :: _, _, r => by
    cases r with
    | cons a t => exact .cons a (each_vals t)
theorem vals_each : ∀ {us : List Value} {bs : List (V × List Int)}, PySem.W.EachIs RowV us bs → Vals (bs.map (·.1)) us
  | _, _, .nil => .nil
  | _, _, .cons a t => .cons a (vals_each t)
section
variable {X : Cx}
theorem cr_sortedRows (hu : X.A.units + 64 < cLine) : CallR X (.builtin "sorted") fun vs H Q => ∃ (a : Addr) (bs : List (V × List Int)), vs = [V.ref a] ∧ SqL X.K H a (bs.map (·.1)) ∧ (∀ b ∈ bs, ∃ l, b.1 = V.ref l ∧ SqL X.K H l (b.2.map V.int)) ∧ bs.length ≤ 100000 ∧
    ∀ (ys : List (V × List Int)) p, ys.Perm bs → H p = none → Q (.ref p) (upd H p (.lst (ys.map (·.1)))) := by
  intro pins s σ H vs us Q I r h0
  obtain ⟨a, bs, rfl, hs, hx, hlen, q⟩ := h0
  obtain ⟨its, rv, hl, hz⟩ := (I.list hs)
  obtain ⟨u, rfl, ru⟩ := (vals1 r)
  obtain rfl : u = (Value.ref a) := ru
  have er : PySem.W.EachIs (fun v (b : V × List Int) => ∃ as, Reads s.heap v (.list (b.2.map PyData.int)) as) its bs := by
    refine (PySem.W.each_mem (each_vals rv)).mono fun v b ⟨hv, hb⟩ => ?_
    obtain ⟨l, el, hsl⟩ := hx b hb
    obtain ⟨its2, rv2, hl2, _⟩ := I.list hsl
    have hv2 : RelV b.1 v := hv
    rw [el] at hv2
    obtain rfl : v = (Value.ref l) := hv2
    obtain ⟨ob, h1, h2, n1, h3⟩ := hl2.isList
    exact ⟨_, Reads.list h1 h2 h3 (by simpa using reads_ints (Vals.ints rv2))⟩
  refine PySem.W.sorted_data (enc := fun b : V × List Int => .list (b.2.map PyData.int)) hl.isList (each_vals rv) er (PySem.W.AllAlike.of fun b b' => ?_) (PySem.W.Sortable.others fun b => ⟨by simp, by simp⟩) (Nat.le_trans hlen (by decide)) (fun b _ => ?_) fun out hol ho => ?_
  · simp only [PySem.W.alike]
    exact PySem.W.alike_ints _ _
  · have := depth_row b.2
    show X.A.units + 2 + (PyData.list (b.2.map PyData.int)).depth < cLine
    omega
  · have pm := List.mergeSort_perm bs (PySem.W.dataLe false fun b : V × List Int => .list (b.2.map PyData.int))
    generalize bs.mergeSort (PySem.W.dataLe false fun b : V × List Int => .list (b.2.map PyData.int)) = ys at ho pm
    have hd : s.heap.objs.size ≤ s.heap.objs.size + 1 := Nat.le_succ _
    have hv := vals_each ho
    obtain ⟨n, hn⟩ := sortedAll_at s.heap its out.toArray
    refine ⟨.ref (s.heap.objs.size + 1), upd H (s.heap.objs.size + 1) (.lst (ys.map (·.1))), I.laid (t' := s.toks) (fun b o e => sortedAll_old e) hd ⟨?_, out, n, hv, hn⟩, rfl, q ys _ pm (I.hok.fresh hd)⟩
    rw [List.length_map, pm.length_eq]
    exact Nat.le_trans hlen (by decide)
end
abbrev rwD (rows : List (List Int)) : List D := rows.map fun r => D.lst (r.map .int)
theorem rows_zip {as hs : List Addr} {H : Hp} : ∀ {rows : List (List Int)} {us : List V}, RepL as hs H (rwD rows) us → (us.zip rows).map (·.1) = us ∧ (us.zip rows).map (·.2) = rows ∧ ∀ b ∈ us.zip rows, Rep as hs H (.lst (b.2.map .int)) b.1
  | [], _, r => by
    cases r
    exact ⟨rfl, rfl, fun b hb => by cases hb⟩
  | x :: rows, _, r => by
    cases r with
    | cons r t =>
      obtain ⟨e1, e2, e3⟩ := rows_zip t
      refine ⟨by rw [List.zip_cons_cons, List.map_cons, e1], by rw [List.zip_cons_cons, List.map_cons, e2], fun b hb => ?_⟩
      rw [List.zip_cons_cons] at hb
      rcases (List.mem_cons.mp hb) with z | z
      · rw [z]; exact r
      · exact e3 b z
theorem rows_rep {as hs : List Addr} {H : Hp} : ∀ {bs : List (V × List Int)}, (∀ b ∈ bs, Rep as hs H (.lst (b.2.map .int)) b.1) → RepL as hs H (rwD (bs.map (·.2))) (bs.map (·.1))
  | [], _ => .nil
  | b :: bs, h => .cons (h b (by simp)) (rows_rep fun c hc => h c (by simp [hc]))
section
variable {X : Cx} {ρ : Ro} {cs : Cs} {e : Expr} {PN : List D → Cs → Prop} {p pos : Pos}
theorem wn_sortedRows (hu : X.A.units + 64 < cLine) (hm : X.mg "sorted" = none) (h : WA X [e] ρ cs fun ds cs1 => ∃ d, ∃ rows : List (List Int), ds = [d] ∧ LstD cs1 d (rwD rows) ∧ rows.length ≤ 100000 ∧ ∀ rows' : List (List Int), rows'.Perm rows → PN (rwD rows') cs1) (hg : Gl X "sorted" := by rfl)
    (he : starEach [e] X.env = (false, eval e X.env) :: starEach [] X.env := by rfl) : WN X (.Call (.Name "sorted" p) [e] [] pos) ρ cs PN := by
  refine wn_bi (g := fun ds cs1 P => ∃ d, ∃ rows : List (List Int), ds = [d] ∧ LstD cs1 d (rwD rows) ∧ rows.length ≤ 100000 ∧ ∀ rows' : List (List Int), rows'.Perm rows → P (rwD rows') cs1) (cr_sortedRows hu) ?_ hm (by decide +kernel) h hg (he := he)
  rintro as hs H vs ds cs P Q c r ⟨d, rows, rfl, hl, hlen, hp⟩ q
  cases r with
  | cons r t =>
    cases t
    obtain ⟨a, us, rfl, hr, rl⟩ := hl.rep c r
    obtain ⟨e1, e2, e3⟩ := rows_zip rl
    have hul := rl.length
    rw [List.length_map] at hul
    refine ⟨a, us.zip rows, rfl, .inl (by rw [e1]; exact hr), fun b hb => ?_, by rw [List.length_zip]; omega, fun ys p pm n => ?_⟩
    · have rb := e3 b hb
      generalize b.1 = v1 at rb
      cases rb with
      | lst n1 n2 hH rr =>
        have ev := repL_ints' rr
        rw [ev] at hH
        exact ⟨_, rfl, .inl (.inl hH)⟩
    · refine q p H as _ _ cs (Grow.refl as H) c n (rows_rep fun b hb => e3 b (pm.mem_iff.mp hb)) (hp _ ?_)
      have q2 := pm.map (·.2)
      rwa [e2] at q2
end
end Rg
set_option Elab.async false
set_option linter.all false
set_option maxRecDepth 100000
/-! x in a list of lists; what is shown of tuples -/
namespace Rg
open PySem PySem.Spec
open PyProof.Rows L2
section
variable {X : Cx} {ρ : Ro} {cs : Cs} {a b : Expr} {PT' : Bool → Cs → Prop} {pos : Pos}
def rInE (K : PySem.W.Frag) : R2 := fun x y H Q => ∃ d ds, Dp K H x d ∧ Dp K H y (.list ds) ∧ SeqAt.shaped d = true ∧ SeqAt.shaped (.list ds) = true ∧ d.depth ≤ 60 ∧ Q (.bl (ds.any fun z => PyData.eqv z d)) H
theorem op_inE (hu : X.A.units + 64 < cLine) : OpR X (compareOp .In) (rInE X.K) := by
  intro pins s σ H x y v u Q J rx ry h
  obtain ⟨d, ds, hd, he, sd, se, h60, q⟩ := h
  obtain ⟨as, r1⟩ := Dp.reads J d x v hd rx
  obtain ⟨bs, r2⟩ := Dp.reads J (.list ds) y u he ry
  exact SeqAt.in_list_reads r2 r1 (SeqAt.canLay_of_shaped se) (SeqAt.canLay_of_shaped sd) (by have := Nat.min_le_right (PyData.depthAll ds) d.depth; omega) ⟨.bl _, H, J, rfl, q⟩
def gInE : GD2 := fun d1 d2 cs P => ∃ p ps, ToPy cs d1 p ∧ ToPy cs d2 (.list ps) ∧ SeqAt.shaped p = true ∧ SeqAt.shaped (.list ps) = true ∧ p.depth ≤ 60 ∧ P (.bl (ps.any fun z => PyData.eqv z p)) cs
theorem od_inE {K : PySem.W.Frag} : OpD (rInE K) gInE := by
  rintro as hs H x y d1 d2 cs P Q c r1 r2 ⟨p, ps, h1, h2, s1, s2, h3, hp⟩ qq
  exact ⟨p, ps, h1.dp c r1, h2.dp c r2, s1, s2, h3, qq _ _ _ _ _ (Grow.refl as H) c .bl hp⟩
theorem wt_inE (hu : X.A.units + 64 < cLine) (hm : behindInMarks .In b = false) (h : W X a ρ cs fun d1 cs1 => W X b ρ cs1 fun d2 cs2 => ∃ p ps, ToPy cs2 d1 p ∧ ToPy cs2 d2 (.list ps) ∧ SeqAt.shaped p = true ∧ SeqAt.shaped (.list ps) = true ∧ p.depth ≤ 60 ∧ PT' (ps.any fun z => PyData.eqv z p) cs2) : WT X (.Compare a [.In] [b] pos) ρ cs PT' :=
  wt_cmp (op_inE hu) od_inE hm (h.mono fun _ _ z => W.mono z fun _ _ ⟨p, ps, h1, h2, s1, s2, h3, hp⟩ => ⟨p, ps, h1, h2, s1, s2, h3, _, rfl, hp⟩)
end
theorem nice_tup {m w : Nat} {xs : List PyData} (h : ∀ x ∈ xs, Nice m w x) : Nice (m + 1) (xs.length * (w + 1)) (.tuple xs) := by
  obtain ⟨a, b, c, d, e, f⟩ := nice_all h
  exact ⟨by simpa only [PyData.showable] using a, by simpa only [PyData.hasDict] using b, by simp only [PyData.depth]; omega, by simpa only [PyData.leavesShort] using d, by simpa only [PyData.weight] using e, by simpa only [PyData.canLay0] using f⟩
end Rg
set_option Elab.async false
set_option linter.all false
set_option maxRecDepth 100000
/-! a loop over zip(a, b); o[i] += e with two ints -/
namespace Rg
open PySem PySem.Spec
open PyProof.Rows L2
section
variable {X : Cx} {ρ : Ro} {cs : Cs} {e a b o ix : Expr} {P : PD} {PN : List D → Cs → Prop} {E : En} {B : Nat} {pos p px py tp cpos kpos pos' tpos : Pos} {x y : Str} {body : List Stmt} {kt : Nat}
theorem ws_forZ {hp : PassesOwn (model X.prog X.w) X.A X.env X.xe} (i j : Nat) (hc : X.calm = true) (hN : X.N.Nodup) (hm : X.mg "zip" = none) (h : WA X [a, b] ρ cs fun ds cs1 => ∃ (d1 d2 : D) (xs ys : List D) (I : Nat → Ro → Cs → Prop), ds = [d1, d2] ∧ I 0 ρ cs1 ∧ (∀ k ρ' cs', I k ρ' cs' → LstD cs' d1 xs ∧ LstD cs' d2 ys) ∧
      (∀ k x y ρ' cs', xs[k]? = some x → ys[k]? = some y → I k ρ' cs' → WSs X cs1.length body { nx := I (k + 1), rt := E.rt, bk := E.nx, ct := I (k + 1) } ((ρ'.set i (some x)).set j (some y)) cs') ∧ (∀ ρ' cs', I (min xs.length ys.length) ρ' cs' → E.nx ρ' cs'))
    (hg : PG X (.Tuple [.Name x px, .Name y py] kt tp) (gPair X.K i j)) (hgl : Gl X "zip" := by rfl) (hse : starEach [a, b] X.env = (false, eval a X.env) :: starEach [b] X.env := by rfl) (hpl : (backTo kpos (starEach [b] X.env)).any (fun x => x.1) = false := by rfl)
    (hs : ∀ x, foldedSetIterable (.Call (.Name "zip" cpos) [a, b] [] kpos) X.env x = pure x := by intro _; rfl) : WS X B (.For (.Tuple [.Name x px, .Name y py] kt tp) (.Call (.Name "zip" cpos) [a, b] [] kpos) body [] pos) E ρ cs := by
  refine ws_of (ps_for hp hc (pi_zip hgl hm h (hs := hse) (hpl := hpl)) hg (⟨fun pins s σ H DD I ⟨B', z⟩ => (pss_any (B := B') (S := WSs X B' body) fun _ _ _ z => z).run pins s σ H DD I z⟩ : PSs X body fun DD σ H => ∃ B', tAnyS B' (WSs X B' body) DD σ H) hs) fun as hs σ H DD hB f q => ?_
  refine subA f fun vs H1 as1 ds cs1 g1 f1 r1 ⟨d1, d2, xs, ys, I, ed, i0, hl, step, done⟩ => ?_
  subst ed
  cases r1 with
  | @cons _ _ v1 _ r1 t =>
    cases t with
    | @cons _ _ v2 _ r2 t =>
      cases t
      obtain ⟨h1, h2⟩ := hl 0 ρ cs1 i0
      obtain ⟨a, us, ev, hr, rl⟩ := h1.rep f1.cells r1
      obtain ⟨b, ws, ew, hr', rl'⟩ := h2.rep f1.cells r2
      subst ev ew
      refine ⟨a, b, us, ws, rfl, .inl hr, .inl hr', fun k m σ' H' => m = min xs.length ys.length - k ∧ k ≤ min xs.length ys.length ∧ ∃ as' ρ' cs', Grow as1 as' H1 H' ∧ Fit as' hs ρ' cs' σ' H' ∧ I k ρ' cs', ⟨min xs.length ys.length, by simp, Nat.zero_le _, as1, ρ, cs1, Grow.refl as1 H1, f1, i0⟩, ?_⟩
      rintro k m σ' H' ⟨rfl, hk, as', ρ', cs', g, f', ik⟩
      obtain ⟨l1, l2⟩ := hl k ρ' cs' ik
      obtain ⟨a2, us2, e2, hr2, rl2⟩ := l1.rep f'.cells (r1.grow g)
      obtain ⟨b2, ws2, e3, hr3, rl3⟩ := l2.rep f'.cells (r2.grow g)
      cases e2; cases e3
      by_cases hlt : k < min xs.length ys.length
      · refine .inr ⟨⟨us2, ws2, us2[k]'(by rw [← rl2.length]; omega), ws2[k]'(by rw [← rl3.length]; omega), .inl hr2, .inl hr3, by simp, by simp⟩, fun σ'' H'' => ∃ as'' ρ'' cs'', Grow as1 as'' H1 H'' ∧ Fit as'' hs ρ'' cs'' σ'' H'' ∧ I (k + 1) ρ'' cs'', fun σ'' H'' z => ⟨min xs.length ys.length - (k + 1), by omega, rfl, hlt, z⟩, fun v H'' yy => ?_⟩
        obtain ⟨Tt, x1, y1, rfl, nT, rfl, yx, yy⟩ := yy
        obtain ⟨x', hx', rx'⟩ := rl2.get' (yx us2 (.inl hr2))
        obtain ⟨y', hy', ry'⟩ := rl3.get' (yy ws2 (.inl hr3))
        have hle : cs1.length ≤ as'.length := by
          obtain ⟨mm, e⟩ := g.ext
          rw [f1.cells.len, e, List.length_append]; omega
        refine pair_go (d1 := x') (d2 := y') f' nT rx' ry' fun gg ff => ⟨cs1.length, _, _, _, step k x' y' ρ' cs' hx' hy' ik, ?_⟩
        have ex : ∀ {as'' H3}, GrowB cs1.length as' as'' (upd H' Tt (.tup [x1, y1])) H3 → Grow as1 as'' H1 H3 := fun {as'' H3} g' => by
          have t := ((g.trans gg).B cs1.length).trans g' (by rw [f1.cells.len]; exact Nat.le_refl _)
          rw [f1.cells.len] at t
          exact t.grow
        have nxt : ∀ σ'' H3 as'' ρ'' cs'', GrowB cs1.length as' as'' (upd H' Tt (.tup [x1, y1])) H3 → Fit as'' hs ρ'' cs'' σ'' H3 → I (k + 1) ρ'' cs'' → ∃ as' ρ' cs', Grow as1 as' H1 H3 ∧ Fit as' hs ρ' cs' σ'' H3 ∧ I (k + 1) ρ' cs' := fun σ'' H3 as'' ρ'' cs'' g' f'' i'' => ⟨as'', ρ'', cs'', ex g', f'', i''⟩
        exact tS_mk (le_cs ff hle) ff ⟨nxt, fun v H3 as'' d' cs'' g' c' r' p' => q.rt v H3 as'' d' cs'' ((g1.trans (ex g')).B B) c' r' p', fun σ'' H3 as'' ρ'' cs'' g' f'' p' => q.nx σ'' H3 as'' ρ'' cs'' ((g1.trans (ex g')).B B) f'' p', nxt⟩
      · have e : k = min xs.length ys.length := by omega
        subst e
        exact .inl ⟨⟨us2, ws2, .inl hr2, .inl hr3, by rw [← rl2.length, ← rl3.length]; omega⟩, q.nx _ _ as' ρ' cs' ((g1.trans g).B B) f' (done ρ' cs' ik)⟩
/-- a division by a great number -/
theorem w_divW (h : W X a ρ cs fun d1 cs1 => W X b ρ cs1 fun d2 cs2 => ∃ i j, d1 = .int i ∧ d2 = .int j ∧ CDivW i j ∧ P (.int (i / j)) cs2) : W X (.BinOp a .FloorDiv b pos) ρ cs P := w_op op_fdivW od_I h
/-- o[i], i from 0 on -/
def rIx0 (K : PySem.W.Frag) : V → V → Hp → VK → Prop := fun x y H Q => ∃ p xs, ∃ i : Nat, ∃ v, x = .ref p ∧ y = .int i ∧ SqL K H p xs ∧ xs[i]? = some v ∧ Q v H
theorem get_list0 : PGet X (rIx0 X.K) := by
  intro pins s σ H x y v u Q J rx ry h
  obtain ⟨p, xs, i, zz, rfl, rfl, hq, he, q⟩ := h
  cases rx
  obtain ⟨t, rfl⟩ := ry
  obtain ⟨its, r, pl, hz⟩ := J.list hq
  obtain ⟨w, ew, rw'⟩ := r.get he
  have hl := r.length
  have hn := line63
  have hi := (List.getElem?_eq_some_iff.mp he).1
  exact wpAny_getItem_list pl.isList (by omega) (by omega) (by simpa using ew) ⟨zz, H, J, rw', q⟩
/-- o[i] += e, o a list of its own, ints -/
theorem ws_incAt (h : W X o ρ cs fun d cs1 => ∃ k, d = .own k ∧ W X ix ρ cs1 fun d2 cs2 => ∃ (i : Nat) (xs : List D) (u : Int), d2 = .int i ∧ cs2[k]? = some xs ∧ xs[i]? = some (.int u) ∧ i < 100000 ∧ W X e ρ cs2 fun d3 cs3 => ∃ v : Int, d3 = .int v ∧ cs3[k]? = some xs ∧ E.nx ρ (cs3.set k (xs.set i (.int (u + v)))))
    (ha : ∀ ov iv new, augStore ix ov iv new = (do holding [new, ov, iv] (setItem ov iv new); release [new, ov, iv] []; pure .next) := by intros; rfl) : WS X B (.AugAssign (.Subscript o ix tpos) .Add e pos) E ρ cs := by
  refine ws_of (ps_augS h (pe_any (S := W X ix) fun _ _ _ z => z) get_list0 (pe_any (S := W X e) fun _ _ _ z => z) ip_add set_list ha) fun as hs σ H DD hB f q => ?_
  refine sub1 f fun v1 H1 as1 d cs1 g1 f1 r1 ⟨k, e1, p1⟩ => ⟨ρ, cs1, _, p1, sub1 f1 fun v2 H2 as2 d2 cs2 g2 f2 r2 ⟨i, xs, u, e2, hx, hi, hi9, p2⟩ => ?_⟩
  subst e1 e2
  cases r1 with
  | @own a _ ea =>
    have ea2 : as2[k]? = some a := by
      obtain ⟨m, e⟩ := g2.ext
      rw [e, List.getElem?_append_left (List.getElem?_eq_some_iff.mp ea).1]; exact ea
    cases r2
    obtain ⟨us, hu, ru⟩ := cell_of f2.cells ea2 hx
    obtain ⟨w, hw, rw'⟩ := ru.get hi
    cases rw'
    refine ⟨a, us, i, .int u, rfl, rfl, .inl (.inl hu), hw, ρ, cs2, _, p2, sub1 f2 fun v3 H3 as3 d3 cs3 g3 f3 r3 ⟨v, e3, hx3, p3⟩ => ?_⟩
    subst e3
    cases r3
    have ea3 : as3[k]? = some a := by
      obtain ⟨m, e⟩ := g3.ext
      rw [e, List.getElem?_append_left (List.getElem?_eq_some_iff.mp ea2).1]; exact ea2
    obtain ⟨us3, hu3, ru3⟩ := cell_of f3.cells ea3 hx3
    have hil := (List.getElem?_eq_some_iff.mp hi).1
    have c' := f3.cells.put ea3 (ru3.set (.int (i := u + v)) i)
    have gp : Grow as3 as3 H3 (upd H3 a (.lst (us3.set i (.int (u + v))))) := Grow.put ea3
    refine ⟨u, v, rfl, rfl, a, us3, i, i, rfl, rfl, hu3, by
      have h9 : i < us3.length := by rw [← ru3.length]; exact hil
      unfold ixN
      rw [if_pos (by omega), if_pos (by omega), Int.toNat_natCast], ?_⟩
    exact q.nx _ _ as3 ρ _ ((((g1.trans g2).trans g3).trans gp).B B) ⟨c', f3.slen, fun i d' e => by
      obtain ⟨v', h', r'⟩ := f3.slot i d' e
      exact ⟨v', h', r'.mut fun b nb _ => upd_ne fun z => nb (by rw [z]; exact List.mem_of_getElem? ea3)⟩⟩ p3
end
theorem NiceB.fits2 {m w : Nat} {p : PyData} (n : NiceB 101 m w p) (h : w ≤ 100000) : p.shown.length ≤ sizeLine := by
  have a := PyData.shown_le 101 (by decide) p n.short
  have b := n.wt
  have c : 103 * 100000 + 101 ≤ sizeLine := by decide
  have d : (101 + 2) * p.weight ≤ 103 * 100000 := Nat.mul_le_mul (by decide) (by omega)
  omega
end Rg
set_option Elab.async false
set_option linter.all false
set_option maxRecDepth 100000
/-! three plain names at once -/
namespace Rg
open PySem PySem.Spec
open PyProof.Rows L2
section
variable {X : Cx} {ρ : Ro} {cs : Cs} {E : En} {B : Nat} {a b c : Expr} {x y z : Str} {px py pz pt pt2 pos : Pos} {kt k2 : Nat}
theorem ws_par3 (i j l : Nat) (h : WA X [a, b, c] ρ cs fun ds cs1 => ∃ d1 d2 d3, ds = [d1, d2, d3] ∧ E.nx (((ρ.set i (some d1)).set j (some d2)).set l (some d3)) cs1) (hc : X.calm = true) (hN : X.N.Nodup) (hi : X.N[i]? = some x := by rfl) (hj : X.N[j]? = some y := by rfl) (hl : X.N[l]? = some z := by rfl) (hij : i ≠ j := by decide) (hil : i ≠ l := by decide) (hjl : j ≠ l := by decide)
    (hx : X.env.scope.names.lookup x = some .local := by rfl) (hy : X.env.scope.names.lookup y = some .local := by rfl) (hz : X.env.scope.names.lookup z = some .local := by rfl)
    (hw : swappedStores [.Tuple [.Name x px, .Name y py, .Name z pz] kt pt] (.Tuple [a, b, c] k2 pt2) X.env = pure (some [x, y, z]) := by rfl)
    (hs : swapsWithSole [.Tuple [.Name x px, .Name y py, .Name z pz] kt pt] (.Tuple [a, b, c] k2 pt2) pos.line X.env = pure false := by rfl) : WS X B (.Assign [.Tuple [.Name x px, .Name y py, .Name z pz] kt pt] (.Tuple [a, b, c] k2 pt2) pos) E ρ cs :=
  ws_of (ps_par3 hc hN hi hj hl hij hil hjl hx hy hz h hw hs) fun as hs σ H DD hB f q => subA f fun vs H1 as1 ds cs1 g1 f1 r1 ⟨d1, d2, d3, e, p1⟩ => by
    subst e
    cases r1 with
    | cons r1 t =>
      cases t with
      | cons r2 t =>
        cases t with
        | cons r3 t =>
          cases t
          exact ⟨_, _, _, rfl, q.nx _ _ _ _ _ (g1.B B) (((f1.set i r1).set j r2).set l r3) p1⟩
end
end Rg
set_option Elab.async false
set_option linter.all false
set_option maxRecDepth 100000
/-! math.factorial, xs.count(i), len of a tuple -/
namespace Rg
open PySem PySem.Spec
open PyProof.Rows L2
abbrev fct (n : Nat) : Nat := Builtin.Math.factorialNat n
theorem fct_succ (n : Nat) : fct (n + 1) = fct n * (n + 1) := by
  unfold fct Builtin.Math.factorialNat
  rw [List.range_succ, List.foldl_append]; rfl
theorem fct_size : ∀ n : Nat, n < 101 → ((fct n : Nat) : Int).natAbs.log2 < bitsLine := by decide +kernel
section
variable {X : Cx} {ρ : Ro} {cs : Cs} {e o : Expr} {P : PD} {PN : List D → Cs → Prop} {pos p cpos apos : Pos}
def rFact : List V → Hp → VK → Prop := fun vs H Q => ∃ a : Int, vs = [.int a] ∧ 0 ≤ a ∧ a ≤ 100 ∧ Q (.int ((fct a.toNat : Nat) : Int)) H
theorem cr_fact : CallR X (.builtin "math.factorial") rFact := by
  intro pins s σ H vs us Q J r h
  obtain ⟨a, rfl, h0, h1, q⟩ := h
  cases r with
  | cons r t =>
    cases t
    obtain ⟨t, rfl⟩ := r
    have m1 : Builtin.Math.maxSsize = 9223372036854775807 := by decide
    have m2 : Builtin.Math.manyFactors = 20000 := rfl
    exact PySem.W.mg_factorial (by omega) (by omega) (by omega) (fct_size a.toNat (by omega)) ⟨.int _, H, J.tok _, ⟨_, rfl⟩, q⟩
theorem w_fact {x : Str} (hm : X.mg x = some (.builtin "math.factorial")) (h : WA X [e] ρ cs fun ds cs1 => ∃ a : Int, ds = [.int a] ∧ 0 ≤ a ∧ a ≤ 100 ∧ P (.int ((fct a.toNat : Nat) : Int)) cs1) (hg : Gl X x := by rfl) (hdb : (x == ("__debug__" : Str)) = false := by decide)
    (he : starEach [e] X.env = (false, eval e X.env) :: starEach [] X.env := by rfl) (hpl : (backTo pos (starEach [] X.env)).any (·.1) = false := by rfl) : W X (.Call (.Name x p) [e] [] pos) ρ cs P :=
  w_of (pe_callBfun cr_fact hg hm h hdb he hpl) fun as hs σ H Q f q => subA f fun vs H1 as1 ds cs1 g1 f1 r1 ⟨a, ed, h0, h1, hp⟩ => by
    subst ed
    cases r1 with
    | cons r t =>
      cases t
      cases r
      exact ⟨a, rfl, h0, h1, q _ _ _ _ _ g1 f1.cells .int hp⟩
theorem w_count (h : W X o ρ cs fun d cs1 => ∃ ns : List Int, LstD cs1 d (ns.map .int) ∧ WA X [e] ρ cs1 fun ds cs2 => LstD cs2 d (ns.map .int) ∧ ∃ y : Int, ds = [.int y] ∧ P (.int (ns.count y : Nat)) cs2)
    (hbase : attributeBase o "count" X.env (eval o X.env) = eval o X.env := by rfl) (hfew : ((backTo cpos (starEach [e] X.env)).all (fun x => !x.1) && (backToKw cpos (keywordEach [] X.env)).all (fun x => x.1.isSome) && decide (([e] : List Expr).length + ([] : List Keyword).length + (if ([] : List Keyword).isEmpty then 0 else 1) < 30)) = true := by rfl)
    (hline : (apos.endLine == cpos.line) = true := by rfl) (hs : starEach [e] X.env = (false, eval e X.env) :: starEach [] X.env := by rfl) :
    W X (.Call (.Attribute o "count" apos) [e] [] cpos) ρ cs P := by
  refine w_of (pe_bm PySem.F.plainAttrs_list PySem.F.slot_list_count PySem.F.type_list_count mt_lcount h (pa_any (S := WA X [e]) fun _ _ _ z => z) hbase hfew hline hs) fun as hs σ H Q f q => sub1 f fun v H1 as1 d cs1 g1 f1 r1 p1 => ?_
  obtain ⟨ns, hl, p1⟩ := p1
  obtain ⟨a, us, rfl, hr, rl⟩ := hl.rep f1.cells r1
  refine ⟨.inl ⟨rfl, _, .inl hr⟩, ρ, cs1, _, p1, subA f1 fun vs H2 as2 ds cs2 g2 f2 r2 ⟨hl2, y, ed, p2⟩ => ?_⟩
  subst ed
  obtain ⟨a2, us2, e2, hr2, rl2⟩ := hl2.rep f2.cells (r1.grow g2)
  cases e2
  have eu : us2 = ns.map V.int := repL_ints' rl2
  subst eu
  cases r2 with
  | cons r2 t =>
    cases t
    cases r2
    exact ⟨a, ns, y, rfl, rfl, .inl hr2, q _ _ as2 _ _ (g1.trans g2) f2.cells .int p2⟩
/-- a slice of the script -/
theorem wn_sliceScr {lo hi : Option Expr} {p2 : Pos} (h : W X e ρ cs fun d cs1 => WO X lo ρ cs1 fun l cs2 => WO X hi ρ cs2 fun u cs3 => ∃ ns, ScrD X.K d ns ∧ PN (cutD (ns.map .int) l u) cs3) : WN X (.Subscript e (.Slice lo hi none p2) pos) ρ cs PN := by
  refine wn_of (pe_slice sl_list h (po_any (S := WO X lo) fun _ _ _ z => z) (po_any (S := WO X hi) fun _ _ _ z => z)) fun as hs σ H Q f q => ?_
  refine sub1 f fun v H1 as1 d cs1 g1 f1 r1 p1 => ⟨ρ, cs1, _, p1, as1, hs, f1, fun l H2 as2 cs2 g2 c2 p2 => ⟨ρ, cs2, _, p2, as2, hs, f1.grow g2 c2, fun u H3 as3 cs3 g3 c3 ⟨ns, hl, p3⟩ => ?_⟩⟩
  obtain ⟨a, rfl, hr⟩ := hl.rep ((r1.grow g2).grow g3)
  exact ⟨a, _, rfl, hr, fun p n => q p H3 as3 _ _ cs3 ((g1.trans g2).trans g3) c3 n (cut_rep (repL_ints ns) l u) p3⟩
theorem w_lenT (hm : X.mg "len" = none) (h : WA X [e] ρ cs fun ds cs1 => ∃ xs, ds = [.tup xs] ∧ P (.int xs.length) cs1) (hg : Gl X "len" := by rfl) (he : starEach [e] X.env = (false, eval e X.env) :: starEach [] X.env := by rfl) : W X (.Call (.Name "len" p) [e] [] pos) ρ cs P := by
  refine w_bi (g := fun ds cs1 P => ∃ xs, ds = [.tup xs] ∧ P (.int xs.length) cs1) call_len_seq ?_ hm PySem.boot_len h hg (he := he)
  rintro as hs H vs ds cs P Q c r ⟨xs, rfl, hp⟩ q
  cases r with
  | cons r t =>
    cases t
    cases r with
    | tup na nh hT rT =>
      refine ⟨_, _, rfl, .inr (.inl (.inl hT)), ?_⟩
      rw [← rT.length]
      exact q _ _ _ _ _ (Grow.refl as H) c .int hp
end
end Rg
set_option Elab.async false
set_option linter.all false
set_option maxRecDepth 100000
/-! errors of an own class that carry one field: raised, passed on, caught -/
namespace Rg
open PySem PySem.Spec
open PyProof.Rows L2

/-- what an error of the class at C brings to the caller: the tree in its field f -/
def FinX (as hs : List Addr) (H : Hp) (C : Addr) (f : Str) (PX : PD) (Ex : XK) : Prop := ∀ as' cs' H' v dd dx, Grow as as' H H' → Cells as' hs cs' H' → Rep as' hs H' dd v → dx ∉ as' → dx ∉ hs → H' dx = some (.xd [(f, v)]) → PX dd cs' → Ex (.ref C) (some dx) H'
abbrev GX := List D → Cs → PD → PD → Prop
def spX (C : Addr) (f : Str) (g : GX) : Sp := fun vs H Q Ex => ∃ as hs ds cs P PX, Cells as hs cs H ∧ RepL as hs H ds vs ∧ g ds cs P PX ∧ Fin as hs H P Q ∧ FinX as hs H C f PX Ex
structure FnX (P : Program) (w : World) (K : PySem.W.Frag) (mg : Str → Option Value) (base : Heap) (k : Nat) (x : Str) (ps : List Str) (sp : Sp) : Prop where
  ex : ∃ f fd, mg x = some (.ref f) ∧ FnG P w K mg base (L2.CX P w) k f fd ps sp ∧ PySem.W.keepIn K (.ref f) = true ∧ Binds K fd ps []
/-- .. within a body, from slot to slot -/
def FinXS (B : Nat) (as hs : List Addr) (H : Hp) (C : Addr) (f : Str) (PX : D → Ro → Cs → Prop) (Wx : WX) : Prop :=
  ∀ σ' H' as' ρ' cs' v dd dx, GrowB B as as' H H' → Fit as' hs ρ' cs' σ' H' → Rep as' hs H' dd v → dx ∉ as' → dx ∉ hs → H' dx = some (.xd [(f, v)]) → PX dd ρ' cs' → Wx (.ref C) (some dx) σ' H'
theorem FinXS.next {B as as1 hs H H1 C f PX Wx} (q : FinXS B as hs H C f PX Wx) (g : GrowB B as as1 H H1) (hB : B ≤ as.length) : FinXS B as1 hs H1 C f PX Wx :=
  fun σ' H' as' ρ' cs' v dd dx g' => q σ' H' as' ρ' cs' v dd dx (g.trans g' hB)
def tSX (Wx : WX) (C : Addr) (f : Str) (B : Nat) (E : En) (PX : D → Ro → Cs → Prop) (ρ : Ro) (cs : Cs) : TS := fun DD σ H => ∃ as hs, B ≤ as.length ∧ Fit as hs ρ cs σ H ∧ FinS B as hs H E DD ∧ FinXS B as hs H C f PX Wx
def WSX (X : Cx) (Wx : WX) (C : Addr) (f : Str) (B : Nat) (st : Stmt) (E : En) (PX : D → Ro → Cs → Prop) (ρ : Ro) (cs : Cs) : Prop := PS X st (tSX Wx C f B E PX ρ cs)
def WSXs (X : Cx) (Wx : WX) (C : Addr) (f : Str) (B : Nat) (sts : List Stmt) (E : En) (PX : D → Ro → Cs → Prop) (ρ : Ro) (cs : Cs) : Prop := PSs X sts (tSX Wx C f B E PX ρ cs)

section
variable {X : Cx} {Wx : WX} {C : Addr} {f : Str} {PX : D → Ro → Cs → Prop} {ρ : Ro} {cs : Cs} {e a b c o : Expr} {es rest : List Expr} {P : PD} {PN : List D → Cs → Prop} {pos p apos cpos kpos pos' np : Pos} {x y n : Str} {k B : Nat} {ps ks : List Str} {E : En} {st : Stmt} {sts body els : List Stmt}
theorem wsx_of (h : WS X B st E ρ cs) : WSX X Wx C f B st E PX ρ cs := ps_imp h fun DD σ H ⟨as, hs, hB, ft, q, _⟩ => tS_mk (le_cs ft hB) ft q
theorem wsxs_of (h : WSs X B sts E ρ cs) : WSXs X Wx C f B sts E PX ρ cs := pss_imp h fun DD σ H ⟨as, hs, hB, ft, q, _⟩ => tS_mk (le_cs ft hB) ft q
def tAnyX (Wx : WX) (C : Addr) (f : Str) (B : Nat) (PX : D → Ro → Cs → Prop) (S : En → Ro → Cs → Prop) : TS := fun DD σ H => ∃ E ρ cs, S E ρ cs ∧ tSX Wx C f B E PX ρ cs DD σ H
theorem pssx_any {S : En → Ro → Cs → Prop} (h : ∀ E ρ cs, S E ρ cs → WSXs X Wx C f B sts E PX ρ cs) : PSs X sts (tAnyX Wx C f B PX S) :=
  ⟨fun pins s σ H DD I ⟨E, ρ, cs, hs, q⟩ => (h E ρ cs hs).run pins s σ H DD I q⟩
theorem wsxs_cons (h : WSX X Wx C f B st { E with nx := fun ρ' cs' => WSXs X Wx C f B sts E PX ρ' cs' } PX ρ cs) : WSXs X Wx C f B (st :: sts) E PX ρ cs := by
  refine pss_imp (pss_cons h (pssx_any (B := B) (PX := PX) (S := fun E ρ cs => WSXs X Wx C f B sts E PX ρ cs) fun _ _ _ z => z)) fun DD σ H ⟨as, hs, hB, ft, q, qx⟩ => ?_
  exact ⟨as, hs, hB, ft, ⟨fun σ' H' as' ρ' cs' g f' h' => ⟨E, ρ', cs', h', as', hs, g.le hB, f', q.next g hB, qx.next g hB⟩, q.rt, q.bk, q.ct⟩, qx⟩
theorem wsxs_one (h : WSX X Wx C f B st E PX ρ cs) : WSXs X Wx C f B [st] E PX ρ cs := pss_one h
theorem wsxs_nil (h : E.nx ρ cs) : WSXs X Wx C f B [] E PX ρ cs := wsxs_of (wss_nil h)
theorem wsx_if (h : WT X c ρ cs fun k cs1 => if k = true then WSXs X Wx C f B body E PX ρ cs1 else WSXs X Wx C f B els E PX ρ cs1) : WSX X Wx C f B (.If c body els pos) E PX ρ cs :=
  ps_imp (ps_if h (pssx_any (B := B) (PX := PX) (S := fun E ρ cs => WSXs X Wx C f B body E PX ρ cs) fun _ _ _ z => z) (pssx_any (B := B) (PX := PX) (S := fun E ρ cs => WSXs X Wx C f B els E PX ρ cs) fun _ _ _ z => z)) fun DD σ H ⟨as, hs, hB, ft, q, qx⟩ =>
    subT ft fun k H1 as1 cs1 g1 f1 p1 => by
      have g := g1.B B
      cases k with
      | true => exact ⟨E, ρ, cs1, p1, as1, hs, g.le hB, f1, q.next g hB, qx.next g hB⟩
      | false => exact ⟨E, ρ, cs1, p1, as1, hs, g.le hB, f1, q.next g hB, qx.next g hB⟩

/-! ### the class -/
def spIni (K : PySem.W.Frag) : Sp := fun vs H Q _ => ∃ a C v, vs = [.ref a, v] ∧ OexC K C ∧ PySem.W.findIn K (.ref C) "reason" = some none ∧ H a = some (exo a C none) ∧ ∀ dx, H dx = none → dx ≠ a → Q .non (upd (upd H dx (exd dx [("reason", v)])) a (exo a C (some dx)))
structure ImpC (P : Program) (w : World) (K : PySem.W.Frag) (mg : Str → Option Value) (base : Heap) (C : Addr) : Prop where
  gl : mg "Impossible" = some (.ref C)
  oex : OexC K C
  xf : XfC K C
  noat : PySem.W.findIn K (.ref C) "reason" = some none
  exm : PySem.W.exmOne K (.ref C) (.ref C) = some true
  init : ∃ fI fd, PySem.W.findIn K (.ref C) "__init__" = some (some (.ref fI)) ∧ PySem.W.typeIn K (.ref fI) = some (.type "function") ∧ FnOk P w K mg base CX0 1 fI fd ["self", "reason"] (spIni K) ∧ Binds K fd ["self", "reason"] []
theorem takes0 : Takes X fun _ _ _ _ => False := fun u s' ⟨_, _, _, _, _, _, _, _, _, _, _, _, _, _, _, _, z⟩ => z.elim
/-- raise Impossible(e) -/
theorem wsx_raise (hc : X.calm = true) (hT : Takes X Wx) (I : ImpC X.prog X.w X.K X.mg X.base C) (hr : Room 2 X.A) (h : WA X [e] ρ cs fun ds cs1 => ∃ d, ds = [d] ∧ PX d ρ cs1) (hg : Gl X "Impossible" := by rfl)
    (he : starEach (e :: []) X.env = (false, eval e X.env) :: starEach [] X.env := by rfl) (hpl : (backTo pos (starEach [] X.env)).any (·.1) = false := by rfl) : WSX X Wx C "reason" B (.Raise (some (.Call (.Name "Impossible" p) [e] [] pos)) none pos') E PX ρ cs := by
  obtain ⟨fI, fd, hf, ht, ok, bd⟩ := I.init
  refine ps_imp (ps_raise hc hT (pmk_oex (dvs := []) I.oex hf ht ok hr bd .nil pass0 hg I.gl h (he := he) (hpl := hpl))) fun DD σ H ⟨as, hs, hB, ft, q, qx⟩ => ?_
  refine subA ft fun vs H1 as1 ds cs1 g1 f1 r1 ⟨d, ed, p1⟩ => ?_
  subst ed
  cases r1 with
  | @cons _ _ v _ r1 t =>
    cases t
    refine ⟨by show 1 ≤ 1000; decide, fun a ha => ⟨a, C, v, rfl, I.oex, I.noat, upd_same, fun dx hd hne => ⟨rfl, dx, [("reason", v)], upd_same, ?_, ?_, ?_⟩⟩⟩
    · rw [upd_ne hne, upd_same]
    · rw [upd_ne hne] at hd; exact hd
    · have hd1 : H1 dx = none := by rw [upd_ne hne] at hd; exact hd
      have eH : upd (del (upd (upd (upd H1 a (exo a C none)) dx (exd dx [("reason", v)])) a (exo a C (some dx))) a) dx (HO.xd [("reason", v)]) = upd H1 dx (.xd [("reason", v)]) := by
        funext z
        by_cases hz : z = dx
        · subst hz; rw [upd_same, upd_same]
        · rw [upd_ne hz, upd_ne hz]
          by_cases hy : z = a
          · subst hy; rw [del_same, ha]
          · rw [del_ne hy, upd_ne hy, upd_ne hz, upd_ne hy]
      rw [eH]
      have fr := f1.cells.fresh hd1
      exact qx σ _ as1 ρ cs1 v d dx ((g1.trans (Grow.laid hd1)).B B) (f1.grow (Grow.laid hd1) (f1.cells.laid hd1)) (r1.grow (Grow.laid hd1)) fr.1 fr.2 upd_same p1

/-! ### calls that may raise -/
theorem run_fnGS {CX : CXT} {fA : Addr} {fd : FuncData} {sp : Sp} {Ex : XK} {pins : List (Addr × Obj)} {σ : L2.St} {H : Hp} {s : Shared} {Q : VK} {us : List Value} {vs : List V} (F : FnG X.prog X.w X.K X.mg X.base CX k fA fd ps sp) (hr : Rm k X.A) (hb : Binds X.K fd ps [])
    (hx : PassesAt CX X σ Ex) (I : Inv X pins σ H s) (rv : Vals vs us) (h : sp vs H Q Ex) : wpAny (model X.prog X.w) X.A (call (.ref fA) us) (EP X pins σ Q) X.xe s := by
  have hl : (us ++ []).length = ps.length := by rw [List.append_nil, ← rv.length]; exact F.len _ _ _ _ h
  have bd := hb s us I.kIn hl
  rw [List.append_nil] at bd
  refine wpAny_call (codeAny_mono (F.run X.A X.stack s H ⟨us, []⟩ us vs Q Ex hr.room hr.gd I.env0 bd rv h) fun r s' hq => ?_)
  cases r with
  | error e => exact (hx pins H s e s' I hq)
  | ok fl => cases fl with
    | ret u => exact I.after hq
    | next => exact hq
    | brk => exact hq
    | cont => exact hq
theorem run_fnkGS {CX : CXT} {fA : Addr} {fd : FuncData} {sp : Sp} {Ex : XK} {g : List Value → List Value → List Value} {gV : List V → List V → List V} {pins : List (Addr × Obj)} {σ : L2.St} {H : Hp} {s : Shared} {Q : VK} {us ws : List Value} {vs zs : List V}
    (F : FnG X.prog X.w X.K X.mg X.base CX k fA fd ps sp) (hr : Rm k X.A) (hb : KBinds X.K fd ps ks g gV)
    (hx : PassesAt CX X σ Ex) (I : Inv X pins σ H s) (rv : Vals vs us) (rz : Vals zs ws) (h : sp (gV vs zs) H Q Ex) : wpAny (model X.prog X.w) X.A (call (.ref fA) us (ks.zip ws)) (EP X pins σ Q) X.xe s := by
  have r2 := hb.rel rv rz
  have hl : (g us ws).length = ps.length := by
    rw [← r2.length]; exact F.len _ _ _ _ h
  refine wpAny_call (codeAny_mono (F.run X.A X.stack s H ⟨us, ks.zip ws⟩ (g us ws) (gV vs zs) Q Ex hr.room hr.gd I.env0 (hb.to s us ws I.kIn hl) r2 h) fun r s' hq => ?_)
  cases r with
  | error e => exact (hx pins H s e s' I hq)
  | ok fl => cases fl with
    | ret u => exact I.after hq
    | next => exact hq
    | brk => exact hq
    | cont => exact hq
theorem takes_at (hT : Takes X Wx) (σ : L2.St) : PassesAt (L2.CX X.prog X.w) X σ fun cls d H => Wx cls d σ H := fun pins H s e s' I h => passAt hT σ pins H s e s' I h
theorem pe_callX {fA : Addr} {fd : FuncData} {sp : Sp} {t : TA} (F : FnG X.prog X.w X.K X.mg X.base (L2.CX X.prog X.w) k fA fd ps sp) (hr : Rm k X.A) (hT : Takes X Wx) (hg : Gl X x) (hm : X.mg x = some (.ref fA)) (hk : PySem.W.keepIn X.K (.ref fA) = true) (hb : Binds X.K fd ps []) (ha : PA X (e :: es) t)
    (hdb : (x == ("__debug__" : Str)) = false) (he : starEach (e :: es) X.env = (false, eval e X.env) :: starEach es X.env) (hpl : (backTo pos (starEach es X.env)).any (fun y => y.1) = false) : PE X (.Call (.Name x p) (e :: es) [] pos) fun σ H Q => t σ H fun vs H1 => sp vs H1 Q fun cls d H' => Wx cls d σ H' := by
  refine ⟨fun pins s σ H Q I h => wpAny_Call_Name_kw (ld_glob I hg hm ?_ hdb)⟩
  exact PySem.W.callWith_K (h₀ := X.base) I.ok.mod.kin hk (thn (ha.run pos pins s σ H _ I h) fun us s1 ⟨vs, H1, I1, r, q⟩ => ⟨I1.kIn, run_fnGS F hr hb (takes_at hT σ) I1 r q⟩) he hpl
theorem pe_callKX {fA : Addr} {fd : FuncData} {sp : Sp} {g : List Value → List Value → List Value} {gV : List V → List V → List V} {kws : List Keyword} {tk : TA} (F : FnG X.prog X.w X.K X.mg X.base (L2.CX X.prog X.w) k fA fd ps sp) (hr : Rm k X.A) (hT : Takes X Wx) (hg : Gl X x) (hm : X.mg x = some (.ref fA)) (hk : PySem.W.keepIn X.K (.ref fA) = true) (hb : KBinds X.K fd ps ks g gV)
    (hkw : PK X kws tk) (hall : (backToKw pos (keywordEach kws X.env)).all (·.1.isSome) = true) (hks : (backToKw pos (keywordEach kws X.env)).filterMap (·.1) = ks)
    (hdb : (x == ("__debug__" : Str)) = false) (hpl : ((backTo pos (starEach [] X.env)).any (·.1) || (backToKw pos (keywordEach kws X.env)).any (·.1.isNone)) = false) :
    PE X (.Call (.Name x p) [] kws pos) fun σ H Q => tk σ H fun zs H2 => sp (gV [] zs) H2 Q fun cls d H' => Wx cls d σ H' := by
  refine ⟨fun pins s σ H Q I h => wpAny_Call_Name_kw (ld_glob I hg hm ?_ hdb)⟩
  refine PySem.W.callWith_KW0 (h₀ := X.base) I.ok.mod.kin hk hall (thn (hkw.run pos pins s σ H _ I h) fun ws s2 ⟨zs, H2, I2, rz, q2⟩ => ⟨I2.kIn, ?_⟩) hpl
  rw [hks]
  exact run_fnkGS (us := []) (vs := []) F hr hb (takes_at hT σ) I2 .nil rz q2
/-- the reading of a call that may raise: P for what it gives, PX for what an error brings -/
def tDX (Wx : WX) (C : Addr) (f : Str) (PX : D → Ro → Cs → Prop) (ρ : Ro) (cs : Cs) (P : PD) : TE := fun σ H Q => ∃ as hs, Fit as hs ρ cs σ H ∧ (∀ v H' as' d cs', Grow as as' H H' → Cells as' hs cs' H' → Rep as' hs H' d v → P d cs' → Q v H') ∧
  ∀ H' as' cs' v dd dx, Grow as as' H H' → Cells as' hs cs' H' → Rep as' hs H' dd v → dx ∉ as' → dx ∉ hs → H' dx = some (.xd [(f, v)]) → PX dd ρ cs' → Wx (.ref C) (some dx) σ H'
def WX1 (X : Cx) (Wx : WX) (C : Addr) (f : Str) (e : Expr) (PX : D → Ro → Cs → Prop) (ρ : Ro) (cs : Cs) (P : PD) : Prop := PE X e (tDX Wx C f PX ρ cs P)
theorem wx_call {g : GX} (F : FnX X.prog X.w X.K X.mg X.base k x ps (spX C f g)) (hr : Rm k X.A) (hT : Takes X Wx) (h : WA X (e :: es) ρ cs fun ds cs1 => g ds cs1 P fun dd cs' => PX dd ρ cs') (hg : Gl X x := by rfl) (hdb : (x == ("__debug__" : Str)) = false := by decide)
    (he : starEach (e :: es) X.env = (false, eval e X.env) :: starEach es X.env := by rfl) (hpl : (backTo pos (starEach es X.env)).any (·.1) = false := by rfl) : WX1 X Wx C f (.Call (.Name x p) (e :: es) [] pos) PX ρ cs P := by
  obtain ⟨fA, fd, hm, ok, kp, bd⟩ := F.ex
  refine pe_imp (pe_callX ok hr hT hg hm kp bd h hdb he hpl) fun σ H Q ⟨as, hs, ft, q, qx⟩ => subA ft fun vs H1 as1 ds cs1 g1 f1 r1 p1 => ?_
  exact ⟨as1, hs, ds, cs1, P, fun dd cs' => PX dd ρ cs', f1.cells, r1, p1, fun v H' as' d cs' g' => q v H' as' d cs' (g1.trans g'), fun as' cs' H' v dd dx g' => qx H' as' cs' v dd dx (g1.trans g')⟩
structure FnKX (P : Program) (w : World) (K : PySem.W.Frag) (mg : Str → Option Value) (base : Heap) (k : Nat) (x : Str) (ps ks : List Str) (gD : List D → List D → List D) (sp : Sp) : Prop where
  ex : ∃ f fd g gV, mg x = some (.ref f) ∧ FnG P w K mg base (L2.CX P w) k f fd ps sp ∧ PySem.W.keepIn K (.ref f) = true ∧ KBinds K fd ps ks g gV ∧ ∀ as hs H ds es vs us, RepL as hs H ds vs → RepL as hs H es us → RepL as hs H (gD ds es) (gV vs us)
theorem wx_callK {g : GX} {kws : List Keyword} {gD : List D → List D → List D} (F : FnKX X.prog X.w X.K X.mg X.base k x ps ks gD (spX C f g)) (hr : Rm k X.A) (hT : Takes X Wx) (h : WK X kws ρ cs fun ds cs1 => g (gD [] ds) cs1 P fun dd cs' => PX dd ρ cs') (hg : Gl X x := by rfl)
    (hall : (backToKw pos (keywordEach kws X.env)).all (·.1.isSome) = true := by rfl) (hks : (backToKw pos (keywordEach kws X.env)).filterMap (·.1) = ks := by rfl)
    (hdb : (x == ("__debug__" : Str)) = false := by decide) (hpl : ((backTo pos (starEach [] X.env)).any (·.1) || (backToKw pos (keywordEach kws X.env)).any (·.1.isNone)) = false := by rfl) : WX1 X Wx C f (.Call (.Name x p) [] kws pos) PX ρ cs P := by
  obtain ⟨fA, fd, gg, gV, hm, ok, kp, bd, rel⟩ := F.ex
  refine pe_imp (pe_callKX ok hr hT hg hm kp bd h hall hks hdb hpl) fun σ H Q ⟨as, hs, ft, q, qx⟩ => subA ft fun vs H1 as1 ds cs1 g1 f1 r1 p1 => ?_
  exact ⟨as1, hs, _, cs1, P, fun dd cs' => PX dd ρ cs', f1.cells, rel as1 hs H1 [] ds [] vs .nil r1, p1, fun v H' as' d cs' g' => q v H' as' d cs' (g1.trans g'), fun as' cs' H' v dd dx g' => qx H' as' cs' v dd dx (g1.trans g')⟩
theorem tdx_mk {as hs σ H} {Q : VK} (ft : Fit as hs ρ cs σ H) (hB : B ≤ as.length) (qx : FinXS B as hs H C f PX Wx) (q : ∀ v H' as' d cs', Grow as as' H H' → Fit as' hs ρ cs' σ H' → Rep as' hs H' d v → P d cs' → Q v H') : tDX Wx C f PX ρ cs P σ H Q :=
  ⟨as, hs, ft, fun v H' as' d cs' g c' r p => q v H' as' d cs' g (ft.grow g c') r p, fun H' as' cs' v dd dx g c' r => qx σ H' as' ρ cs' v dd dx (g.B B) (ft.grow g c') r⟩
theorem wsx_ret (h : WX1 X Wx C f e PX ρ cs fun d cs1 => E.rt d cs1) : WSX X Wx C f B (.Return (some e) pos) E PX ρ cs :=
  ps_imp (ps_ret h) fun DD σ H ⟨as, hs, hB, ft, q, qx⟩ => tdx_mk ft hB qx fun v H' as' d cs' g f' r p => q.rt _ _ _ _ _ (g.B B) f'.cells r p
theorem wsx_expr (h : WX1 X Wx C f e PX ρ cs fun _ cs1 => E.nx ρ cs1) (hs : swapsWith e none pos.line X.env = pure false := by rfl) : WSX X Wx C f B (.Expr e pos) E PX ρ cs :=
  ps_imp (ps_expr h hs) fun DD σ H ⟨as, hs, hB, ft, q, qx⟩ => tdx_mk ft hB qx fun v H' as' d cs' g f' r p => q.nx _ _ _ _ _ (g.B B) f' p
theorem wsx_set (i : Nat) (h : WX1 X Wx C f e PX ρ cs fun d cs1 => E.nx (ρ.set i (some d)) cs1) (hN : X.N.Nodup) (hi : X.N[i]? = some x := by rfl) (hx : Loc X.env.scope x := by first | exact .inl rfl | exact .inr rfl) (hs : swapsWith e (some (.Name x pos')) pos.line X.env = pure false := by rfl)
    (hf : X.fn x = true ∨ X.env.scope.names.lookup x = some .local := by first | exact .inl rfl | exact .inr rfl) : WSX X Wx C f B (.Assign [.Name x pos'] e pos) E PX ρ cs :=
  ps_imp (ps_set hN hi hx h hs hf) fun DD σ H ⟨as, hs, hB, ft, q, qx⟩ => tdx_mk ft hB qx fun v H' as' d cs' g f' r p => q.nx _ _ _ _ _ (g.B B) (f'.set i r) p

/-! ### a def that may raise -/
abbrev BxX (P : Program) (w : World) (K : PySem.W.Frag) (mg : Str → Option Value) (base : Heap) (N : List Str) (qual : Str) (st : Stmt) (f : Addr) (cdv : Value) (A : Around) (outer : List Env) (s : Shared) (H : Hp) (E : XK) : Cx :=
  cxOf (L2.CX P w) P w K mg base N qual (defScope st) f cdv A outer s H E
theorem shut_finX {as hs as' : List Addr} {cs cs' : Cs} {H H' : Hp} {PX' : PD} {Ex : XK} {C : Addr} {f : Str} {d : D} {v : V} {dx : Addr} (c : Cells as hs cs H) (q : FinX as hs H C f PX' Ex) (gb : GrowB cs.length as as' H H') (c' : Cells as' hs cs' H') (rv : Rep as' hs H' d v)
    (n1 : dx ∉ as') (n2 : dx ∉ hs) (hd : H' dx = some (.xd [(f, v)])) (hp : Shut cs.length PX' d cs') : Ex (.ref C) (some dx) H' := by
  have et := take_len gb c.len
  rw [c.len] at gb
  have g := gb.grow
  rcases hp with ⟨_, hp⟩ | ⟨m, d', rs, lw, hp⟩
  · exact q as' cs' H' v d dx g c' rv n1 n2 hd hp
  · have c2 := c'.take (ex := []) (fun _ z => nomatch z) (fun _ z => nomatch z) lw
    have r2 := rs.rep (ex := []) c' (fun _ z => nomatch z) rv
    have n3 : dx ∉ as'.take cs.length := nin_take n1
    rw [et] at c2 r2 n3
    exact q as _ H' v d' dx ⟨⟨[], by simp⟩, fun a h n => absurd h n, g.keep⟩ c2 r2 n3 n2 hd hp
section
variable {P : Program} {w : World} {K : PySem.W.Frag}
variable {mg : Str → Option Value} {base : Heap}
theorem fnX {x qual : Str} {st : Stmt} {fA : Addr} {fd : FuncData} {N ps : List Str} {k : Nat} {C : Addr} {f : Str} {g : GX} (F : FunD K x qual (defArgs st) (defBody st) (defScope st) [] [] fA fd) (S : FnScope N ps (defScope st)) (len : ∀ ds cs P PX, g ds cs P PX → ds.length = ps.length)
    (body : ∀ (cdv : Value) (A : Around) (outer : List Env) (s : Shared) (H : Hp) (E : XK), Rm k (A.deeper (envOfC qual (defScope st) s.heap.objs.size fA cdv)) → ∀ ds cs P' PX', g ds cs P' PX' → BaseOk cs ds →
      Takes (BxX P w K mg base N qual st fA cdv A outer s H E) (fun cls d _ H' => E cls d H') →
      WSXs (BxX P w K mg base N qual st fA cdv A outer s H E) (fun cls d _ H' => E cls d H') C f cs.length (defBody st) { nx := fun _ cs' => Shut cs.length P' .non cs', rt := Shut cs.length P' } (fun dd _ cs' => Shut cs.length PX' dd cs') (startD N ds) cs) : FnG P w K mg base (L2.CX P w) (k + 1) fA fd ps (spX C f g) := by
  obtain ⟨oc, od, dV, kV, doc, pm, an, cdv0, ct, osl, rfl, lk, hcd, _, _⟩ := F.ex
  refine fnG_of lk hcd S (fun vs H Q E ⟨as, hs, ds, cs, P', PX', c, r, hg, q⟩ => by rw [← r.length]; exact len ds cs P' PX' hg) fun A outer s H vs Q E hr ⟨as, hs, ds, cs, P', PX', c, r, hg, q, qx⟩ => ?_
  refine ⟨_, body cdv0 A outer s H E hr ds cs P' PX' hg (BaseOk.of c r) (takes_of rfl rfl rfl rfl), as, hs, by rw [c.len]; exact Nat.le_refl _, fit_start c r, ⟨?_, ?_, ?_, ?_⟩, ?_⟩
  · intro σ' H' as' ρ' cs' gb f' hp
    exact shut_fin c q gb f'.cells .non hp
  · intro v H' as' d cs' gb c' rv hp
    exact shut_fin c q gb c' rv hp
  · intro σ' H' as' ρ' cs' gb f' hp; exact hp.elim
  · intro σ' H' as' ρ' cs' gb f' hp; exact hp.elim
  · intro σ' H' as' ρ' cs' v dd dx gb f' rv n1 n2 hd hp
    exact shut_finX c qx gb f'.cells rv n1 n2 hd hp
end

/-! ### try .. except Impossible as e: return e.reason, return ("no", e.reason) -/
theorem ws_tryR (i : Nat) {p1 p2 p3 hp1 : Pos} (I : ImpC X.prog X.w X.K X.mg X.base C) (hN : X.N.Nodup)
    (h : ∀ (Wx : WX) (pn : List (Addr × Obj)) (xe : Value → Shared → Prop), Takes (X.tr pn xe) Wx → PassesOwn (model X.prog X.w) X.A X.env xe → WSXs (X.tr pn xe) Wx C "reason" B body E (fun dd ρ' cs' => i < ρ'.length ∧ E.rt dd cs') ρ cs)
    (hst : X.stack = X.env :: X.outer := by rfl) (hfr : X.env.frame = some X.env.locals := by rfl) (hi : X.N[i]? = some n := by rfl) (hk : X.env.kindOf n = some .local := by rfl) (hg : Gl X "Impossible" := by rfl)
    (hv : Vis X.env.scope n := by first | exact .inl rfl | exact .inr rfl | rfl) (hd : (n == ("__debug__" : Str)) = false := by decide) (hd2 : (n == ("__classdict__" : Str)) = false := by decide)
    (hb : attributeBase (.Name n p1) "reason" X.env (eval (.Name n p1) X.env) = eval (.Name n p1) X.env := by rfl) :
    WS X B (.Try body [.ExceptHandler (some (.Name "Impossible" np)) (some n) [.Return (some (.Attribute (.Name n p1) "reason" p2)) p3] hp1] [] [] pos) E ρ cs := by
  refine ws_of (ps_try_as (i := i) (tb := fun Wx => tSX Wx C "reason" B E (fun dd ρ' cs' => i < ρ'.length ∧ E.rt dd cs') ρ cs) (ts := fun a cls d => tRet (tXf a cls d C "reason" (tVar i))) (Wout := fun _ _ _ _ => False) hst hfr hN hi hk ⟨hg, by decide, .inl I.gl⟩ takes0
    (fun Wx pn xe tk po => h Wx pn xe tk po) (fun a oe cls d pn hz hf => pss_one (ps_ret (pe_xf I.xf I.noat hz hf (pv i (hi) hv hd hd2) hb)))) fun as hs σ H DD hB ft q => ?_
  refine ⟨as, hs, hB, ft, q, fun σ' H' as' ρ' cs' v dd dx g f' rv n1 n2 hdx ⟨hl, hp⟩ => ⟨true, I.exm, fun _ a _ => ?_, fun z => Bool.noConfusion z⟩⟩
  have hi' : i < σ'.length := by rw [← f'.slen]; exact hl
  refine ⟨.ref a, List.getElem?_set_self hi', rfl, rfl, dx, [("reason", v)], v, rfl, hdx, by simp [List.lookup], ?_⟩
  exact q.rt v H' as' dd cs' g f'.cells rv hp
theorem ws_tryNo (i : Nat) {p1 p2 p3 p4 p5 hp1 : Pos} {kc kt : Nat} {w0 : Str} (I : ImpC X.prog X.w X.K X.mg X.base C) (hN : X.N.Nodup)
    (h : ∀ (Wx : WX) (pn : List (Addr × Obj)) (xe : Value → Shared → Prop), Takes (X.tr pn xe) Wx → PassesOwn (model X.prog X.w) X.A X.env xe → WSXs (X.tr pn xe) Wx C "reason" B body E (fun dd ρ' cs' => i < ρ'.length ∧ E.rt (.tup [.str w0, dd]) cs') ρ cs)
    (hst : X.stack = X.env :: X.outer := by rfl) (hfr : X.env.frame = some X.env.locals := by rfl) (hi : X.N[i]? = some n := by rfl) (hk : X.env.kindOf n = some .local := by rfl) (hg : Gl X "Impossible" := by rfl)
    (hv : Vis X.env.scope n := by first | exact .inl rfl | exact .inr rfl | rfl) (hd : (n == ("__debug__" : Str)) = false := by decide) (hd2 : (n == ("__classdict__" : Str)) = false := by decide)
    (hb : attributeBase (.Name n p1) "reason" X.env (eval (.Name n p1) X.env) = eval (.Name n p1) X.env := by rfl) :
    WS X B (.Try body [.ExceptHandler (some (.Name "Impossible" np)) (some n) [.Return (some (.Tuple [.Constant (.str w0) kc p4, .Attribute (.Name n p1) "reason" p2] kt p5)) p3] hp1] [] [] pos) E ρ cs := by
  refine ws_of (ps_try_as (i := i) (tb := fun Wx => tSX Wx C "reason" B E (fun dd ρ' cs' => i < ρ'.length ∧ E.rt (.tup [.str w0, dd]) cs') ρ cs) (ts := fun a cls d => tRet (tTup (tCons (tC (.str w0)) (tCons (tXf a cls d C "reason" (tVar i)) tNil)))) (Wout := fun _ _ _ _ => False) hst hfr hN hi hk ⟨hg, by decide, .inl I.gl⟩ takes0
    (fun Wx pn xe tk po => h Wx pn xe tk po) (fun a oe cls d pn hz hf => pss_one (ps_ret (pe_tup (pa_cons pe_str (pa_cons (pe_xf I.xf I.noat hz hf (pv i (hi) hv hd hd2) hb) pa_nil)))))) fun as hs σ H DD hB ft q => ?_
  refine ⟨as, hs, hB, ft, q, fun σ' H' as' ρ' cs' v dd dx g f' rv n1 n2 hdx ⟨hl, hp⟩ => ⟨true, I.exm, fun _ a _ => ?_, fun z => Bool.noConfusion z⟩⟩
  have hi' : i < σ'.length := by rw [← f'.slen]; exact hl
  refine ⟨.ref a, List.getElem?_set_self hi', rfl, rfl, dx, [("reason", v)], v, rfl, hdx, by simp [List.lookup], ?_⟩
  refine ⟨by show 2 ≤ sizeLine; rw [sizeLine_eq]; decide, fun p hp0 => ?_⟩
  have fr := f'.cells.fresh hp0
  exact q.rt _ _ as' (.tup [.str w0, dd]) cs' (g.trans ((Grow.laid hp0).B B) hB) (f'.cells.laid hp0) (.tup fr.1 fr.2 upd_same (.cons .str (.cons (rv.grow (Grow.laid hp0)) .nil))) hp
end
end Rg
set_option Elab.async false
set_option linter.all false
set_option maxRecDepth 100000
/-! sets of whole numbers by a comprehension; zip over two tuples; three names from a tuple -/
namespace Rg
open PySem PySem.Spec
open PyProof.Rows L2
/-- an int goes into a set of ints -/
theorem add_int {X : Cx} {pins : List (Addr × Obj)} {σ : L2.St} {H : Hp} {s : Shared} {Er : Value → Shared → Prop} {D : Addr} {S : Int → Bool} {n : Nat} {y : Int} {tk : Tok} {Q : Value → Shared → Prop} (I : Inv X pins σ H s) (hD : H D = some (SetO X.w D S n)) (hn : n + 1 < scanBound)
    (k : ∀ s', Inv X pins σ (upd H D (SetO X.w D (fun j => S j || decide (j = y)) (if S y = true then n else n + 1))) s' → Q .none s') : wpAny (model X.prog X.w) X.A (call (.builtin "set.add") [.ref D, .int y tk]) Q Er s := by
  refine setR_add (setO_get I hD) hn fun h' sb R' => k _ ?_
  have there : ∃ o, h'.get? D = some o := by
    obtain ⟨o, _, _, _, ho, _⟩ := R'
    exact ⟨o, ho⟩
  exact I.write (by rw [hD]; exact trivial) (.inl rfl) (fun b u hb hu => (sb.2 b hb).trans hu) there (setO_new R')
/-- what a comprehension that makes a set of ints asks -/
def tSi (w : World) (wi : TI) (g : TG) (tt : TT) (te : TE) (vs : List Nat) : TE := fun σ H Q => wi σ H fun J H1 => ∀ D, H1 D = none → ∃ Wv : Nat → Nat → Hp → Prop, (∃ m, Wv 0 m (upd H1 D (SetO w D (fun _ => false) 0))) ∧
  ∀ i m H, Wv i m H → (J.stop i H ∧ Q (.ref D) H) ∨ (J.go i H ∧ ∃ Nx : Hp → Prop, (∀ H', Nx H' → ∃ m', m' < m ∧ Wv (i + 1) m' H') ∧
    ∀ x H', J.yld i H x H' → g x (wipe σ vs) H' fun σ2 H2 => wipe σ2 vs = wipe σ vs ∧ tt σ2 H2 fun b H3 => if b = true then te σ2 H3 fun y H4 => ∃ c S n, y = V.int c ∧ H4 D = some (SetO w D S n) ∧ n + 1 < scanBound ∧ Nx (upd H4 D (SetO w D (fun j => S j || decide (j = c)) (if S c = true then n else n + 1))) else Nx H3)
section
variable {X : Cx} {elt tg iter : Expr} {ifs : List Expr} {scope : Scope} {own : List (Str × Nat)} {pos : Pos} {wi : TI} {g : TG} {tt : TT} {te : TE}
theorem set_loop {pins : List (Addr × Obj)} {σ : L2.St} {hA : Hp} {sA : Shared} {Q : VK} {D it : Addr} {fp : List Addr} {tn : Nat → Heap → Prop} {J : It} {Wv : Nat → Nat → Hp → Prop} {mA : Nat} (hc : X.calm = true) (hN : X.N.Nodup) (ok : BlkOk X.N X.env.scope scope own) (Ja : Inv X pins σ hA sA)
    (hg : ∀ s H C cl fp, PG (X.blk s H scope (compEnvC scope cl C X.env) fp) tg g) (ht : ∀ s H C cl fp, PTs (X.blk s H scope (compEnvC scope cl C X.env) fp) ifs tt) (he : ∀ s H C cl fp, PE (X.blk s H scope (compEnvC scope cl C X.env) fp) elt te)
    (T : Turn X.prog X.w X.K tg J fp it tn) (tA : tn 0 sA.heap) (fA : ∀ b ∈ fp, FpOk X pins hA b ∧ b < sA.heap.objs.size) (hw0 : Wv 0 mA hA)
    (plan : ∀ i m H, Wv i m H → (J.stop i H ∧ Q (.ref D) H) ∨ (J.go i H ∧ ∃ Nx : Hp → Prop, (∀ H', Nx H' → ∃ m', m' < m ∧ Wv (i + 1) m' H') ∧ ∀ x H', J.yld i H x H' → g x (wipe σ (own.map (·.2))) H' fun σ2 hZ => wipe σ2 (own.map (·.2)) = wipe σ (own.map (·.2)) ∧ tt σ2 hZ fun b hA => if b = true then te σ2 hA fun y H4 => ∃ c S n, y = V.int c ∧ H4 D = some (SetO X.w D S n) ∧ n + 1 < scanBound ∧ Nx (upd H4 D (SetO X.w D (fun j => S j || decide (j = c)) (if S c = true then n else n + 1))) else Nx hA)) :
    codeAny (model X.prog X.w) X.A (.compStart (.SetComp elt [⟨tg, iter, ifs, 0⟩] scope pos) 0 (.ref it) (.ref D) (compEnvC scope (cellsFrom (sA.heap.objs.size + 1) scope.names (cloFrom X.env.cells scope.names [])) sA.heap.objs.size X.env))
      (compPost (model X.prog X.w) X.A X.xe none (EP X pins σ Q) (.ref D) sA.heap.objs.size) { sA with heap := pushCells (sA.heap.push { cls := .type "dict", data := .dict #[] }) scope.names } := by
  have Jb := block_start Ja ok hN fA
  have pga := hg sA hA sA.heap.objs.size (cellsFrom (sA.heap.objs.size + 1) scope.names (cloFrom X.env.cells scope.names [])) fp
  have ptt := ht sA hA sA.heap.objs.size (cellsFrom (sA.heap.objs.size + 1) scope.names (cloFrom X.env.cells scope.names [])) fp
  have pel := he sA hA sA.heap.objs.size (cellsFrom (sA.heap.objs.size + 1) scope.names (cloFrom X.env.cells scope.names [])) fp
  have cL : (compEnvC scope (cellsFrom (sA.heap.objs.size + 1) scope.names (cloFrom X.env.cells scope.names [])) sA.heap.objs.size X.env).locals = sA.heap.objs.size := rfl
  generalize compEnvC scope (cellsFrom (sA.heap.objs.size + 1) scope.names (cloFrom X.env.cells scope.names [])) sA.heap.objs.size X.env = cv at Jb pga ptt pel cL ⊢
  have tB : tn 0 (pushCells (sA.heap.push { cls := .type "dict", data := .dict #[] }) scope.names) := T.keep 0 sA.heap _ tA fun b _ o e => pushCells_keeps _ _ b o (Heap.get?_push_of_some _ e)
  have live : ∀ {σ' H' s'}, Inv (X.blk sA hA scope cv fp) [] σ' H' s' → (∀ b ∈ fp, H' b = none) → ∀ b ∈ fp, FpOk (X.blk sA hA scope cv fp) [] H' b := fun I' hn b hb =>
    ⟨hn b hb, (I'.ok.exf b hb).1, I'.ok.exfs b hb, .inl hb, fun x c e => (I'.ok.exf b hb).2 x c e, fun p hp => nomatch (show p ∈ ([] : List (Addr × Obj)) from hp)⟩
  have run := PpSet.compLoopS_any (elt := elt) (target := tg) (iter := iter) (ifs := ifs) (scope := scope) (pos := pos) (prog := X.prog) (w := X.w) (A := X.A) (env := cv) (it := .ref it) (acc := .ref D) (R := compPost (model X.prog X.w) X.A X.xe none (EP X pins σ Q) (.ref D) sA.heap.objs.size)
    (fun n s' => ∃ i H', Inv (X.blk sA hA scope cv fp) [] (wipe σ (own.map (·.2))) H' s' ∧ tn i s'.heap ∧ (∀ b ∈ fp, H' b = none) ∧ Wv i n H') ?plan mA ⟨0, hA, Jb, tB, fun b hb => (fA b hb).1.1, hw0⟩
  · exact PpSet.codeAny_compStart_set run (T.self X.A 0 _ _ _ tB run)
  case plan =>
    rintro n sC ⟨i, hC, Jc, tC, nC, hw5⟩
    rcases plan i n hC hw5 with ⟨over, qz⟩ | ⟨goes, Nx, later, turn1⟩
    · refine thnF (T.done (X.blk sA hA scope cv fp) rfl rfl rfl hc i [] sC _ hC (fun _ _ => False) Jc (live Jc nC) tC over) fun r sD ⟨hr, Jd⟩ => ?_
      subst hr
      have Je : Inv X pins σ hC sD := Ja.call' Jd.os Jd.base Jd.hok Jd.bare fun b hb => ⟨(fA b hb).1.2.2.2.1, (fA b hb).1.2.1, (fA b hb).1.2.2.2.2.1, (fA b hb).1.2.2.2.2.2⟩
      have nL : hC sA.heap.objs.size = none := by rw [← cL]; exact Jd.free
      obtain ⟨m, hn, _⟩ := Jd.loc
      have hnL : sD.heap.Ns sA.heap.objs.size m := by rw [← cL]; exact hn
      have fL : FpOk X pins hC sA.heap.objs.size := Ja.fpOk (Nat.le_refl _) nL
      exact ⟨m, hnL, fun h'' sb => ⟨.ref D, hC, Je.turned (fun b o hb e => (sb.2 b hb).trans e) fL.1 fL.2.1 fL.2.2.2.1 fL.2.2.2.2.1 fL.2.2.2.2.2, rfl, qz⟩⟩
    · refine thnF (T.item (X.blk sA hA scope cv fp) rfl rfl rfl hc i [] sC _ hC (fun _ _ => False) Jc (live Jc nC) tC goes) fun r sD ⟨u, hr, nxt⟩ => ?_
      subst hr
      refine thnF nxt fun _ sE ⟨x, hE, Je, rE, yE, tE, nE⟩ => ?_
      have Jf := Je.pinned (live Je nE) (T.obj (i + 1) _ tE)
      refine thnF (pga.run _ sE _ hE x u _ Jf rE (turn1 x hE yE)) fun _ sG ⟨σ8, hG, Jg, ew, qG⟩ => ?_
      refine thnF (ptt.run _ sG σ8 hG _ Jg qG) fun b sH ⟨hH, Jh, qH⟩ => ?_
      have close : ∀ {s' : Shared} {H' : Hp}, Inv (X.blk sA hA scope cv fp) ([] ++ pinsAt fp sE.heap) σ8 H' s' → Nx H' → ∃ m, m < n ∧ ∃ i H', Inv (X.blk sA hA scope cv fp) [] (wipe σ (own.map (·.2))) H' s' ∧ tn i s'.heap ∧ (∀ b ∈ fp, H' b = none) ∧ Wv i m H' := fun {s' H'} I' nx => by
        obtain ⟨m', hm, w'⟩ := later H' nx
        have pin' : ∀ b ∈ fp, ∀ o, sE.heap.get? b = some o → s'.heap.get? b = some o ∧ H' b = none := fun b hb o e => by
          have z := I'.pin (b, o) (List.mem_append_right _ (List.mem_append_right _ (mem_pinsAt hb e)))
          exact ⟨z.1, z.2.1⟩
        refine ⟨m', hm, i + 1, H', I'.unpinned.weak ?_ ?_, T.keep (i + 1) _ _ tE fun b hb o e => (pin' b hb o e).1, fun b hb => ?_, w'⟩
        · rw [← ew, wipe_length]
        · intro j v e
          rw [← ew] at e
          exact (wipe_some e).1
        · obtain ⟨o, e, _⟩ := T.obj (i + 1) _ tE b hb
          exact (pin' b hb o e).2
      cases b with
      | false =>
        rw [if_neg Bool.false_ne_true] at qH ⊢
        exact close Jh qH
      | true =>
        rw [if_pos rfl] at qH ⊢
        refine thnF (pel.run _ sH σ8 hH _ Jh qH) fun y sI ⟨v, hI, Ji, rI, c, S, k, ev, hDD, hk, nx⟩ => ?_
        subst ev
        obtain ⟨t, rfl⟩ := rI
        exact add_int (X := X.blk sA hA scope cv fp) Ji hDD hk fun s' I' => close I' nx
theorem pe_setInts (hc : X.calm = true) (hN : X.N.Nodup) (hi : PI X tg iter wi) (ok : BlkOk X.N X.env.scope scope own) (hg : ∀ s H C cl fp, PG (X.blk s H scope (compEnvC scope cl C X.env) fp) tg g)
    (ht : ∀ s H C cl fp, PTs (X.blk s H scope (compEnvC scope cl C X.env) fp) ifs tt) (he : ∀ s H C cl fp, PE (X.blk s H scope (compEnvC scope cl C X.env) fp) elt te) (hs : ∀ x, foldedSetIterable iter X.env x = pure x := by intro _; rfl) :
    PE X (.SetComp elt [⟨tg, iter, ifs, 0⟩] scope pos) (tSi X.w wi g tt te (own.map (·.2))) := by
  refine ⟨fun pins s σ H Q J0 h => ?_⟩
  rw [PpSet.eval_SetComp]
  have hcl := closure_ok (scope := scope) (env := X.env) fun y hy e => (ok.free y hy e).elim (fun k => J0.ok.has y.1 (.inl k)) fun k => J0.ok.has y.1 (.inr k)
  refine wpAny_comprehension_free (use := none) rfl hs hcl ok.kind (fun y hy e => by rw [ok.uniq y hy, e]) (thn (hi.run pins s σ H _ J0 h) fun seqv sY hit => thn hit fun itr sZ hen => ?_)
  obtain ⟨it, fp, tn, J, hZ, rfl, Jz, T, tZ, fZ, q⟩ := hen
  have hDn : hZ sZ.heap.objs.size = none := Jz.hok.fresh (Nat.le_refl _)
  obtain ⟨Wv, ⟨mA, hw0⟩, plan⟩ := q _ hDn
  refine PpSet.newSet_ok (newEnv_comp ?_)
  have kp : ∀ (b : Addr) (o : Obj), sZ.heap.get? b = some o → (sZ.heap.push { cls := .type "set", data := .set #[] 0 (SetTable.fresh 0 0 !X.w.params.followText "set-order") }).get? b = some o := fun b o e => Heap.get?_push_of_some _ e
  refine set_loop hc hN ok (Jz.laid (t' := sZ.toks) kp (Nat.le_refl _) (setO_new (setR_fresh (h := sZ.heap) X.w))) hg ht he T (T.keep 0 _ _ tZ fun b _ o e => kp b o e) (fun b hb => ?_) hw0 plan
  obtain ⟨o, e, _⟩ := T.obj 0 _ tZ b hb
  have hlt := Heap.lt_size e
  exact ⟨⟨by rw [upd_ne (Nat.ne_of_lt hlt)]; exact (fZ b hb).1, (fZ b hb).2⟩, by show b < (Heap.push _ _).objs.size; rw [Heap.size_push]; exact Nat.lt_succ_of_lt hlt⟩
end
theorem Cells.show {as hs hs' : List Addr} {cs : Cs} {H : Hp} (c : Cells as hs cs H) (k : ∀ a, a ∈ hs' → a ∈ hs) : Cells as hs' cs H :=
  ⟨c.nd, c.len, fun j a e => by
    obtain ⟨ds, vs, h1, h2, h3⟩ := c.at_ j a e
    exact ⟨ds, vs, h1, h2, h3.show k⟩, fun a h => c.hid a (k a h)⟩
section
variable {X : Cx} {ρ : Ro} {cs : Cs} {elt iter c : Expr} {P : PD} {pos p kpos cpos : Pos} {x : Str} {scope : Scope}
/-- what a set of ints by a comprehension over a list asks: sel tells what each item brings -/
def ScL (X : Cx) (elt c : Expr) (i : Nat) (scope : Scope) (ρ : Ro) (cs1 : Cs) (d : D) (P : PD) : Prop := ∃ (xs : List D) (sel : Nat → Option Int), LstD cs1 d xs ∧ xs.length ≤ 1000 ∧
  (∀ j y, xs[j]? = some y → TIf X scope c ((wipeD ρ [i]).set i (some y)) cs1 fun k cs2 => cs2 = cs1 ∧ k = (sel j).isSome ∧ ∀ v, sel j = some v → Blk X scope fun Y => W Y elt ((wipeD ρ [i]).set i (some y)) cs1 fun z cs3 => cs3 = cs1 ∧ z = .int v) ∧
  ∀ ks : List Int, ks.Nodup → (∀ k, k ∈ ks ↔ ∃ j, j < xs.length ∧ sel j = some k) → P (.int ks.length) cs1
theorem scl_reads {i : Nat} {as hs : List Addr} {σ : L2.St} {H0 : Hp} {Q : VK} (f : Fit as hs ρ cs σ H0) (q : Fin as hs H0 P Q) :
    tSi X.w (iList X.K (tD ρ cs fun d cs1 => ScL X elt c i scope ρ cs1 d P)) (gName i) (tTst (TIf X scope c)) (tElt X elt scope) [i] σ H0 fun v H1 => ∃ a S n, [v] = [V.ref a] ∧ H1 a = some (SetO X.w a S n) ∧ ∀ ks : List Int, ks.Nodup → (∀ k, k ∈ ks ↔ S k = true) → Q (.int ks.length) H1 := by
  refine sub1 f fun v H1 as1 d cs1 g1 f1 r1 ⟨xs, sel, hl, hx1, step, done⟩ => ?_
  obtain ⟨a, vs, ev, hr, rl⟩ := hl.rep f1.cells r1
  subst ev
  refine ⟨a, rfl, ⟨vs, .inl hr⟩, fun D nD => ?_⟩
  have fresh := f1.cells.fresh nD
  let St : Nat → Hp → Prop := fun j H => ∃ as' S n, Grow as1 as' H1 H ∧ Cells as' (D :: hs) cs1 H ∧ H D = some (SetO X.w D S n) ∧ n ≤ j ∧ ∀ k, S k = true ↔ ∃ j', j' < j ∧ sel j' = some k
  refine ⟨fun j m H => m = xs.length - j ∧ j ≤ xs.length ∧ St j H, ⟨xs.length, by simp, Nat.zero_le _, as1, _, 0, Grow.laid nD, f1.cells.hide nD, upd_same, Nat.le_refl _, fun k => ⟨fun z => Bool.noConfusion z, fun ⟨_, z, _⟩ => absurd z (Nat.not_lt_zero _)⟩⟩, ?_⟩
  rintro j m H ⟨rfl, hj, as', S, n, g, c', hD, hn, hS⟩
  have f' : Fit as' (D :: hs) (wipeD ρ [i]) cs1 (wipe σ [i]) H := by
    refine Fit.wipe ⟨c', f1.slen, fun i d e => ?_⟩ [i]
    obtain ⟨v, h, r⟩ := f1.slot i d e
    exact ⟨v, h, (r.hide nD).grow g⟩
  obtain ⟨a2, vs2, e2, hr2, rl2⟩ := hl.rep c' ((r1.hide nD).grow g)
  cases e2
  by_cases hlt : j < xs.length
  · refine .inr ⟨⟨vs2, vs2[j]'(by rw [← rl2.length]; exact hlt), .inl hr2, by simp⟩, St (j + 1), fun H' z => ⟨xs.length - (j + 1), by omega, rfl, hlt, z⟩, fun x H' yy => ?_⟩
    obtain ⟨e3, yy⟩ := yy
    subst e3
    obtain ⟨x', hx', rx'⟩ := rl2.get' (yy vs2 (.inl hr2))
    refine ⟨?_, ?_⟩
    · show List.set (List.set (List.set σ i none) i (some x)) i none = List.set σ i none
      rw [List.set_set, List.set_set]
    refine ⟨_, cs1, _, step j x' hx', as', D :: hs, f'.set i rx', fun b H3 as3 cs3 g3 c3 ⟨ec, eb, hv⟩ => ?_⟩
    subst ec
    have keepD : ∀ {asx asy : List Addr} {Hx Hy : Hp} {csx : Cs} {u : HO}, Cells asx (D :: hs) csx Hx → Grow asx asy Hx Hy → Hx D = some u → Hy D = some u := fun c g h => g.keep _ _ (c.hid D List.mem_cons_self).1 h
    have hD3 := keepD c' g3 hD
    cases hs0 : sel j with
    | none =>
      rw [eb, hs0, if_neg (by simp)]
      refine ⟨as3, S, n, g.trans g3, c3, hD3, by omega, fun k => (hS k).trans ⟨fun ⟨j', h1, h2⟩ => ⟨j', by omega, h2⟩, fun ⟨j', h1, h2⟩ => ⟨j', ?_, h2⟩⟩⟩
      rcases Nat.lt_or_eq_of_le (Nat.le_of_lt_succ h1) with z | z
      · exact z
      · rw [z, hs0] at h2; cases h2
    | some v =>
      rw [eb, hs0, if_pos (by simp)]
      refine ⟨_, cs3, _, hv v hs0, as3, D :: hs, (f'.set i rx').grow g3 c3, fun y H4 as4 d4 cs4 g4 c4 r4 ⟨ec4, ed4⟩ => ?_⟩
      subst ec4 ed4
      cases r4
      have hD4 := keepD c3 g4 hD3
      refine ⟨v, S, n, rfl, hD4, ?_, as4, _, _, ?_, c4.dmut List.mem_cons_self, upd_same, ?_, fun k => ?_⟩
      · have : scanBound = 4096 := rfl
        omega
      · have gg := (g.trans g3).trans g4
        exact ⟨gg.ext, gg.new, fun a o na ha => by rw [upd_ne (ne_of_none ha nD)]; exact gg.keep a o na ha⟩
      · split <;> omega
      · rw [Bool.or_eq_true, hS k, decide_eq_true_eq]
        constructor
        · rintro (⟨j', h1, h2⟩ | e)
          · exact ⟨j', by omega, h2⟩
          · exact ⟨j, Nat.lt_succ_self _, by rw [hs0, e]⟩
        · rintro ⟨j', h1, h2⟩
          rcases Nat.lt_or_eq_of_le (Nat.le_of_lt_succ h1) with z | z
          · exact .inl ⟨j', z, h2⟩
          · rw [z, hs0] at h2; exact .inr (Option.some.inj h2).symm
  · have e : j = xs.length := by omega
    subst e
    refine .inl ⟨⟨vs2, .inl hr2, by rw [← rl2.length]; exact Nat.le_refl _⟩, D, S, n, rfl, hD, fun ks nd mem => ?_⟩
    exact q _ _ as' _ cs1 (g1.trans g) (c'.show fun a h => List.mem_cons_of_mem _ h) .int (done ks nd fun k => (mem k).trans (hS k))
/-- len({elt for x in e if c}), the set one of ints -/
theorem w_lenSetC (i : Nat) (hc : X.calm = true) (hN : X.N.Nodup) (hm : X.mg "len" = none) (ok : BlkOk X.N X.env.scope scope [(x, i)]) (hg : PgB X scope x p i) (h : W X iter ρ cs fun d cs1 => ScL X elt c i scope ρ cs1 d P)
    (hs : ∀ x, foldedSetIterable iter X.env x = pure x := by intro _; rfl) (hgl : Gl X "len" := by rfl)
    (he2 : starEach [.SetComp elt [⟨.Name x p, iter, [c], 0⟩] scope cpos] X.env = (false, eval (.SetComp elt [⟨.Name x p, iter, [c], 0⟩] scope cpos) X.env) :: starEach [] X.env := by rfl) : W X (.Call (.Name "len" kpos) [.SetComp elt [⟨.Name x p, iter, [c], 0⟩] scope cpos] [] pos) ρ cs P := by
  refine w_of (pe_callB cr_lenSet hgl hm PySem.boot_len (pa_cons (pe_setInts hc hN (pi_list h) ok hg pts_if pe_elt hs) pa_nil he2) (by decide) (by decide) he2 rfl) fun as hs σ H Q f q => ?_
  exact scl_reads f q
end
section
variable {X : Cx} {ρ : Ro} {cs : Cs} {E : En} {B : Nat} {e a b elt : Expr} {PN : List D → Cs → Prop} {x y z : Str} {px py pz tp pos kpos cpos : Pos} {kt : Nat} {scope : Scope}
/-- three names from a tuple -/
abbrev gTrip (K : PySem.W.Frag) (i j l : Nat) : TG := gTup K 3 (gCons (gName i) (gCons (gName j) (gCons (gName l) gNil)))
theorem ws_unp3 (i j l : Nat) (h : W X e ρ cs fun d cs1 => ∃ d1 d2 d3, d = .tup [d1, d2, d3] ∧ E.nx (((ρ.set i (some d1)).set j (some d2)).set l (some d3)) cs1) (hg : PG X (.Tuple [.Name x px, .Name y py, .Name z pz] kt tp) (gTrip X.K i j l))
    (hs : swapsWithSole [.Tuple [.Name x px, .Name y py, .Name z pz] kt tp] e pos.line X.env = pure false := by rfl) (hw : swappedStores [.Tuple [.Name x px, .Name y py, .Name z pz] kt tp] e X.env = pure none := by rfl)
    (h1 : (assignEach [.Tuple [.Name x px, .Name y py, .Name z pz] kt tp] X.env).map (·.2) = [assign (.Tuple [.Name x px, .Name y py, .Name z pz] kt tp) X.env] := by rfl) : WS X B (.Assign [.Tuple [.Name x px, .Name y py, .Name z pz] kt tp] e pos) E ρ cs := by
  refine ws_of (ps_asg h hg hs hw h1) fun as hs σ H DD hB f q => ?_
  refine sub1 f fun v H1 as1 d cs1 g1 f1 r1 ⟨d1, d2, d3, ed, p1⟩ => ?_
  subst ed
  cases r1 with
  | tup na nh hT rT =>
    cases rT with
    | cons q1 rT =>
      cases rT with
      | cons q2 rT =>
        cases rT with
        | cons q3 rT =>
          cases rT
          have fs := ((f1.set i q1).set j q2).set l q3
          exact ⟨_, _, rfl, .inl (.inl hT), rfl, _, _, rfl, _, _, rfl, _, _, rfl, rfl, q.nx _ _ _ _ _ (g1.B B) fs p1⟩
/-- [elt for x, y in zip(a, b)], both tuples -/
def LcZT (X : Cx) (elt : Expr) (i j : Nat) (scope : Scope) (ρ : Ro) (cs1 : Cs) (ds : List D) (PN : List D → Cs → Prop) : Prop := ∃ (xs ys : List D) (I : Nat → List D → Cs → Prop), ds = [.tup xs, .tup ys] ∧ I 0 [] cs1 ∧ (∀ k acc cs', I k acc cs' → acc.length < 100000) ∧
  (∀ k x y acc cs', xs[k]? = some x → ys[k]? = some y → I k acc cs' → Blk X scope fun Y => W Y elt (((wipeD ρ [i, j]).set i (some x)).set j (some y)) cs' fun y cs3 => I (k + 1) (acc ++ [y]) cs3) ∧
  (∀ acc cs', I (min xs.length ys.length) acc cs' → PN acc cs')
theorem lczt_reads {i j : Nat} (hij : i ≠ j) {as hs : List Addr} {σ : L2.St} {H0 : Hp} {Q : VK} (f : Fit as hs ρ cs σ H0) (q : FinN as hs H0 PN Q) :
    tLc (RZ.iZipA X.K (tDA ρ cs fun ds cs1 => LcZT X elt i j scope ρ cs1 ds PN)) (gPair X.K i j) (tTst TNo) (tElt X elt scope) [i, j] σ H0 Q := by
  refine subA f fun vs H1 as1 ds cs1 g1 f1 r1 ⟨xs, ys, I, ed, i0, hl, step, done⟩ => ?_
  subst ed
  cases r1 with
  | cons r1 t =>
    cases t with
    | cons r2 t =>
      cases t
      cases r1 with
      | @tup a us _ na nh hr rl =>
        cases r2 with
        | @tup b ws _ nb nh' hr' rl' =>
          refine ⟨a, b, us, ws, rfl, .inr ⟨.inl (.inl hr), .inl (.inl hr'), lc_loop (n := min xs.length ys.length) I (fun k => match xs[k]?, ys[k]? with | some x, some y => ((wipeD ρ [i, j]).set i (some x)).set j (some y) | _, _ => ρ) f1 i0 ?_ ?_ (fun k acc cs' z => hl k acc cs' z) ?_⟩⟩
          · intro Dd nD k as' cs' acc H hk g f' ik
            have ka := g.keep _ _ na hr
            have kb := g.keep _ _ nb hr'
            have rl2 := (rl.hide nD).grow g
            have rl3 := (rl'.hide nD).grow g
            refine ⟨fun e => ⟨us, ws, .inl (.inl ka), .inl (.inl kb), by rw [← rl2.length, ← rl3.length, e]; omega⟩, fun hlt => ⟨⟨us, ws, us[k]'(by rw [← rl2.length]; omega), ws[k]'(by rw [← rl3.length]; omega), .inl (.inl ka), .inl (.inl kb), by simp, by simp⟩, fun v H' yy Q' kk => ?_⟩⟩
            obtain ⟨Tt, v1, v2, rfl, nT, rfl, y1, y2⟩ := yy
            obtain ⟨x', hx', rx'⟩ := rl2.get' (y1 us (.inl (.inl ka)))
            obtain ⟨y', hy', ry'⟩ := rl3.get' (y2 ws (.inl (.inl kb)))
            refine pair_go f' nT rx' ry' fun gg ff => kk _ _ (wipe2 hij) gg ?_
            rw [hx', hy']; exact ff
          · intro k acc cs' as' hs' σ2 H2 Q' Qn hlt ik f2 k1 k2
            have hx : xs[k]? = some (xs[k]'(by omega)) := List.getElem?_eq_getElem (by omega)
            have hy : ys[k]? = some (ys[k]'(by omega)) := List.getElem?_eq_getElem (by omega)
            rw [hx, hy] at f2
            refine ⟨_, cs', fun t cs2 => t = true ∧ cs2 = cs', ⟨rfl, rfl⟩, as', hs', f2, fun b H3 as3 cs3 g3 c3 ⟨eb, ec⟩ => ?_⟩
            subst eb ec
            rw [if_pos rfl]
            exact ⟨_, cs3, _, step k _ _ acc cs3 hx hy ik, as3, hs', f2.grow g3 c3, fun y H4 as4 d4 cs4 g4 c4 r4 p4 => k1 y H4 as4 d4 cs4 (g3.trans g4) c4 r4 p4⟩
          · intro p H1' as' ds vs cs' g c n r hp
            exact q p H1' as' ds vs cs' (g1.trans g) c n r (done ds cs' hp)
theorem wn_lzT (i j : Nat) (hij : i ≠ j) (hc : X.calm = true) (hN : X.N.Nodup) (hm : X.mg "zip" = none) (ok : BlkOk X.N X.env.scope scope [(x, i), (y, j)]) (hg : PgP X scope x y px py tp kt i j) (h : WA X [a, b] ρ cs fun ds cs1 => LcZT X elt i j scope ρ cs1 ds PN)
    (hgl : Gl X "zip" := by rfl) (hse : starEach [a, b] X.env = (false, eval a X.env) :: starEach [b] X.env := by rfl) (hpl : (backTo kpos (starEach [b] X.env)).any (fun x => x.1) = false := by rfl) (hs : ∀ x, foldedSetIterable (.Call (.Name "zip" cpos) [a, b] [] kpos) X.env x = pure x := by intro _; rfl) : WN X (.ListComp elt [⟨.Tuple [.Name x px, .Name y py] kt tp, .Call (.Name "zip" cpos) [a, b] [] kpos, [], 0⟩] scope pos) ρ cs PN :=
  wn_of (pe_lc hc hN (RZ.pi_zipA hgl hm h (hse) (hpl)) ok hg (fun s H C cl fp => pts_no) pe_elt hs) fun as hs σ H Q f q => lczt_reads hij f q
end
end Rg
set_option Elab.async false
set_option linter.all false
set_option maxRecDepth 100000
/-! the error Impossible: what the head tells of its class -/
namespace Rg
open PySem PySem.Spec
open PyProof.Rows L2
def oexB (K : PySem.W.Frag) (C : Addr) : Bool :=
  (match List.lookup C K with
    | some ⟨.type "type", _, .cls ⟨_, _, .ref D :: bm, _, _, true, _, _, _, _, false⟩, ⟨[_, _, _, _, some (.builtin i), _]⟩⟩ => D == C && (i == "ValueError.__new__" && HandSPX.refsVE bm)
    | _ => false) && (decide (PySem.W.findIn K (.ref C) "__setattr__" = some (some (.builtin "object.__setattr__"))) && (decide (PySem.W.subIn K (.ref C) (.type "BaseException") = some true) && (decide (PySem.W.typeIn K (.ref C) = some (.type "type")) && PySem.W.keepIn K (.ref C))))
theorem oexB_ok {K : PySem.W.Frag} {C : Addr} (h : oexB K C = true) : OexC K C := by
  unfold oexB at h
  rw [Bool.and_eq_true, Bool.and_eq_true, Bool.and_eq_true, Bool.and_eq_true] at h
  obtain ⟨h1, h2, h3, h4, h5⟩ := h
  refine ⟨?_, of_decide_eq_true h2, of_decide_eq_true h3, of_decide_eq_true h4, h5⟩
  split at h1
  · rename_i hlk
    rw [Bool.and_eq_true, Bool.and_eq_true] at h1
    obtain ⟨e1, e2, e3⟩ := h1
    have d1 := eq_of_beq e1
    have d2 := eq_of_beq e2
    subst d1 d2
    exact ⟨_, _, _, _, _, _, _, _, _, _, _, _, _, _, _, hlk, e3⟩
  · cases h1
/-- all that is asked of the class, as one truth value -/
def impB (K : PySem.W.Frag) : Bool :=
  oexB K (He.ga K "Impossible") && (xfB K (He.ga K "Impossible") && (decide (PySem.W.findIn K (.ref (He.ga K "Impossible")) "reason" = some none) && (decide (PySem.W.exmOne K (.ref (He.ga K "Impossible")) (.ref (He.ga K "Impossible")) = some true) &&
    (decide (PySem.W.findIn K (.ref (He.ga K "Impossible")) "__init__" = some (some (.ref (He.ma K (He.ga K "Impossible") "__init__")))) && decide (PySem.W.typeIn K (.ref (He.ma K (He.ga K "Impossible") "__init__")) = some (.type "function"))))))
section
variable {P : Program} {w : World} {K : PySem.W.Frag}
variable {mg : Str → Option Value} {base : Heap}
theorem ok_ini {fI : Addr} {fd : FuncData} {pa : Arguments} {sc : Scope} {q1 q2 q3 q4 : Pos} (F : FunD K "__init__" "Impossible.__init__" pa [.Assign [.Attribute (.Name "self" q1) "reason" q2] (.Name "reason" q3) q4] sc [] [] fI fd) (S : FnScope ["self", "reason"] ["self", "reason"] sc)
    (v1 : Vis sc "self") (v2 : Vis sc "reason") (hs : ∀ (s : Shared) (cdv : Value), swapsWith (.Name "reason" q3) (some (.Attribute (.Name "self" q1) "reason" q2)) q4.line (envOfC "Impossible.__init__" sc s.heap.objs.size fI cdv) = pure false) : FnOk P w K mg base CX0 1 fI fd ["self", "reason"] (spIni K) := by
  refine F.ok S (fun vs H Q E ⟨a, C, v, e, _⟩ => by rw [e]; rfl) fun cdv A outer s H vs Q E hr ⟨a, C, v, e, ho, hn, hH, k⟩ => ?_
  subst e
  refine ⟨_, pss_one (ps_ost (pv 0 rfl v1) (pv 1 rfl v2) (hs s cdv)), ?_⟩
  exact ⟨v, rfl, .ref a, rfl, a, C, rfl, ho, hn, .inl ⟨hH, fun dx h1 h2 => k dx h1 h2⟩⟩
theorem impC_of (h : impB K = true) (hg : mg "Impossible" = some (.ref (He.ga K "Impossible"))) {fd : FuncData} (ok : FnOk P w K mg base CX0 1 (He.ma K (He.ga K "Impossible") "__init__") fd ["self", "reason"] (spIni K)) (bd : Binds K fd ["self", "reason"] []) : ImpC P w K mg base (He.ga K "Impossible") := by
  unfold impB at h
  rw [Bool.and_eq_true, Bool.and_eq_true, Bool.and_eq_true, Bool.and_eq_true, Bool.and_eq_true] at h
  obtain ⟨h1, h2, h3, h4, h5, h6⟩ := h
  exact ⟨hg, oexB_ok h1, xfB_ok h2, of_decide_eq_true h3, of_decide_eq_true h4, _, fd, of_decide_eq_true h5, of_decide_eq_true h6, ok, bd⟩
end
end Rg
set_option Elab.async false
set_option linter.all false
set_option maxRecDepth 100000
/-! the truth of a list -/
namespace Rg
open PySem PySem.Spec
open PyProof.Rows L2
section
variable {X : Cx} {ρ : Ro} {cs : Cs} {e : Expr} {PT' : Bool → Cs → Prop}
theorem wt_list (h : W X e ρ cs fun d cs1 => ∃ xs, LstD cs1 d xs ∧ PT' (!xs.isEmpty) cs1) (he : ∀ whole, isTrue e X.env whole = (do let v ← whole; standAt e.pos; holding [v] (truthy v)) := by intro _; rfl) : WT X e ρ cs PT' := by
  refine pt_imp (pt_truth h he) fun σ H Q ⟨as, hs, ft, q⟩ => sub1 ft fun v H1 as1 d cs1 g1 f1 r1 ⟨xs, hl, p1⟩ => ?_
  obtain ⟨a, vs, rfl, hr, rl⟩ := hl.rep f1.cells r1
  refine ⟨!xs.isEmpty, ?_, q _ _ as1 cs1 g1 f1.cells p1⟩
  refine .inl ⟨vs, .inl hr, ?_⟩
  cases rl <;> rfl
variable {elt a b c : Expr} {PN : List D → Cs → Prop} {E : En} {B : Nat} {pos p py spos cpos kpos : Pos} {x y : Str} {scope : Scope}
/-- name = [elt for x in range(a, b) if c] -/
theorem ws_lr2I (cell : Bool) (iy : Nat) (i : Nat) (hc : X.calm = true) (hN : X.N.Nodup) (hm : X.mg "range" = none) (hsw : swapsWith (.ListComp elt [⟨.Name x p, .Call (.Name "range" cpos) [a, b] [] kpos, [c], 0⟩] scope pos) (some (.Name y py)) spos.line X.env = pure true) (ok : BlkOk X.N X.env.scope scope [(x, i)]) (hg : PgB X scope x p i)
    (h : WA X [a, b] ρ cs fun ds cs1 => LcR2 X elt i scope (TIf X scope c) ρ cs1 ds (asN E ρ iy cell)) (hy : X.N[iy]? = some y := by rfl) (hyl : X.env.scope.names.lookup y = some .local := by rfl)
    (hgl : Gl X "range" := by rfl) (hse : starEach [a, b] X.env = [(false, eval a X.env), (false, eval b X.env)] := by rfl) (hse2 : starEach [b] X.env = [(false, eval b X.env)] := by rfl)
    (hs : ∀ x, foldedSetIterable (.Call (.Name "range" cpos) [a, b] [] kpos) X.env x = pure x := by intro _; rfl) : WS X B (.Assign [.Name y py] (.ListComp elt [⟨.Name x p, .Call (.Name "range" cpos) [a, b] [] kpos, [c], 0⟩] scope pos) spos) E ρ cs :=
  ws_of (ps_setLc hc hN hy hyl hsw (pi_range2 hgl hm h hse hse2) ok hg pts_if pe_elt hs) fun as hs σ H DD hB f q => setN hB f q cell fun Q k => lcr2_reads f k
end
end Rg
set_option Elab.async false
set_option linter.all false
set_option maxRecDepth 100000
/-! o[i], p[j] = a, b -/
namespace Rg
open PySem PySem.Spec
open PyProof.Rows L2
theorem Fit.put {as hs ρ cs σ H} (f : Fit as hs ρ cs σ H) {k m : Nat} {a : Addr} {xs : List D} {us : List V} {d : D} {v : V} (ea : as[k]? = some a) (ru : RepL as hs H xs us) (rd : Rep as hs H d v) : Fit as hs ρ (cs.set k (xs.set m d)) σ (upd H a (.lst (us.set m v))) :=
  ⟨f.cells.put ea (ru.set rd m), f.slen, fun i d' e => by
    obtain ⟨v', h', r'⟩ := f.slot i d' e
    exact ⟨v', h', r'.mut fun b nb _ => upd_ne fun z => nb (by rw [z]; exact List.mem_of_getElem? ea)⟩⟩
theorem Rep.stay {as hs H} {k : Nat} {a : Addr} {o : HO} (ea : as[k]? = some a) {d : D} {v : V} (r : Rep as hs H d v) : Rep as hs (upd H a o) d v := r.mut fun b nb _ => upd_ne fun z => nb (by rw [z]; exact List.mem_of_getElem? ea)
section
variable {X : Cx} {ρ : Ro} {cs : Cs} {a b o1 x1 o2 x2 : Expr} {E : En} {B : Nat} {pos q1 q2 pt pt2 : Pos} {kt k2 : Nat}
theorem ws_put2 (hc : X.calm = true) (h : WA X [a, b] ρ cs fun ds cs1 => ∃ d1 d2, ds = [d1, d2] ∧ W X o1 ρ cs1 fun e1 cs2 => ∃ k, e1 = .own k ∧ W X x1 ρ cs2 fun g1 cs3 => ∃ j xs m, g1 = .int j ∧ cs3[k]? = some xs ∧ ixN xs.length j = some m ∧
      W X o2 ρ (cs3.set k (xs.set m d1)) fun e2 cs4 => ∃ l, e2 = .own l ∧ W X x2 ρ cs4 fun g2 cs5 => ∃ i ys p, g2 = .int i ∧ cs5[l]? = some ys ∧ ixN ys.length i = some p ∧ E.nx ρ (cs5.set l (ys.set p d2)))
    (hs : swapsWithSole [.Tuple [.Subscript o1 x1 q1, .Subscript o2 x2 q2] kt pt] (.Tuple [a, b] k2 pt2) pos.line X.env = pure false := by rfl) (hw : swappedStores [.Tuple [.Subscript o1 x1 q1, .Subscript o2 x2 q2] kt pt] (.Tuple [a, b] k2 pt2) X.env = pure none := by rfl)
    (h1 : (assignEach [.Tuple [.Subscript o1 x1 q1, .Subscript o2 x2 q2] kt pt] X.env).map (·.2) = [assign (.Tuple [.Subscript o1 x1 q1, .Subscript o2 x2 q2] kt pt) X.env] := by rfl)
    (hn : (assignEach [.Subscript o1 x1 q1, .Subscript o2 x2 q2] X.env).length = 2 := by rfl) (hst : (assignEach [.Subscript o1 x1 q1, .Subscript o2 x2 q2] X.env).findIdx? (·.1) = none := by rfl)
    (s1 : (assignEach [.Subscript o1 x1 q1, .Subscript o2 x2 q2] X.env).map (·.2) = assign (.Subscript o1 x1 q1) X.env :: (assignEach [.Subscript o2 x2 q2] X.env).map (·.2) := by rfl)
    (s2 : (assignEach [.Subscript o2 x2 q2] X.env).map (·.2) = assign (.Subscript o2 x2 q2) X.env :: (assignEach [] X.env).map (·.2) := by rfl)
    (ha1 : ∀ v, assign (.Subscript o1 x1 q1) X.env v = (do
      let ov ← holding [v] (eval o1 (X.env))
      let iv ← holding [v, ov] (eval x1 X.env)
      standAt q1
      holding [v, ov, iv] (setItem ov iv (v))
      release [v, ov, iv] []) := by intro _; rfl)
    (ha2 : ∀ v, assign (.Subscript o2 x2 q2) X.env v = (do
      let ov ← holding [v] (eval o2 (X.env))
      let iv ← holding [v, ov] (eval x2 X.env)
      standAt q2
      holding [v, ov, iv] (setItem ov iv (v))
      release [v, ov, iv] []) := by intro _; rfl) :
    WS X B (.Assign [.Tuple [.Subscript o1 x1 q1, .Subscript o2 x2 q2] kt pt] (.Tuple [a, b] k2 pt2) pos) E ρ cs := by
  refine ws_of (ps_asg (pe_tup h) (pg_tup hc (pgs_cons (pg_sub (pe_any (S := W X o1) fun _ _ _ z => z) (pe_any (S := W X x1) fun _ _ _ z => z) set_list ha1) (pgs_cons (pg_sub (pe_any (S := W X o2) fun _ _ _ z => z) (pe_any (S := W X x2) fun _ _ _ z => z) set_list ha2) pgs_nil s2) s1) hn hst) hs hw h1) fun as hs σ H DD hB f q => ?_
  refine subA f fun vs H1 as1 ds cs1 g1 f1 r1 ⟨d1, d2, e, p1⟩ => ?_
  subst e
  cases r1 with
  | @cons _ _ v1 _ r1 t =>
    cases t with
    | @cons _ _ v2 _ r2 t =>
      cases t
      refine ⟨sz_of (by show 2 ≤ 100000; decide), fun p n => ⟨p, _, rfl, .inl (.inl upd_same), rfl, _, _, rfl, ?_⟩⟩
      have gl : Grow as1 as1 H1 (upd H1 p (.tup [v1, v2])) := Grow.laid n
      have fl := f1.grow gl (f1.cells.laid n)
      refine ⟨ρ, cs1, _, p1, sub1 fl fun y1 H2 as2 e1 cs2 g2 f2 t1 ⟨k, ek, p2⟩ => ⟨ρ, cs2, _, p2, sub1 f2 fun y2 H3 as3 e2 cs3 g3 f3 t2 ⟨j, xs, m, ej, hx, hm, p3⟩ => ?_⟩⟩
      subst ek ej
      cases t2
      cases t1 with
      | @own ad _ ea =>
        have ea3 : as3[k]? = some ad := by
          obtain ⟨mr, e⟩ := g3.ext
          rw [e, List.getElem?_append_left (List.getElem?_eq_some_iff.mp ea).1]; exact ea
        obtain ⟨us, hu, ru⟩ := cell_of f3.cells ea3 hx
        have ga := (gl.trans g2).trans g3
        have w1 := r1.grow ga
        have w2 := r2.grow ga
        refine ⟨ad, us, j, m, rfl, rfl, hu, by rw [← ru.length]; exact hm, ?_⟩
        have gp : Grow as3 as3 H3 (upd H3 ad (.lst (us.set m v1))) := Grow.put ea3
        have fp := f3.put (m := m) ea3 ru w1
        have w2p := w2.stay (o := .lst (us.set m v1)) ea3
        refine ⟨v2, _, rfl, ρ, _, _, p3, sub1 fp fun y3 H4 as4 e3 cs4 g4 f4 t3 ⟨l, el, p4⟩ => ⟨ρ, cs4, _, p4, sub1 f4 fun y4 H5 as5 e4 cs5 g5 f5 t4 ⟨i, ys, pp, ei, hy, hpp, p5⟩ => ?_⟩⟩
        subst el ei
        cases t4
        cases t3 with
        | @own bd _ eb =>
          have eb5 : as5[l]? = some bd := by
            obtain ⟨mr, e⟩ := g5.ext
            rw [e, List.getElem?_append_left (List.getElem?_eq_some_iff.mp eb).1]; exact eb
          obtain ⟨ws, hw5, rw5⟩ := cell_of f5.cells eb5 hy
          have w25 := (w2p.grow g4).grow g5
          refine ⟨bd, ws, i, pp, rfl, rfl, hw5, by rw [← rw5.length]; exact hpp, rfl, ?_⟩
          have gq : Grow as5 as5 H5 (upd H5 bd (.lst (ws.set pp v2))) := Grow.put eb5
          exact q.nx _ _ as5 ρ _ ((((((g1.trans ga).trans gp).trans g4).trans g5).trans gq).B B) (f5.put (m := pp) eb5 rw5 w25) p5
end
/-! x in a tuple of ints -/
def gInT (neg : Bool) : GD2 := fun d1 d2 cs P => ∃ (i : Int) (ns : List Int), d1 = .int i ∧ d2 = .tup (ns.map .int) ∧ P (.bl (if neg then !decide (i ∈ ns) else decide (i ∈ ns))) cs
theorem od_inT {K : PySem.W.Frag} {neg : Bool} : OpD (rIn K neg) (gInT neg) := by
  rintro as hs H x y d1 d2 cs P Q c r1 r2 ⟨i, ns, rfl, rfl, p⟩ q
  cases r1
  cases r2 with
  | tup na nh hT rT =>
    have e := repL_ints' rT
    subst e
    refine ⟨_, ns.map V.int, rfl, .inr (.inl (.inl hT)), rfl, flatV_ints ns, ?_⟩
    rw [inV_ints]
    exact q _ _ _ _ _ (Grow.refl as H) c .bl p
section
variable {X : Cx} {ρ : Ro} {cs : Cs} {a b : Expr} {PT' : Bool → Cs → Prop} {pos : Pos}
theorem wt_inT (hm : behindInMarks .In b = false) (h : W X a ρ cs fun d1 cs1 => W X b ρ cs1 fun d2 cs2 => ∃ (i : Int) (ns : List Int), d1 = .int i ∧ d2 = .tup (ns.map .int) ∧ PT' (decide (i ∈ ns)) cs2) : WT X (.Compare a [.In] [b] pos) ρ cs PT' :=
  wt_cmp op_in_seq (g := gInT false) od_inT hm (h.mono fun _ _ z => W.mono z fun _ _ ⟨k, n, e, l, p⟩ => ⟨k, n, e, l, _, rfl, p⟩)
theorem wt_ninT (hm : behindInMarks .NotIn b = false) (h : W X a ρ cs fun d1 cs1 => W X b ρ cs1 fun d2 cs2 => ∃ (i : Int) (ns : List Int), d1 = .int i ∧ d2 = .tup (ns.map .int) ∧ PT' (!decide (i ∈ ns)) cs2) : WT X (.Compare a [.NotIn] [b] pos) ρ cs PT' :=
  wt_cmp op_notIn_seq (g := gInT true) od_inT hm (h.mono fun _ _ z => W.mono z fun _ _ ⟨k, n, e, l, p⟩ => ⟨k, n, e, l, _, rfl, p⟩)
end
end Rg
set_option Elab.async false
set_option linter.all false
set_option maxRecDepth 100000
/-! repr(None) -/
namespace Rg
open PySem PySem.Spec
open PyProof.Rows L2
section
variable {X : Cx} {ρ : Ro} {cs : Cs} {e : Expr} {P : PD} {pos p : Pos}
def rReprN : List V → Hp → VK → Prop := fun xs H Q => xs = [V.non] ∧ Q (.str PyData.none.shown) H
theorem call_reprN (hg : X.A.guards = some []) (hu : X.A.units + 64 < cLine) : CallR X (.builtin "repr") rReprN := by
  intro pins s σ H xs us Q I0 r h
  obtain ⟨ex, q⟩ := h
  subst ex
  have eu : us = [Value.none] := by
    cases r with
    | cons r t => cases t; cases r; rfl
  subst eu
  refine PySem.P.repr_of_none ?_
  exact ⟨.str PyData.none.shown, H, I0.tok _, ⟨_, rfl⟩, q⟩
/-- repr(None) -/
theorem w_reprN (hg : X.A.guards = some []) (hu : X.A.units + 64 < cLine) (hm : X.mg "repr" = none) (h : WA X [e] ρ cs fun ds cs1 => ds = [.non] ∧ P (.str PyData.none.shown) cs1)
    (hgl : Gl X "repr" := by rfl) (he : starEach [e] X.env = (false, eval e X.env) :: starEach [] X.env := by rfl) : W X (.Call (.Name "repr" p) [e] [] pos) ρ cs P := by
  refine w_bi (g := fun ds cs1 P => ds = [.non] ∧ P (.str PyData.none.shown) cs1) (call_reprN hg hu) ?_ hm (by decide +kernel) h hgl (he := he)
  rintro as hs H vs ds cs P Q c r ⟨rfl, hq⟩ q
  cases r with
  | cons r t =>
    cases t
    cases r
    exact ⟨rfl, q _ _ _ _ _ (Grow.refl as H) c .str hq⟩
end
end Rg
set_option Elab.async false
set_option linter.all false
set_option maxRecDepth 100000
/-! dicts with tuples as keys: dict(pairs), d.get(key), sorted(d); tuple(list), list(tuple) -/
namespace Rg
open PySem PySem.Spec
open PyProof.Rows L2
abbrev ikey (ns : List Int) : List Key := ns.map Sum.inl
theorem ikey_kV (ns : List Int) : (ikey ns).map kV = ns.map V.int := by
  unfold ikey
  rw [List.map_map]
  exact List.map_congr_left fun _ _ => rfl
theorem ikey_inj : ∀ {ns ms : List Int}, ikey ns = ikey ms → ns = ms
  | [], [], _ => rfl
  | [], _ :: _, h => by simp [ikey] at h
  | _ :: _, [], h => by simp [ikey] at h
  | a :: ns, b :: ms, h => by
    have h1 := List.cons.inj (show Sum.inl a :: ikey ns = Sum.inl b :: ikey ms from h)
    rw [Sum.inl.inj h1.1, ikey_inj h1.2]
theorem storedH_all {κ : Type} [DecidableEq κ] : ∀ (ps acc : List (κ × Addr × Value)), ((acc ++ ps).map (·.1)).Nodup → storedAllH acc ps = acc ++ ps
  | [], acc, _ => by simp [storedAllH]
  | p :: ps, acc, nd => by
    have no : atKey acc p.1 = none := by
      unfold atKey
      rw [Option.map_eq_none_iff, List.find?_eq_none]
      intro x hx z
      rw [decide_eq_true_eq] at z
      rw [List.map_append, List.nodup_append] at nd
      exact nd.2.2 x.1 (List.mem_map.mpr ⟨x, hx, rfl⟩) p.1 (by simp) z
    have e1 : storedH acc p.1 p.2.1 p.2.2 = acc ++ [p] := storedH_new no _ _
    have ih := storedH_all ps (acc ++ [p]) (by rw [List.append_assoc]; exact nd)
    show storedAllH (storedH acc p.1 p.2.1 p.2.2) ps = _
    rw [e1, ih, List.append_assoc]; rfl
/-- a pair of a key tuple and a value: the pair, the key's items, the key, the value -/
structure KPair where
  pr : Addr
  ns : List Int
  b : Addr
  v : V
theorem kpairs_of {X : Cx} {pins : List (Addr × Obj)} {σ : L2.St} {H : Hp} {s : Shared} (I : Inv X pins σ H s) : ∀ {L : List KPair}, (∀ q ∈ L, H q.pr = some (.tup [.ref q.b, q.v]) ∧ H q.b = some (.tup (q.ns.map V.int))) →
    ∃ ps : List (List Key × Addr × Value), Paired (fun (q : KPair) p => p.1 = ikey q.ns ∧ p.2.1 = q.b ∧ RelV q.v p.2.2 ∧ IsTup s.heap q.pr #[.ref q.b, p.2.2]) L ps
  | [], _ => ⟨[], .nil⟩
  | q :: L, h => by
    obtain ⟨ps, hp⟩ := kpairs_of I (L := L) fun x hx => h x (List.mem_cons_of_mem _ hx)
    have h1 := (h q List.mem_cons_self).1
    obtain ⟨_, its, rv, it⟩ := (show ObjOk X.prog X.w H s.heap q.pr (.tup [.ref q.b, q.v]) from I.hok _ _ h1)
    obtain ⟨u, y, rfl, ru, ry⟩ := vals2 rv
    obtain rfl : u = Value.ref q.b := ru
    exact ⟨(ikey q.ns, q.b, y) :: ps, .cons ⟨rfl, rfl, ry, it⟩ hp⟩

theorem paired_at {α β : Type} {R : α → β → Prop} : ∀ {l : List α} {m : List β}, Paired R l m → ∀ {j : Nat} {q : β}, m[j]? = some q → ∃ p, l[j]? = some p ∧ R p q
  | _, _, .nil, j, q, e => by simp at e
  | _, _, .cons h t, 0, q, e => ⟨_, rfl, by rw [← Option.some.inj e]; exact h⟩
  | _, _, .cons h t, j + 1, q, e => by
    obtain ⟨p, e1, e2⟩ := paired_at t (j := j) (by simpa using e)
    exact ⟨p, by simpa using e1, e2⟩
theorem paired_len {α β : Type} {R : α → β → Prop} : ∀ {l : List α} {m : List β}, Paired R l m → l.length = m.length
  | _, _, .nil => rfl
  | _, _, .cons h t => by rw [List.length_cons, List.length_cons, paired_len t]
theorem kpairs_kt {H' : Hp} {Rl : KPair → List Key × Addr × Value → Prop} (hR : ∀ q p, Rl q p → p.1 = ikey q.ns ∧ p.2.1 = q.b ∧ RelV q.v p.2.2) : ∀ {L : List KPair} {ps : List (List Key × Addr × Value)}, Paired Rl L ps → (∀ q ∈ L, H' q.b = some (.tup (q.ns.map V.int))) →
    Paired (fun (p : List Key × V) (q : List Key × Addr × Value) => p.1 = q.1 ∧ H' q.2.1 = some (.tup (p.1.map kV)) ∧ RelV p.2 q.2.2) ((L.map fun q => ikey q.ns).zip (L.map (·.v))) ps
  | _, _, .nil, _ => .nil
  | q :: L, p :: ps, .cons h t, hm => by
    obtain ⟨e1, e2, e3⟩ := hR _ _ h
    refine .cons ⟨e1.symm, ?_, e3⟩ (kpairs_kt hR t fun x hx => hm x (List.mem_cons_of_mem _ hx))
    show H' p.2.1 = some (.tup ((ikey q.ns).map kV))
    rw [e2, ikey_kV]
    exact hm q List.mem_cons_self
theorem key_kept {X : Cx} {pins : List (Addr × Obj)} {σ : L2.St} {H : Hp} {s : Shared} (I : Inv X pins σ H s) {b : Addr} {ns : List Int} (e : H b = some (.tup (ns.map V.int))) {h' : Heap} (k : ∀ o, s.heap.get? b = some o → h'.get? b = some o) : (tupleKind (mixKind X.prog X.w)).is h' (ikey ns) b := by
  obtain ⟨o, vs, n, h1, h2, h3, h4⟩ := key_of (ks := ikey ns) I.hok (by rw [ikey_kV]; exact e)
  exact ⟨o, vs, n, k _ h1, h2, h3, h4⟩
section
variable {X : Cx}
/-- dict of a list of pairs whose keys are tuples of ints, no two equal -/
theorem cr_dictL (hc : X.calm = true) (hu : X.A.units + 64 < cLine) : CallR X (.type "dict") fun xs H Q => ∃ (a : Addr) (L : List KPair), xs = [.ref a] ∧ SqL X.K H a (L.map fun q => V.ref q.pr) ∧ L.length ≤ 100000 ∧ (∀ q ∈ L, H q.pr = some (.tup [.ref q.b, q.v]) ∧ H q.b = some (.tup (q.ns.map V.int))) ∧ (L.map (·.ns)).Nodup ∧
    ∀ p o, H p = none → Q (.ref p) (upd H p (.frz o (.dT ((L.map fun q => ikey q.ns).zip (L.map (·.v)))))) := by
  intro pins s σ H vs us Q I r h0
  obtain ⟨a, L, rfl, hs, hlen, hx, nd, q⟩ := h0
  obtain ⟨u, rfl, ru⟩ := (vals1 r)
  obtain rfl : u = Value.ref a := (ru)
  obtain ⟨its, rv, pl, hz⟩ := (I.list hs)
  have ei : its = (L.map (·.pr)).map Value.ref := refs_at (by rw [List.map_map]; exact rv)
  subst ei
  obtain ⟨ps, pp⟩ := kpairs_of I hx
  have hlp : L.length = ps.length := paired_len pp
  have hkeys : ps.map (·.1) = L.map fun q => ikey q.ns := by
    apply List.ext_getElem?
    intro j
    rw [(List.getElem?_map), List.getElem?_map]
    cases e : ps[j]? with
    | none => rw [List.getElem?_eq_none (by rw [hlp]; exact List.getElem?_eq_none_iff.mp e)]; rfl
    | some p =>
      obtain ⟨y, e1, e2, _⟩ := paired_at pp e
      rw [e1]
      exact congrArg some e2
  have ndp : (ps.map (·.1)).Nodup := by
    rw [hkeys, show (L.map fun q => ikey q.ns) = (L.map (·.ns)).map ikey by rw [List.map_map]; rfl]
    exact List.Pairwise.map _ (fun a b h z => h (ikey_inj z)) nd
  have hst : storedAllH [] ps = ps := by
    have := storedH_all ps [] (by simpa using ndp)
    simpa using this
  have Pa := PairArg.list (prog := X.prog) (w := X.w) a ((L.map (·.pr)).map Value.ref).toArray (fun j => (L[j]?.map (·.pr)).getD 0) (ps.map fun p => (Value.ref p.2.1, p.2.2))
  rw [List.length_map] at Pa
  have hsz : ps.length ≤ sizeLine := by rw [← hlp]; exact Nat.le_trans hlen (by decide)
  refine PySem.call_dict_pairsH (knd := tupleKind (mixKind X.prog X.w)) (ps := ps) Pa (I.ok.hd hc) (show X.A.in1.units + 1 < cLine from by show X.A.units + 1 + 1 < cLine; omega) ⟨pl, ?_, fun j k v e => ?_⟩ ⟨rfl, fun i key v e => ?_⟩ (fun h' hk x hx2 => ?_) hsz fun h' tk hd' hk => ?_
  · rw [List.size_toArray, List.length_map, List.length_map, List.length_map, hlp]
  · rw [List.getElem?_map] at e
    cases e2 : ps[j]? with
    | none => rw [e2] at e; cases e
    | some p =>
      rw [e2] at e
      cases e
      obtain ⟨y, e3, e4, e5, e6, e7⟩ := paired_at pp e2
      have ej : ((fun j : Nat => (L[j]?.map (·.pr)).getD 0) j) = y.pr := by
        show (L[j]?.map (·.pr)).getD 0 = y.pr
        rw [e3]; rfl
      refine ⟨?_, .inl ?_⟩
      · refine Eq.trans ?_ (congrArg (fun z => some (Value.ref z)) ej.symm)
        rw [List.getElem?_toArray, List.getElem?_map, List.getElem?_map, e3]; rfl
      · rw [ej, e5]
        exact e7
  · rw [PairRel, List.getElem?_map] at e
    cases e2 : ps[i]? with
    | none => rw [e2] at e; cases e
    | some p =>
      rw [e2] at e
      cases e
      exact ⟨p.1, p.2.1, rfl, rfl⟩
  · obtain ⟨j, e⟩ := List.getElem?_of_mem hx2
    obtain ⟨y, e3, e4, e5, e6, e7⟩ := paired_at pp e
    rw [e4, e5]
    have hb := (hx y (List.mem_of_getElem? e3)).2
    exact key_kept I hb fun o ho => hk _ _ (Nat.ne_of_lt (Heap.lt_size ho)) (by simp) ho
  · rw [hst] at hd'
    obtain ⟨o, es, ep, g1, g2, g3, g4, _, g5⟩ := hd'
    have hm : (s.heap.objs.size == sysModules) = false := (beq_eq_false_iff_ne.mpr (Nat.ne_of_gt I.big))
    have hp0 : H s.heap.objs.size = none := I.hok.fresh (Nat.le_refl _)
    refine ⟨.ref s.heap.objs.size, upd H s.heap.objs.size (.frz o (.dT ((L.map fun q => ikey q.ns).zip (L.map (·.v))))), I.laid (t' := tk) (fun b o e => hk b o (by simp) e) (Nat.le_refl _) ⟨g1, ?_, hm, ps, kpairs_kt (fun q p z => ⟨z.1, z.2.1, z.2.2.1⟩) pp fun y hy => ?_, o, es, ep, g1, g2, g3, g4, g5⟩, rfl, q _ _ hp0⟩
    · rw [List.length_zip, List.length_map, List.length_map, Nat.min_self]
      exact Nat.le_trans hlen (by decide)
    · first
        | exact (hx y hy).2
        | (rw [upd_ne (ne_of_none (hx y hy).2 hp0)]; exact (hx y hy).2)
/-- where the key tuples stand -/
theorem keys_list {H : Hp} {w : List Key × V → List Key × Addr × Value → Prop} (hw : ∀ p q, w p q → p.1 = q.1 ∧ H q.2.1 = some (.tup (p.1.map kV))) : ∀ {rows : List (List Int)} {us : List V} {ks : List (List Key × Addr × Value)}, rows.length = us.length → Paired w ((rows.map ikey).zip us) ks →
    ∃ B : List (Addr × List Int), B.map (·.2) = rows ∧ (ks.map fun x => x.2.1) = B.map (·.1) ∧ ∀ y ∈ B, H y.1 = some (.tup (y.2.map V.int))
  | [], _, ks, _, p => by
    rw [List.map_nil, List.zip_nil_left] at p
    cases p
    exact ⟨[], rfl, rfl, nofun⟩
  | r :: rows, [], _, h, _ => by simp at h
  | r :: rows, u :: us, ks, h, p => by
    rw [List.map_cons, List.zip_cons_cons] at p
    cases p with
    | @cons _ x _ l2 h1 t =>
      obtain ⟨B, b1, b2, b3⟩ := keys_list hw (by simpa using h) t
      obtain ⟨e1, e2⟩ := hw _ _ h1
      refine ⟨(x.2.1, r) :: B, by rw [List.map_cons, b1], by rw [List.map_cons, List.map_cons, b2], fun y hy => ?_⟩
      rcases List.mem_cons.mp hy with z | z
      · subst z
        have := e2
        rw [show ((ikey r, u).1).map kV = r.map V.int from ikey_kV r] at this
        exact this
      · exact b3 y z
theorem each_refs : ∀ (B : List (Addr × List Int)), PySem.W.EachIs (fun v (b : Addr × List Int) => v = Value.ref b.1) ((B.map (·.1)).map Value.ref) B
  | [] => .nil
  | b :: B => .cons rfl (each_refs B)
theorem refs_each : ∀ {out : List Value} {B : List (Addr × List Int)}, PySem.W.EachIs (fun v (b : Addr × List Int) => v = Value.ref b.1) out B → Vals (B.map fun y => V.ref y.1) out
  | _, _, .nil => .nil
  | _, _, .cons h t => by
    rw [h]
    exact .cons rfl (refs_each t)
theorem depth_tup (ns : List Int) : (PyData.tuple (ns.map PyData.int)).depth ≤ 2 := by
  have := depth_ints ns
  simp only [PyData.depth]
  omega
/-- sorted of a dict with tuples of ints as keys: its keys, in some order -/
theorem cr_sortedTD (hc : X.calm = true) (hu : X.A.units + 64 < cLine) : CallR X (.builtin "sorted") fun vs H Q => ∃ (a : Addr) (rows : List (List Int)) (us : List V), vs = [V.ref a] ∧ Rd H a (.dT ((rows.map ikey).zip us)) ∧ rows.length = us.length ∧ rows.length ≤ 100000 ∧ (∀ r ∈ rows, r ≠ []) ∧
    ∀ (ys : List (Addr × List Int)) p, (ys.map (·.2)).Perm rows → (∀ y ∈ ys, H y.1 = some (.tup (y.2.map V.int))) → H p = none → Q (.ref p) (upd H p (.lst (ys.map fun y => V.ref y.1))) := by
  intro pins s σ H vs us0 Q I r h0
  obtain ⟨a, rows, us, rfl, hd, hl, hlen, hne, q⟩ := h0
  obtain ⟨u, rfl, ru⟩ := (vals1 r)
  obtain rfl : u = Value.ref a := (ru)
  obtain ⟨z, hs, ks, pr, o, es, ep, ho, hx, hdt, he, hn⟩ := (show ObjOk X.prog X.w H s.heap a (.dT ((rows.map ikey).zip us)) from hd.ok I.hok)
  obtain ⟨B, b1, b2, b3⟩ := keys_list (fun p q z => ⟨z.1, z.2.1⟩) hl pr
  have lB : B.length = rows.length := by rw [← b1, List.length_map]
  have l1 : es.size = ks.length := by
    have := congrArg List.length he
    rw [List.length_map] at this
    simpa using this
  have l2 : ks.length = B.length := by
    have := congrArg List.length b2
    rwa [List.length_map, List.length_map] at this
  have hbig : es.size ≤ sizeLine := by rw [l1, l2, lB]; exact Nat.le_trans hlen (by decide)
  refine (Calls.call_function_entry PyProof.Rows.kind_sorted PyProof.Rows.plain_sorted PyProof.Rows.entry_sorted (PyProof.Rows.args_sorted1 _) ?_)
  unfold Builtin.«sorted»
  refine (wpAny_bind (m := checkCount "sorted" 1 1 _) (wpAny_pure ?_))
  refine wpAny_bind (PySem.W.kdu_collect (A := X.A.in1) (kdl_raw hs hx hdt) (I.ok.hd hc) ho hbig fun h' tk acc hk it => ?_)
  have ea : acc.toList = (B.map (·.1)).map Value.ref := by
    rw [← b2, List.map_map]
    apply List.ext_getElem?
    intro j
    rw [List.getElem?_map]
    have hl1 : acc.toList.length = ks.length := by rw [Array.length_toList, it.1, l1]
    cases hj : acc.toList[j]? with
    | none => rw [List.getElem?_eq_none (by rw [← hl1]; exact List.getElem?_eq_none_iff.mp hj)]; rfl
    | some v =>
      obtain ⟨en, hen, hv⟩ := (it.2 j v (by rw [← Array.getElem?_toList]; exact hj))
      have qe : es.toList[j]? = some en := by rw [Array.getElem?_toList]; exact hen
      rw [he, List.getElem?_map] at qe
      cases hb : ks[j]? with
      | none => rw [hb] at qe; cases qe
      | some b =>
        rw [hb] at qe
        have e2 := Option.some.inj qe
        rw [hv, ← e2]
        rfl
  have I1 : Inv X pins σ H { s with heap := h', toks := tk } := (I.kept hk)
  have hal : acc.toList.length = B.length := by rw [ea, List.length_map, List.length_map]
  refine wpAny_bind (wpAny_newList ?_ (by rw [hal, lB]; exact Nat.le_trans hlen (by decide)))
  have hoL : (h'.push (seqObj "list" acc.toList.toArray 0)).get? h'.objs.size = some (seqObj "list" acc.toList.toArray 0) := (Heap.get?_push_size _ rfl)
  show (wpAny _ _ _ _ _ { s with heap := h'.push (seqObj "list" acc.toList.toArray 0), toks := tk })
  have eR : PySem.W.EachIs (fun v (b : Addr × List Int) => v = Value.ref b.1) acc.toList B := by rw [ea]; exact each_refs B
  have er : PySem.W.EachIs (fun v (b : Addr × List Int) => ∃ as, Reads (h'.push (seqObj "list" acc.toList.toArray 0)) v (.tuple (b.2.map PyData.int)) as ∧ h'.objs.size ∉ as) acc.toList B := by
    refine (PySem.W.each_mem eR).mono fun v b ⟨hv, hb⟩ => ?_
    obtain ⟨_, its, rv, ob, h1, h2, n, h3⟩ := (show ObjOk X.prog X.w H h' b.1 (.tup (b.2.map V.int)) from I1.hok _ _ (b3 b hb))
    rw [hv]
    exact ⟨_, Reads.tuple (Heap.get?_push_of_some _ h1) h2 h3 (by simpa using reads_ints (Vals.ints rv)), by simp⟩
  refine wpAny_bind (wpAny_holding (PySem.W.list_sort_data (enc := fun b : Addr × List Int => .tuple (b.2.map PyData.int)) hoL eR er (PySem.W.AllAlike.of fun b b' => ?_) (.inl fun d hd2 => ?_) (by rw [lB]; exact Nat.le_trans hlen (by decide)) (fun b _ => ?_) fun out hol hout => ?_))
  · simp only [PySem.W.alike]
    exact PySem.W.alike_ints _ _
  · obtain ⟨b, hb, rfl⟩ := List.mem_map.mp hd2
    have := hne b.2 (by rw [← b1]; exact List.mem_map.mpr ⟨b, hb, rfl⟩)
    cases e : b.2 with
    | nil => exact absurd e this
    | cons x t => exact ⟨_, _, rfl⟩
  · have := depth_tup b.2
    show X.A.units + 1 + 1 + (PyData.tuple (b.2.map PyData.int)).depth < cLine
    omega
  · have pm := List.mergeSort_perm B (PySem.W.dataLe false fun b : Addr × List Int => .tuple (b.2.map PyData.int))
    generalize B.mergeSort (PySem.W.dataLe false fun b : Addr × List Int => .tuple (b.2.map PyData.int)) = ys at hout pm
    obtain ⟨e', he'⟩ := PyProof.Rows.sortedHeap_at (vs := acc.toList) (out := out.toArray) hoL
    have hv := refs_each hout
    refine wpAny_pure ⟨_, rfl, .ref h'.objs.size, upd H h'.objs.size (.lst (ys.map fun y => V.ref y.1)), I1.laid (t' := tk) (fun b u e => ?_) (Nat.le_refl _) (show ObjOk X.prog X.w _ _ _ (.lst (ys.map fun y => V.ref y.1)) from ⟨?_, out, e', hv, he'⟩), rfl, q ys _ ?_ (fun y hy => b3 y (pm.mem_iff.mp hy)) (I1.hok.fresh (Nat.le_refl _))⟩
    · have hb : b < h'.objs.size := Heap.lt_size e
      rw [PyProof.Rows.sortedHeap_old (Nat.ne_of_lt hb) (by rw [(size_push')]; exact Nat.lt_succ_of_lt hb)]
      exact (Heap.get?_push_of_some _ e)
    · rw [List.length_map, pm.length_eq, lB]
      exact Nat.le_trans hlen (by decide)
    · rw [← b1]
      exact pm.map _
end

/-- a tuple of ints and a value -/
abbrev tkD (ns : List Int) : D := .tup (ns.map .int)
abbrev prD (q : List Int × D) : D := .tup [tkD q.1, q.2]
theorem pairs_kp {as hs : List Addr} {H : Hp} : ∀ {qs : List (List Int × D)} {us : List V}, RepL as hs H (qs.map prD) us → ∃ L : List KPair, us = L.map (fun q => V.ref q.pr) ∧ L.map (·.ns) = qs.map (·.1) ∧ RepL as hs H (qs.map (·.2)) (L.map (·.v)) ∧ ∀ q ∈ L, H q.pr = some (.tup [.ref q.b, q.v]) ∧ H q.b = some (.tup (q.ns.map V.int))
  | [], _, r => by
    cases r
    exact ⟨[], rfl, rfl, .nil, nofun⟩
  | q :: qs, _, r => by
    cases r with
    | cons r t =>
      obtain ⟨L, e1, e2, e3, e4⟩ := pairs_kp t
      cases r with
      | @tup a _ vs n1 n2 hH l =>
        cases l with
        | cons ra l =>
          cases l with
          | cons rb l =>
            cases l
            cases ra with
            | @tup b _ ws m1 m2 hB lb =>
              have ew := repL_ints' lb
              subst ew
              refine ⟨⟨a, q.1, b, _⟩ :: L, by rw [List.map_cons, e1], by rw [List.map_cons, List.map_cons, e2], .cons rb e3, fun y hy => ?_⟩
              rcases List.mem_cons.mp hy with z | z
              · subst z
                exact ⟨hH, hB⟩
              · exact e4 y z
theorem tups_rep {as hs : List Addr} {cs : Cs} {H : Hp} (c : Cells as hs cs H) : ∀ {ys : List (Addr × List Int)}, (∀ y ∈ ys, H y.1 = some (.tup (y.2.map V.int))) → RepL as hs H ((ys.map (·.2)).map tkD) (ys.map fun y => V.ref y.1)
  | [], _ => .nil
  | y :: ys, h => by
    have hy := h y List.mem_cons_self
    have := c.noTup hy
    exact .cons (.tup this.1 this.2 hy (repL_ints y.2)) (tups_rep c fun z hz => h z (List.mem_cons_of_mem _ hz))
theorem valVT_none {k : List Key} : ∀ {ks : List (List Key)} {vs : List V}, k ∉ ks → valV (ks.zip vs) k = none
  | [], _, _ => by simp [valV]
  | _ :: _, [], _ => by simp [valV]
  | a :: ks, v :: vs, h => by
    rw [List.zip_cons_cons, valV_neg (fun e => h (by rw [← e]; exact List.mem_cons_self))]
    exact valVT_none fun z => h (List.mem_cons_of_mem _ z)
theorem valVT_at {k : List Key} : ∀ {ks : List (List Key)} {vs : List V} {j : Nat} {v : V}, ks.Nodup → ks[j]? = some k → vs[j]? = some v → valV (ks.zip vs) k = some v
  | [], _, _, _, _, hno, _ => by simp at hno
  | a :: ks, [], j, _, _, _, h => by simp at h
  | a :: ks, u :: vs, 0, v, _, h1, h2 => by
    rw [List.zip_cons_cons, valV_pos (by simpa using h1)]
    simpa using h2
  | a :: ks, u :: vs, j + 1, v, nd, h1, h2 => by
    have nd' := List.nodup_cons.mp nd
    have hk : ks[j]? = some k := by simpa using h1
    rw [List.zip_cons_cons, valV_neg (fun e => nd'.1 (by rw [show a = k from e]; exact List.mem_of_getElem? hk))]
    exact valVT_at nd'.2 hk (by simpa using h2)
section
variable {X : Cx} {ρ : Ro} {cs : Cs} {e o : Expr} {P : PD} {PN : List D → Cs → Prop} {p pos apos cpos pos' : Pos}
/-- dict(pairs), the keys tuples of ints -/
theorem w_dictL (hc : X.calm = true) (hu : X.A.units + 64 < cLine) (hm : X.mg "dict" = none) (h : WA X [e] ρ cs fun ds cs1 => ∃ d, ∃ qs : List (List Int × D), ds = [d] ∧ LstD cs1 d (qs.map prD) ∧ qs.length ≤ 100000 ∧ (qs.map (·.1)).Nodup ∧ P (.dcT ((qs.map (·.1)).map ikey) (qs.map (·.2))) cs1) (hg : Gl X "dict" := by rfl)
    (he : starEach [e] X.env = (false, eval e X.env) :: starEach [] X.env := by rfl) : W X (.Call (.Name "dict" p) [e] [] pos) ρ cs P := by
  refine w_bt (g := fun ds cs1 P => ∃ d, ∃ qs : List (List Int × D), ds = [d] ∧ LstD cs1 d (qs.map prD) ∧ qs.length ≤ 100000 ∧ (qs.map (·.1)).Nodup ∧ P (.dcT ((qs.map (·.1)).map ikey) (qs.map (·.2))) cs1) (cr_dictL hc hu) ?_ hm (by decide +kernel) h hg (he := he)
  rintro as hs H vs ds cs P Q c r ⟨d, qs, rfl, hl, hlen, nd, hp⟩ q
  cases r with
  | cons r t =>
    cases t
    obtain ⟨a, us, rfl, hr, rl⟩ := hl.rep c r
    obtain ⟨L, rfl, e2, e3, e4⟩ := pairs_kp rl
    have hL : L.length = qs.length := by
      have := congrArg List.length e2
      rwa [List.length_map, List.length_map] at this
    refine ⟨a, L, rfl, .inl hr, by rw [hL]; exact hlen, e4, by rw [e2]; exact nd, fun p o np => ?_⟩
    have ek : (L.map fun q => ikey q.ns) = (qs.map (·.1)).map ikey := by rw [← e2, List.map_map]; rfl
    rw [ek]
    exact q _ _ as _ cs (Grow.laid np) (c.laid np) (.dcT (c.fresh np).1 (c.fresh np).2 upd_same (by rw [List.length_map, List.length_map, List.length_map]) (e3.grow (Grow.laid np))) hp
/-- d.get(key) -/
theorem w_getT (hu : X.A.units + 1 < cLine) (h : W X o ρ cs fun d cs1 => ∃ (rows : List (List Int)) (xs : List D), d = .dcT (rows.map ikey) xs ∧ W X e ρ cs1 fun k cs2 => ∃ ns r, k = tkD ns ∧ ((ns ∉ rows ∧ r = .non) ∨ ∃ i : Nat, rows[i]? = some ns ∧ rows.Nodup ∧ xs[i]? = some r) ∧ P r cs2) (m : M1 X o "get" apos e cpos := by exact ⟨rfl, rfl, rfl, rfl⟩) :
    W X (.Call (.Attribute o "get" apos) [e] [] cpos) ρ cs P := by
  refine w_of (pe_dget1 hu h (pe_any (S := W X e) fun _ _ _ z => z) m) fun as hs σ H Q f q => sub1 f fun v H1 as1 d cs1 g1 f1 r1 ⟨rows, xs, ed, p1⟩ => ?_
  subst ed
  cases r1 with
  | @dcT a ob _ us _ n1 n2 hd hl rl =>
    refine ⟨a, rfl, .inr ⟨_, .inr ⟨_, hd⟩⟩, ρ, cs1, _, p1, sub1 f1 fun y H2 as2 dk cs2 g2 f2 r2 ⟨ns, r, ek, hr, hp⟩ => ?_⟩
    subst ek
    cases r2 with
    | @tup b _ vs m1 m2 hb lb =>
      have ew := repL_ints' lb
      subst ew
      have hd2 := g2.keep _ _ n1 hd
      refine ⟨_, .inr ⟨_, ikey ns, b, .inr ⟨_, hd2⟩, rfl, by rw [ikey_kV]; exact hb, rfl⟩, q _ _ as2 r cs2 (g1.trans g2) f2.cells ?_ hp⟩
      rcases hr with ⟨hno, rfl⟩ | ⟨i, hi, nd, hx⟩
      · rw [valVT_none fun z => by
          obtain ⟨ms, hm, em⟩ := List.mem_map.mp z
          rw [ikey_inj em] at hm
          exact hno hm]
        exact .non
      · obtain ⟨u, hu2, ru⟩ := rl.get hx
        rw [valVT_at (j := i) (List.Pairwise.map _ (fun a b h z => h (ikey_inj z)) nd) (by rw [List.getElem?_map, hi]; rfl) hu2]
        exact ru.grow g2
/-- sorted(d): the keys, in some order -/
theorem wn_sortedT (hc : X.calm = true) (hu : X.A.units + 64 < cLine) (hm : X.mg "sorted" = none) (h : WA X [e] ρ cs fun ds cs1 => ∃ (rows : List (List Int)) (xs : List D), ds = [.dcT (rows.map ikey) xs] ∧ rows.length ≤ 100000 ∧ (∀ r ∈ rows, r ≠ []) ∧ ∀ rows' : List (List Int), rows'.Perm rows → PN (rows'.map tkD) cs1) (hg : Gl X "sorted" := by rfl)
    (he : starEach [e] X.env = (false, eval e X.env) :: starEach [] X.env := by rfl) : WN X (.Call (.Name "sorted" p) [e] [] pos) ρ cs PN := by
  refine wn_bi (g := fun ds cs1 P => ∃ (rows : List (List Int)) (xs : List D), ds = [.dcT (rows.map ikey) xs] ∧ rows.length ≤ 100000 ∧ (∀ r ∈ rows, r ≠ []) ∧ ∀ rows' : List (List Int), rows'.Perm rows → P (rows'.map tkD) cs1) (cr_sortedTD hc hu) ?_ hm (by decide +kernel) h hg (he := he)
  rintro as hs H vs ds cs P Q c r ⟨rows, xs, rfl, hlen, hne, hp⟩ q
  cases r with
  | cons r t =>
    cases t
    cases r with
    | @dcT a ob _ us _ n1 n2 hd hl rl =>
      have hlu := rl.length
      rw [List.length_map] at hl
      exact ⟨a, rows, us, rfl, .inr ⟨_, hd⟩, by omega, hlen, hne, fun ys p pm hy n => q p H as _ _ cs (Grow.refl as H) c n (tups_rep c hy) (hp _ pm)⟩
/-- list(t), t a tuple -/
theorem wn_listT (hm : X.mg "list" = none) (h : WA X [e] ρ cs fun ds cs1 => ∃ xs, ds = [.tup xs] ∧ PN xs cs1) (hg : Gl X "list" := by rfl) (he : starEach [e] X.env = (false, eval e X.env) :: starEach [] X.env := by rfl) : WN X (.Call (.Name "list" p) [e] [] pos) ρ cs PN := by
  refine wn_bt (g := fun ds cs1 P => ∃ xs, ds = [.tup xs] ∧ P xs cs1) call_list_of ?_ hm (by decide +kernel) h hg (he := he)
  rintro as hs H vs ds cs P Q c r ⟨xs, rfl, hp⟩ q
  cases r with
  | cons r t =>
    cases t
    cases r with
    | tup n1 n2 hH rl => exact ⟨_, _, rfl, .inr (.inl (.inl hH)), fun l n => q l H as xs _ cs (Grow.refl as H) c n rl hp⟩
/-- tuple(xs), xs a list -/
theorem w_tuple (hm : X.mg "tuple" = none) (h : WA X [e] ρ cs fun ds cs1 => ∃ d xs, ds = [d] ∧ LstD cs1 d xs ∧ P (.tup xs) cs1) (hg : Gl X "tuple" := by rfl) (he : starEach [e] X.env = (false, eval e X.env) :: starEach [] X.env := by rfl) : W X (.Call (.Name "tuple" p) [e] [] pos) ρ cs P := by
  refine w_bt (g := fun ds cs1 P => ∃ d xs, ds = [d] ∧ LstD cs1 d xs ∧ P (.tup xs) cs1) call_tuple_of ?_ hm (by decide +kernel) h hg (he := he)
  rintro as hs H vs ds cs P Q c r ⟨d, xs, rfl, hl, hp⟩ q
  cases r with
  | cons r t =>
    cases t
    obtain ⟨a, us, rfl, hr, rl⟩ := hl.rep c r
    exact ⟨a, us, rfl, .inl ⟨.inl hr, fun l n => q _ _ as _ cs (Grow.laid n) (c.laid n) (.tup (c.fresh n).1 (c.fresh n).2 upd_same (rl.grow (Grow.laid n))) hp⟩⟩
/-- is not None, as a value -/
theorem w_isNN {j : Nat} (h : W X e ρ cs fun d cs1 => ∃ k, (k = true ↔ d = .non) ∧ P (.bl (!k)) cs1) : W X (.Compare e [.IsNot] [.Constant .none j pos'] pos) ρ cs P :=
  w_of (pe_cmp (pc_notN h)) fun as hs σ H Q f q => sub1 f fun v H1 as1 d cs1 g1 f1 r1 ⟨k, hk, p1⟩ => by
    have ek : decide (v = V.non) = k := by
      cases r1 <;> cases k <;> simp_all
    show Q (.bl (!decide (v = V.non))) H1
    rw [ek]
    exact q _ _ _ _ _ g1 f1.cells .bl p1
end
end Rg
set_option Elab.async false
set_option linter.all false
set_option maxRecDepth 100000
/-! a dict with tuples of ints as keys, filled one statement after the other; for over such a dict; d[key]; len(d) -/
namespace Rg
open PySem PySem.Spec
open PyProof.Rows L2
/-- the dict at Dd, hidden; slot i holds it -/
structure TFit (as hs : List Addr) (Dd : Addr) (i : Nat) (ρ : Ro) (cs : Cs) (ks : List (List Int)) (ds : List D) (σ : L2.St) (H : Hp) : Prop where
  fit : Fit as (Dd :: hs) ρ cs σ H
  at_ : ρ[i]? = some (some (.obj Dd))
  dct : ∃ us, H Dd = some (.dT ((ks.map ikey).zip us)) ∧ ks.length = us.length ∧ RepL as (Dd :: hs) H ds us
abbrev NxT := Ro → Cs → List (List Int) → List D → Prop
def tU (Dd : Addr) (i : Nat) (Nx : NxT) (ρ : Ro) (cs : Cs) (ks : List (List Int)) (ds : List D) : TS := fun DD σ H => ∃ as0 H0 as hs, H0 Dd = none ∧ Grow as0 as H0 H ∧ TFit as hs Dd i ρ cs ks ds σ H ∧ ∀ σ' H' as' ρ' cs' ks' ds', Grow as0 as' H0 H' → TFit as' hs Dd i ρ' cs' ks' ds' σ' H' → Nx ρ' cs' ks' ds' → DD.nx σ' H'
def WU (X : Cx) (Dd : Addr) (i : Nat) (st : Stmt) (Nx : NxT) (ρ : Ro) (cs : Cs) (ks : List (List Int)) (ds : List D) : Prop := PS X st (tU Dd i Nx ρ cs ks ds)
def WUs (X : Cx) (Dd : Addr) (i : Nat) (sts : List Stmt) (Nx : NxT) (ρ : Ro) (cs : Cs) (ks : List (List Int)) (ds : List D) : Prop := PSs X sts (tU Dd i Nx ρ cs ks ds)
theorem TFit.var {as hs : List Addr} {Dd : Addr} {i : Nat} {ρ : Ro} {cs : Cs} {ks : List (List Int)} {ds : List D} {σ : L2.St} {H : Hp} (f : TFit as hs Dd i ρ cs ks ds σ H) : σ[i]? = some (some (.ref Dd)) := by
  obtain ⟨v, h, r⟩ := f.fit.slot i _ f.at_
  cases r
  exact h
theorem TFit.grow {as hs as1 : List Addr} {Dd : Addr} {i : Nat} {ρ ρ1 : Ro} {cs cs1 : Cs} {ks : List (List Int)} {ds : List D} {σ σ1 : L2.St} {H H1 : Hp} (f : TFit as hs Dd i ρ cs ks ds σ H) (g : Grow as as1 H H1) (f1 : Fit as1 (Dd :: hs) ρ1 cs1 σ1 H1) (e : ρ1[i]? = some (some (.obj Dd))) : TFit as1 hs Dd i ρ1 cs1 ks ds σ1 H1 := by
  obtain ⟨us, h1, h2, h3⟩ := f.dct
  exact ⟨f1, e, us, g.keep _ _ (f.fit.cells.hid Dd List.mem_cons_self).1 h1, h2, h3.grow g⟩
section
variable {X : Cx} {ρ : Ro} {cs : Cs} {ks : List (List Int)} {ds : List D} {e a b c o ky kz iter : Expr} {Nx : NxT} {E : En} {P : PD} {PN : List D → Cs → Prop} {pos p apos cpos kpos pos' px py tp mpos : Pos} {x y n : Str} {B i kt : Nat} {Dd : Addr} {st : Stmt} {sts body els rest : List Stmt}
def tAnyU (Dd : Addr) (i : Nat) (S : NxT → Ro → Cs → List (List Int) → List D → Prop) : TS := fun DD σ H => ∃ Nx ρ cs ks ds, S Nx ρ cs ks ds ∧ tU Dd i Nx ρ cs ks ds DD σ H
theorem pssU_any : PSs X sts (tAnyU Dd i (WUs X Dd i sts)) := ⟨fun pins s σ H DD I ⟨Nx, ρ, cs, ks, ds, hs, q⟩ => hs.run pins s σ H DD I q⟩
theorem wus_nil (h : Nx ρ cs ks ds) : WUs X Dd i [] Nx ρ cs ks ds := pss_imp pss_nil fun DD σ H ⟨as0, H0, as, hs, n0, g, f, q⟩ => q σ H as ρ cs ks ds g f h
theorem wus_one (h : WU X Dd i st Nx ρ cs ks ds) : WUs X Dd i [st] Nx ρ cs ks ds := pss_imp (pss_one h) fun DD σ H z => z
theorem wus_cons (h : WU X Dd i st (fun ρ' cs' ks' ds' => WUs X Dd i sts Nx ρ' cs' ks' ds') ρ cs ks ds) : WUs X Dd i (st :: sts) Nx ρ cs ks ds :=
  pss_imp (pss_cons h pssU_any) fun DD σ H ⟨as0, H0, as, hs, n0, g, f, q⟩ => ⟨as0, H0, as, hs, n0, g, f, fun σ' H' as' ρ' cs' ks' ds' g' f' h' => ⟨Nx, ρ', cs', ks', ds', h', as0, H0, as', hs, n0, g', f', q⟩⟩
/-- a statement that doesn't touch the dict -/
theorem wu_ws (h : WS X cs.length st { nx := fun ρ' cs' => ρ'[i]? = some (some (.obj Dd)) ∧ Nx ρ' cs' ks ds, rt := fun _ _ => False, bk := fun _ _ => False, ct := fun _ _ => False } ρ cs) : WU X Dd i st Nx ρ cs ks ds :=
  ps_imp h fun DD σ H ⟨as0, H0, as, hs, n0, g0, f, q⟩ => tS_mk (Nat.le_refl _) f.fit ⟨fun σ' H' as' ρ' cs' gb f' ⟨e, hn⟩ => by
    rw [f.fit.cells.len] at gb
    exact q σ' H' as' ρ' cs' ks ds (g0.trans gb.grow) (f.grow gb.grow f' e) hn, fun _ _ _ _ _ _ _ _ z => z.elim, fun _ _ _ _ _ _ _ z => z.elim, fun _ _ _ _ _ _ _ z => z.elim⟩
theorem wu_if (h : WT X c ρ cs fun k cs1 => if k = true then WUs X Dd i body Nx ρ cs1 ks ds else WUs X Dd i els Nx ρ cs1 ks ds) : WU X Dd i (.If c body els pos) Nx ρ cs ks ds :=
  ps_imp (ps_if h (pssU_any (X := X) (i := i) (Dd := Dd) (sts := body)) (pssU_any (X := X) (i := i) (Dd := Dd) (sts := els))) fun DD σ H ⟨as0, H0, as, hs, n0, g0, f, q⟩ => subT f.fit fun k H1 as1 cs1 g1 f1 p1 => by
    cases k with
    | true => exact ⟨Nx, ρ, cs1, ks, ds, p1, as0, H0, as1, hs, n0, g0.trans g1, f.grow g1 f1 f.at_, q⟩
    | false => exact ⟨Nx, ρ, cs1, ks, ds, p1, as0, H0, as1, hs, n0, g0.trans g1, f.grow g1 f1 f.at_, q⟩
theorem wu_for {hp : PassesOwn (model X.prog X.w) X.A X.env X.xe} (j : Nat) (hij : j ≠ i) (hc : X.calm = true) (hN : X.N.Nodup) (h : W X e ρ cs fun d cs1 => ∃ (xs : List D) (I : Nat → NxT), I 0 ρ cs1 ks ds ∧ (∀ t ρ' cs' ks' ds', I t ρ' cs' ks' ds' → LstD cs' d xs) ∧
      (∀ t x ρ' cs' ks' ds', xs[t]? = some x → I t ρ' cs' ks' ds' → WUs X Dd i body (I (t + 1)) (ρ'.set j (some x)) cs' ks' ds') ∧ (∀ ρ' cs' ks' ds', I xs.length ρ' cs' ks' ds' → Nx ρ' cs' ks' ds'))
    (hi : X.N[j]? = some x := by rfl) (hx : Loc X.env.scope x := by first | exact .inl rfl | exact .inr rfl) (hf : X.fn x = true ∨ X.env.scope.names.lookup x = some .local := by first | exact .inl rfl | exact .inr rfl)
    (hs : ∀ x, foldedSetIterable e X.env x = pure x := by intro _; rfl) : WU X Dd i (.For (.Name x p) e body [] pos) Nx ρ cs ks ds := by
  refine ps_imp (ps_for hp hc (pi_list h) (pg_name hN hi hx hf) (pssU_any (X := X) (i := i) (Dd := Dd) (sts := body)) hs) fun DD σ H ⟨as0, H0, as, hs, n0, g0, f, q⟩ => ?_
  refine sub1 f.fit fun v H1 as1 d cs1 g1 f1 r1 ⟨xs, I, i0, hl, step, done⟩ => ?_
  obtain ⟨a, vs, ev, hr, rl⟩ := (hl 0 ρ cs1 ks ds i0).rep f1.cells r1
  subst ev
  refine ⟨a, rfl, ⟨vs, .inl hr⟩, fun t m σ' H' => m = xs.length - t ∧ t ≤ xs.length ∧ ∃ as' ρ' cs' ks' ds', Grow as1 as' (hole H1 Dd) H' ∧ TFit as' hs Dd i ρ' cs' ks' ds' σ' H' ∧ I t ρ' cs' ks' ds', ⟨xs.length, by simp, Nat.zero_le _, as1, ρ, cs1, ks, ds, grow_hole0, f.grow g1 f1 f.at_, i0⟩, ?_⟩
  rintro t m σ' H' ⟨rfl, hj, as', ρ', cs', ks', ds', g, f', i'⟩
  obtain ⟨a2, vs2, e2, hr2, rl2⟩ := (hl t ρ' cs' ks' ds' i').rep f'.fit.cells (r1.past g)
  cases e2
  by_cases hlt : t < xs.length
  · have hlv : t < vs2.length := by rw [← rl2.length]; exact hlt
    refine .inr ⟨⟨vs2, vs2[t], .inl hr2, by simp [hlv]⟩, fun σ'' H'' => ∃ as'' ρ'' cs'' ks'' ds'', Grow as1 as'' (hole H1 Dd) H'' ∧ TFit as'' hs Dd i ρ'' cs'' ks'' ds'' σ'' H'' ∧ I (t + 1) ρ'' cs'' ks'' ds'', fun σ'' H'' z => ⟨xs.length - (t + 1), by omega, rfl, hlt, z⟩, fun y H'' yy => ?_⟩
    obtain ⟨e3, yy⟩ := yy
    subst e3
    obtain ⟨x', hx', rx'⟩ := rl2.get' (yy vs2 (.inl hr2))
    refine ⟨_, _, _, _, _, step t x' ρ' cs' ks' ds' hx' i', as1, hole H1 Dd, as', hs, hole_at, g, ⟨f'.fit.set j rx', by rw [List.getElem?_set_ne hij]; exact f'.at_, f'.dct⟩, fun σ2 H2 as2 ρ2 cs2 ks2 ds2 g2 f2 h2 => ⟨as2, ρ2, cs2, ks2, ds2, g2, f2, h2⟩⟩
  · have e : t = xs.length := by omega
    subst e
    exact .inl ⟨⟨vs2, .inl hr2, by rw [← rl2.length]; exact Nat.le_refl _⟩, q _ _ as' ρ' cs' ks' ds' ((g0.trans g1).base n0 g) f' (done ρ' cs' ks' ds' i')⟩
/-- what the dict holds at a key -/
theorem TFit.get {as hs as3 : List Addr} {σ : L2.St} {H H3 : Hp} {ns : List Int} {b : Addr} {d0 dv : D} {z : V} (f : TFit as hs Dd i ρ cs ks ds σ H) (g : Grow as as3 H H3) (hb : H3 b = some (.tup (ns.map V.int))) (r0 : Rep as3 (Dd :: hs) H3 d0 z) (hdv : (ns ∉ ks ∧ dv = d0) ∨ ∃ p : Nat, ks[p]? = some ns ∧ ks.Nodup ∧ ds[p]? = some dv) :
    ∃ o, DGet H3 Dd (.ref b) o ∧ Rep as3 (Dd :: hs) H3 dv (o.getD z) := by
  obtain ⟨us, h1, h2, h3⟩ := f.dct
  have hd := g.keep _ _ (f.fit.cells.hid Dd List.mem_cons_self).1 h1
  refine ⟨_, DGet.t (k := ikey ns) hd (by rw [ikey_kV]; exact hb), ?_⟩
  rcases hdv with ⟨hno, rfl⟩ | ⟨p, hp, nd, hx⟩
  · rw [valVT_none fun z => by
      obtain ⟨ms, hm, em⟩ := List.mem_map.mp z
      rw [ikey_inj em] at hm
      exact hno hm]
    exact r0
  · obtain ⟨u, hu2, ru⟩ := h3.get hx
    rw [valVT_at (j := p) (List.Pairwise.map _ (fun a b h z => h (ikey_inj z)) nd) (by rw [List.getElem?_map, hp]; rfl) hu2]
    exact ru.grow g
theorem putVT_at {k : List Key} {v : V} : ∀ {ks : List (List Key)} {us : List V} {p : Nat}, ks.Nodup → ks.length = us.length → ks[p]? = some k → putK (ks.zip us) k v = ks.zip (us.set p v)
  | ks, us, p, nd, hl, hp => by
    have hpl := (List.getElem?_eq_some_iff.mp hp).1
    have hu : us[p]? = some us[p] := List.getElem?_eq_getElem (by omega)
    have hx : (k, us[p]) ∈ ks.zip us := List.mem_of_getElem? (List.getElem?_zip_eq_some.mpr ⟨hp, hu⟩)
    have hany : ((ks.zip us).any fun kv => decide (kv.1 = k)) = true := List.any_eq_true.mpr ⟨_, hx, by simp⟩
    unfold putK
    rw [if_pos hany]
    apply List.ext_getElem?
    intro t
    rw [List.getElem?_map]
    by_cases ht : t < ks.length
    · have h1 : ks[t]? = some ks[t] := List.getElem?_eq_getElem ht
      have h2 : us[t]? = some us[t] := List.getElem?_eq_getElem (by omega)
      have e1 : (ks.zip us)[t]? = some (ks[t], us[t]'(by omega)) := List.getElem?_zip_eq_some.mpr ⟨h1, h2⟩
      rw [e1]
      by_cases e : p = t
      · subst e
        have ek : ks[p] = k := by rw [h1] at hp; exact Option.some.inj hp
        have h3 : (us.set p v)[p]? = some v := List.getElem?_set_self (by omega)
        have e3 : (ks.zip (us.set p v))[p]? = some (ks[p], v) := List.getElem?_zip_eq_some.mpr ⟨h1, h3⟩
        rw [e3]
        simp [ek]
      · have ne : ks[t] ≠ k := fun z => by
          obtain ⟨q, e2⟩ := List.getElem?_eq_some_iff.mp hp
          exact e ((List.getElem_inj nd).mp (e2.trans z.symm))
        have h3 : (us.set p v)[t]? = some us[t] := by rw [List.getElem?_set_ne e]; exact h2
        have e3 : (ks.zip (us.set p v))[t]? = some (ks[t], us[t]'(by omega)) := List.getElem?_zip_eq_some.mpr ⟨h1, h3⟩
        rw [e3]
        simp [ne]
    · rw [List.getElem?_eq_none (by rw [List.length_zip]; omega), List.getElem?_eq_none (by rw [List.length_zip, List.length_set]; omega)]; rfl
theorem putU_end {as0 as as2 hs : List Addr} {H0 H H2 : Hp} {σ : L2.St} {DD : Ends} {ns : List Int} {b : Addr} {d : D} {v : V} (n0 : H0 Dd = none) (g0 : Grow as0 as H0 H) (f : TFit as hs Dd i ρ cs ks ds σ H)
    (q : ∀ σ' H' as' ρ' cs' ks' ds', Grow as0 as' H0 H' → TFit as' hs Dd i ρ' cs' ks' ds' σ' H' → Nx ρ' cs' ks' ds' → DD.nx σ' H') {cs2 : Cs} (g : Grow as as2 H H2) (f2 : Fit as2 (Dd :: hs) ρ cs2 σ H2) (r : Rep as2 (Dd :: hs) H2 d v) (hb : H2 b = some (.tup (ns.map V.int))) (hl : ks.length < 100000)
    (hp : (ns ∉ ks ∧ Nx ρ cs2 (ks ++ [ns]) (ds ++ [d])) ∨ ∃ p : Nat, ks[p]? = some ns ∧ ks.Nodup ∧ Nx ρ cs2 ks (ds.set p d)) : ∃ H4, DPut H2 Dd (.ref b) v H4 ∧ DD.nx σ H4 := by
  obtain ⟨us, h1, h2, h3⟩ := f.dct
  have hD := g.keep _ _ (f.fit.cells.hid Dd List.mem_cons_self).1 h1
  have hkl : (ks.map ikey).length = us.length := by rw [List.length_map]; exact h2
  have hz : ((ks.map ikey).zip us).length < sizeLine := by
    rw [List.length_zip, ← hkl, Nat.min_self, List.length_map]
    exact sz_lt hl
  refine ⟨_, DPut.t (k := ikey ns) hD (by rw [ikey_kV]; exact hb) hz, ?_⟩
  have mutD : ∀ {o : HO} (b : Addr), b ∉ as2 → b ∉ Dd :: hs → upd H2 Dd o b = H2 b := fun {o} b _ m => upd_ne fun e => m (by rw [e]; exact List.mem_cons_self)
  have gg := g0.trans g
  have gu : ∀ {o : HO}, Grow as0 as2 H0 (upd H2 Dd o) := fun {o} => ⟨gg.ext, gg.new, fun a o' na ha => by rw [upd_ne (ne_of_none ha n0)]; exact gg.keep a o' na ha⟩
  have fu : ∀ {o : HO} (nt : NoT o), Fit as2 (Dd :: hs) ρ cs2 σ (upd H2 Dd o) := fun {o} nt => ⟨f2.cells.dmut List.mem_cons_self nt, f2.slen, fun j d' e => by
    obtain ⟨v', a, b⟩ := f2.slot j d' e
    exact ⟨v', a, b.mut mutD⟩⟩
  have ra := h3.grow g
  rcases hp with ⟨hk, hn⟩ | ⟨p, hk, nd, hn⟩
  · refine q σ _ as2 ρ cs2 _ _ gu ⟨fu True.intro, f.at_, us ++ [v], ?_, by simp [h2], (ra.append (.cons r .nil)).mut mutD⟩ hn
    rw [upd_same, putK_new _ (valVT_none fun z => by
      obtain ⟨ms, hm, em⟩ := List.mem_map.mp z
      rw [ikey_inj em] at hm
      exact hk hm), List.map_append]
    exact congrArg (fun z => some (HO.dT z)) (zip_snoc hkl).symm
  · refine q σ _ as2 ρ cs2 _ _ gu ⟨fu True.intro, f.at_, us.set p v, ?_, by simp [h2], (ra.set r p).mut mutD⟩ hn
    rw [upd_same, putVT_at (List.Pairwise.map _ (fun a b h z => h (ikey_inj z)) nd) hkl (by rw [List.getElem?_map, hk]; rfl)]
/-- found[key] = e -/
theorem wu_put (hu : X.A.units + 1 < cLine) (hi : X.N[i]? = some x) (hv : Vis X.env.scope x) (h : W X e ρ cs fun d cs1 => W X ky ρ cs1 fun dk cs2 => ∃ ns, dk = tkD ns ∧ ks.length < 100000 ∧ ((ns ∉ ks ∧ Nx ρ cs2 (ks ++ [ns]) (ds ++ [d])) ∨ ∃ p : Nat, ks[p]? = some ns ∧ ks.Nodup ∧ Nx ρ cs2 ks (ds.set p d)))
    (hs : swapsWith e (some (.Subscript (.Name x px) ky pos')) pos.line X.env = pure false := by rfl) (hd : (x == ("__debug__" : Str)) = false := by decide) (hcd : (x == ("__classdict__" : Str)) = false := by decide) : WU X Dd i (.Assign [.Subscript (.Name x px) ky pos'] e pos) Nx ρ cs ks ds := by
  refine ps_imp (ps_dput hu (pe_var (i := i) hi hv hd hcd) (pe_any (S := W X ky) fun _ _ _ z => z) h hs) fun DD σ H ⟨as0, H0, as, hs, n0, g0, f, q⟩ => ?_
  refine sub1 f.fit fun v H1 as1 d cs1 g1 f1 r1 p1 => ⟨.ref Dd, f.var, ρ, cs1, _, p1, sub1 f1 fun y H2 as2 dk cs2 g2 f2 r2 ⟨ns, ek, hl, hp⟩ => ?_⟩
  subst ek
  cases r2 with
  | @tup b _ vs m1 m2 hb lb =>
    have ew := repL_ints' lb
    subst ew
    obtain ⟨H4, h4, h5⟩ := putU_end n0 g0 f q (g1.trans g2) f2 (r1.grow g2) hb hl hp
    exact ⟨Dd, H4, rfl, h4, h5⟩
/-- a, b = found.get(key, pair) -/
theorem wu_unpGet (j l : Nat) (hij : j ≠ i) (hil : l ≠ i) (hu : X.A.units + 1 < cLine) (hi : X.N[i]? = some n) (hv : Vis X.env.scope n) (m : M2 X (.Name n px) "get" apos ky kz cpos)
    (h : W X ky ρ cs fun dk cs1 => ∃ ns, dk = tkD ns ∧ W X kz ρ cs1 fun d0 cs2 => ∃ d1 d2, ((ns ∉ ks ∧ D.tup [d1, d2] = d0) ∨ ∃ p : Nat, ks[p]? = some ns ∧ ks.Nodup ∧ ds[p]? = some (.tup [d1, d2])) ∧ Nx ((ρ.set j (some d1)).set l (some d2)) cs2 ks ds)
    (hg : PG X (.Tuple [.Name x pos', .Name y py] kt tp) (gPair X.K j l))
    (hs : swapsWithSole [.Tuple [.Name x pos', .Name y py] kt tp] (.Call (.Attribute (.Name n px) "get" apos) [ky, kz] [] cpos) pos.line X.env = pure false := by rfl) (hw : swappedStores [.Tuple [.Name x pos', .Name y py] kt tp] (.Call (.Attribute (.Name n px) "get" apos) [ky, kz] [] cpos) X.env = pure none := by rfl)
    (h1 : (assignEach [.Tuple [.Name x pos', .Name y py] kt tp] X.env).map (·.2) = [assign (.Tuple [.Name x pos', .Name y py] kt tp) X.env] := by rfl) (hd : (n == ("__debug__" : Str)) = false := by decide) (hcd : (n == ("__classdict__" : Str)) = false := by decide) :
    WU X Dd i (.Assign [.Tuple [.Name x pos', .Name y py] kt tp] (.Call (.Attribute (.Name n px) "get" apos) [ky, kz] [] cpos) pos) Nx ρ cs ks ds := by
  refine ps_imp (ps_asg (pe_dget2 hu (pe_var (i := i) hi hv hd hcd) h (pe_any (S := W X kz) fun _ _ _ z => z) m) hg hs hw h1) fun DD σ H ⟨as0, H0, as, hs, n0, g0, f, q⟩ => ?_
  obtain ⟨us, u1, u2, u3⟩ := f.dct
  refine ⟨.ref Dd, f.var, Dd, rfl, .inr ⟨_, .inl u1⟩, sub1 f.fit fun y H1 as1 dk cs1 g1 f1 r1 ⟨ns, ek, p1⟩ => ?_⟩
  subst ek
  cases r1 with
  | @tup b _ vs m1 m2 hb lb =>
    have ew := repL_ints' lb
    subst ew
    refine ⟨ρ, cs1, _, p1, sub1 f1 fun z H2 as2 d0 cs2 g2 f2 r2 ⟨d1, d2, hdv, hn⟩ => ?_⟩
    have gg := g1.trans g2
    obtain ⟨o, ho, ro⟩ := f.get gg (g2.keep _ _ m1 hb) r2 hdv
    refine ⟨o, ho, ?_⟩
    generalize o.getD z = w at ro
    cases ro with
    | tup na nh hT rT =>
      cases rT with
      | cons q1 rT =>
        cases rT with
        | cons q2 rT =>
          cases rT
          have fs := (f2.set j q1).set l q2
          exact ⟨_, _, rfl, .inl (.inl hT), rfl, _, _, rfl, _, _, rfl, rfl, q _ _ as2 _ cs2 _ _ (g0.trans gg) (f.grow gg fs (by rw [List.getElem?_set_ne hil, List.getElem?_set_ne hij]; exact f.at_)) hn⟩
/-- locked for what follows -/
def tLk (t : TS) : TS := fun DD σ H => ∃ d u, H d = some u ∧ Mut (some u) ∧ ∀ od, t DD σ (upd H d (.frz od u))
theorem pss_lk {t : TS} (h : PSs X sts t) : PSs X sts (tLk t) := ⟨fun pins s σ H DD I ⟨d, u, hd, mu, q⟩ => by
  obtain ⟨od, I1⟩ := (I.lock hd mu)
  exact h.run pins s σ _ DD I1 (q od)⟩
/-- name = {}; one statement that fills it; the rest has the dict as it then is -/
theorem wss_fillT (i : Nat) (hi : X.N[i]? = some x) (hN : X.N.Nodup) (hil : i < ρ.length) (h : ∀ Dd, WU X Dd i st (fun ρ' cs' ks ds => ks.length = ds.length ∧ WSs X B rest E (ρ'.set i (some (.dcT (ks.map ikey) ds))) cs') (ρ.set i (some (.obj Dd))) cs [] [])
    (hx : Loc X.env.scope x := by first | exact .inl rfl | exact .inr rfl) (hs : swapsWith (.Dict [] [] pos') (some (.Name x px)) pos.line X.env = pure false := by rfl)
    (hf : X.fn x = true ∨ X.env.scope.names.lookup x = some .local := by first | exact .inl rfl | exact .inr rfl) : WSs X B (.Assign [.Name x px] (.Dict [] [] pos') pos :: st :: rest) E ρ cs := by
  have hst : PS X st fun DD σ H => ∃ Dd, tU Dd i (fun ρ' cs' ks ds => ks.length = ds.length ∧ WSs X B rest E (ρ'.set i (some (.dcT (ks.map ikey) ds))) cs') (ρ.set i (some (.obj Dd))) cs [] [] DD σ H := ⟨fun pins s σ H DD I ⟨Dd, z⟩ => (h Dd).run pins s σ H DD I z⟩
  refine wss_of (pss_cons (ps_set hN hi hx pe_dnewT hs hf) (pss_cons hst (pss_lk (pss_any (B := B) (S := WSs X B rest) fun _ _ _ z => z)))) fun as hs σ H DD hB f q => ?_
  intro p np
  have fr := f.cells.fresh np
  have hsl : i < σ.length := by rw [← f.slen]; exact hil
  refine ⟨p, as, H, as, hs, np, Grow.laid np, ⟨⟨f.cells.hide np, by simp [f.slen], fun j d e => ?_⟩, List.getElem?_set_self hil, [], upd_same, rfl, .nil⟩, fun σ' H' as' ρ' cs' ks' ds' g' f' ⟨hl, hw⟩ => ?_⟩
  · by_cases hj : j = i
    · subst hj
      rw [List.getElem?_set_self hil] at e
      cases e
      exact ⟨.ref p, List.getElem?_set_self hsl, .obj⟩
    · rw [List.getElem?_set_ne (Ne.symm hj)] at e
      rw [List.getElem?_set_ne (Ne.symm hj)]
      obtain ⟨v, h1, h2⟩ := f.slot j d e
      exact ⟨v, h1, (h2.hide np).grow (Grow.laid np)⟩
  · obtain ⟨us, u1, u2, u3⟩ := f'.dct
    refine ⟨p, _, u1, True.intro, fun od => ?_⟩
    have sub : ∀ a, a ∈ hs → a ∈ p :: hs := fun a h => List.mem_cons_of_mem _ h
    have mutD : ∀ {o : HO} (b : Addr), b ∉ as' → b ∉ p :: hs → upd H' p o b = H' b := fun {o} b _ m => upd_ne fun e => m (by rw [e]; exact List.mem_cons_self)
    have np' := (f'.fit.cells.hid p List.mem_cons_self).1
    have g2 : Grow as as' H (upd H' p (.frz od (.dT ((ks'.map ikey).zip us)))) := ⟨g'.ext, g'.new, fun a o' na ha => by rw [upd_ne (ne_of_none ha np)]; exact g'.keep a o' na ha⟩
    have f2 : Fit as' hs (ρ'.set i (some (.dcT (ks'.map ikey) ds'))) cs' σ' (upd H' p (.frz od (.dT ((ks'.map ikey).zip us)))) := ⟨(f'.fit.cells.dmut List.mem_cons_self).show1, by simp [f'.fit.slen], fun j d e => by
      by_cases hj : j = i
      · subst hj
        have hjl : j < ρ'.length := by
          have := (List.getElem?_eq_some_iff.mp e).1
          simpa using this
        rw [List.getElem?_set_self hjl] at e; cases e
        exact ⟨_, f'.var, .dcT np' fr.2 upd_same (by rw [List.length_map]; exact hl) ((u3.mut mutD).show sub)⟩
      · rw [List.getElem?_set_ne (Ne.symm hj)] at e
        obtain ⟨v, h1, h2⟩ := f'.fit.slot j d e
        exact ⟨v, h1, (h2.mut mutD).show sub⟩⟩
    exact ⟨E, _, cs', hw, tS_mk (le_cs f2 ((g2.B B).le hB)) f2 (q.next (g2.B B) hB)⟩
/-- d[key] -/
theorem w_dgetT (hu : X.A.units + 1 < cLine) (h : W X o ρ cs fun d cs1 => ∃ (rows : List (List Int)) (xs : List D), d = .dcT (rows.map ikey) xs ∧ W X e ρ cs1 fun k cs2 => ∃ ns r, k = tkD ns ∧ (∃ i : Nat, rows[i]? = some ns ∧ rows.Nodup ∧ xs[i]? = some r) ∧ P r cs2) (hs : PlainIx e := by exact fun _ _ => rfl) : W X (.Subscript o e pos) ρ cs P := by
  refine w_of (pe_dget hu h (pe_any (S := W X e) fun _ _ _ z => z) hs) fun as hs σ H Q f q => sub1 f fun v H1 as1 d cs1 g1 f1 r1 ⟨rows, xs, ed, p1⟩ => ?_
  subst ed
  cases r1 with
  | @dcT a ob _ us _ n1 n2 hd hl rl =>
    refine ⟨ρ, cs1, _, p1, sub1 f1 fun y H2 as2 dk cs2 g2 f2 r2 ⟨ns, r, ek, ⟨i, hi, nd, hx⟩, hp⟩ => ?_⟩
    subst ek
    cases r2 with
    | @tup b _ vs m1 m2 hb lb =>
      have ew := repL_ints' lb
      subst ew
      have hd2 := g2.keep _ _ n1 hd
      obtain ⟨u, hu2, ru⟩ := rl.get hx
      exact ⟨a, u, rfl, .inr ⟨_, ikey ns, b, .inr ⟨_, hd2⟩, rfl, by rw [ikey_kV]; exact hb, (valVT_at (j := i) (List.Pairwise.map _ (fun a b h z => h (ikey_inj z)) nd) (by rw [List.getElem?_map, hi]; rfl) hu2).symm⟩, q _ _ as2 r cs2 (g1.trans g2) f2.cells (ru.grow g2) hp⟩
/-- len(d) -/
theorem cr_lenT : CallR X (.builtin "len") fun xs H Q => ∃ (q : Addr) (kvs : List (List Key × V)), xs = [.ref q] ∧ Rd H q (.dT kvs) ∧ Q (.int ((kvs.length : Nat) : Int)) H := by
  intro pins s σ H vs us Q I r ⟨q, kvs, e, hq, hh⟩
  subst e
  obtain ⟨u, eu, ru⟩ := vals1 r
  subst eu
  obtain rfl : u = (Value.ref q) := ru
  obtain ⟨z, hd, ys, rel, dd⟩ := dt_rd I.hok hq
  have hl : kvs.length = ys.length := paired_len rel
  rw [sizeLine_eq] at z
  refine call_len_dictH hd dd (by omega) ?_
  rw [← hl]
  exact ⟨.int kvs.length, H, I.tok _, ⟨_, rfl⟩, hh⟩
theorem w_lenDT (hm : X.mg "len" = none) (h : WA X [e] ρ cs fun ds cs1 => ∃ (rows : List (List Int)) (xs : List D), ds = [.dcT (rows.map ikey) xs] ∧ P (.int rows.length) cs1) (hg : Gl X "len" := by rfl) (he : starEach [e] X.env = (false, eval e X.env) :: starEach [] X.env := by rfl) : W X (.Call (.Name "len" p) [e] [] pos) ρ cs P := by
  refine w_bi (g := fun ds cs1 P => ∃ (rows : List (List Int)) (xs : List D), ds = [.dcT (rows.map ikey) xs] ∧ P (.int rows.length) cs1) cr_lenT ?_ hm PySem.boot_len h hg (he := he)
  rintro as hs H vs ds cs P Q c r ⟨rows, xs, rfl, hp⟩ q
  cases r with
  | cons r t =>
    cases t
    cases r with
    | @dcT a ob _ us _ n1 n2 hd hl rl =>
      have hlu := rl.length
      rw [List.length_map] at hl
      refine ⟨a, _, rfl, .inr ⟨_, hd⟩, ?_⟩
      rw [List.length_zip, List.length_map, show min rows.length us.length = rows.length by omega]
      exact q _ _ _ _ _ (Grow.refl as H) c .int hp
/-- for over the keys -/
theorem ws_forDT {hp : PassesOwn (model X.prog X.w) X.A X.env X.xe} (i : Nat) (hc : X.calm = true) (hN : X.N.Nodup) (h : W X e ρ cs fun d cs1 => ∃ (rows : List (List Int)) (xs : List D) (I : Nat → Ro → Cs → Prop), d = .dcT (rows.map ikey) xs ∧ I 0 ρ cs1 ∧
      (∀ j r ρ' cs', rows[j]? = some r → I j ρ' cs' → WSs X cs1.length body { nx := I (j + 1), rt := E.rt, bk := E.nx, ct := I (j + 1) } (ρ'.set i (some (tkD r))) cs') ∧ (∀ ρ' cs', I rows.length ρ' cs' → E.nx ρ' cs'))
    (hi : X.N[i]? = some x := by rfl) (hx : Loc X.env.scope x := by first | exact .inl rfl | exact .inr rfl) (hf : X.fn x = true ∨ X.env.scope.names.lookup x = some .local := by first | exact .inl rfl | exact .inr rfl)
    (hs : ∀ x, foldedSetIterable e X.env x = pure x := by intro _; rfl) : WS X B (.For (.Name x p) e body [] pos) E ρ cs := by
  refine ws_of (ps_for hp hc (pi_keys h) (pg_name hN hi hx hf) (⟨fun pins s σ H DD I ⟨B', z⟩ => (pss_any (B := B') (S := WSs X B' body) fun _ _ _ z => z).run pins s σ H DD I z⟩ : PSs X body fun DD σ H => ∃ B', tAnyS B' (WSs X B' body) DD σ H) hs) fun as hs σ H DD hB f q => ?_
  refine sub1 f fun v H1 as1 d cs1 g1 f1 r1 ⟨rows, xs, I, ed, i0, step, done⟩ => ?_
  subst ed
  cases r1 with
  | @dcT a ob _ us _ n1 n2 hd hl rl =>
    have hlu := rl.length
    rw [List.length_map] at hl
    have hkl : ((rows.map ikey).zip us).length = rows.length := by rw [List.length_zip, List.length_map]; omega
    refine ⟨a, ob, rfl, .inr ⟨_, hd, fun j m σ' H' => m = rows.length - j ∧ j ≤ rows.length ∧ ∃ as' ρ' cs', Grow as1 as' H1 H' ∧ Fit as' hs ρ' cs' σ' H' ∧ I j ρ' cs', ⟨rows.length, by simp, Nat.zero_le _, as1, ρ, cs1, Grow.refl as1 H1, f1, i0⟩, ?_⟩⟩
    rintro j m σ' H' ⟨rfl, hj, as', ρ', cs', g, f', i'⟩
    have hd' := g.keep _ _ n1 hd
    by_cases hlt : j < rows.length
    · refine .inr ⟨⟨hd', by rw [hkl]; exact hlt⟩, fun σ'' H'' => ∃ as'' ρ'' cs'', Grow as1 as'' H1 H'' ∧ Fit as'' hs ρ'' cs'' σ'' H'' ∧ I (j + 1) ρ'' cs'', fun σ'' H'' z => ⟨rows.length - (j + 1), by omega, rfl, hlt, z⟩, fun y H'' yy => ?_⟩
      obtain ⟨e3, k, w, b, hkv, ey, hb⟩ := yy
      subst e3 ey
      have hr : rows[j]? = some rows[j] := List.getElem?_eq_getElem hlt
      have ek : k = ikey rows[j] := by
        have := (List.getElem?_zip_eq_some.mp hkv).1
        rw [List.getElem?_map, hr] at this
        exact ((Option.some.inj this).symm)
      subst ek
      rw [ikey_kV] at hb
      have nt := f'.cells.noTup hb
      have rx : Rep as' hs H'' (tkD rows[j]) (.ref b) := .tup nt.1 nt.2 hb (repL_ints _)
      have hle : cs1.length ≤ as'.length := by
        obtain ⟨mm, e⟩ := g.ext
        rw [f1.cells.len, e, List.length_append]; omega
      have ex : ∀ {as'' H3}, GrowB cs1.length as' as'' H'' H3 → Grow as1 as'' H1 H3 := fun {as'' H3} g' => by
        have t := (g.B cs1.length).trans g' (by rw [f1.cells.len]; exact Nat.le_refl _)
        rw [f1.cells.len] at t
        exact t.grow
      refine ⟨cs1.length, _, _, _, step j _ ρ' cs' hr i', ?_⟩
      have nxt : ∀ σ'' H3 as'' ρ'' cs'', GrowB cs1.length as' as'' H'' H3 → Fit as'' hs ρ'' cs'' σ'' H3 → I (j + 1) ρ'' cs'' → ∃ as' ρ' cs', Grow as1 as' H1 H3 ∧ Fit as' hs ρ' cs' σ'' H3 ∧ I (j + 1) ρ' cs' := fun σ'' H3 as'' ρ'' cs'' g' f'' i'' => ⟨as'', ρ'', cs'', ex g', f'', i''⟩
      exact tS_mk (le_cs (f'.set i rx) hle) (f'.set i rx) ⟨nxt, fun v H3 as'' d' cs'' g' c' r' p' => q.rt v H3 as'' d' cs'' ((g1.trans (ex g')).B B) c' r' p', fun σ'' H3 as'' ρ'' cs'' g' f'' p' => q.nx σ'' H3 as'' ρ'' cs'' ((g1.trans (ex g')).B B) f'' p', nxt⟩
    · have e : j = rows.length := by omega
      subst e
      exact .inl ⟨⟨hd', by rw [hkl]; exact Nat.le_refl _⟩, q.nx _ _ as' ρ' cs' ((g1.trans g).B B) f' (done ρ' cs' i')⟩
end
end Rg
set_option Elab.async false
set_option linter.all false
set_option maxRecDepth 100000
set_option maxHeartbeats 1007000
/-! enumerate(zip(a, b)) -/
namespace Rg
open PySem PySem.Spec
open PyProof.Rows L2
/-- where a zip stands that may have handed a tuple out -/
abbrev ZipF (h : Heap) (z TI TO : Addr) (f : Value) (g : Bool) : Prop :=
  h.get? z = some { cls := .type "zip", dict := none, data := .fields #[f, .bool g, .bool false, .ref TI, .ref TO], slots := #[] }
structure ZSt (h : Heap) (z TI TO i1 i2 a b : Addr) (i : Nat) : Prop where
  zip : ∃ f g, ZipF h z TI TO f g ∧ ((f = .none ∧ g = false) ∨ ∃ T : Addr, f = rawInt T)
  ti : IsPair h TI (.ref i1) (.ref i2)
  to : ∃ x y, IsPair h TO x y
  it1 : h.IsListIter i1 a i
  it2 : h.IsListIter i2 b i
section
variable {prog : Program}
variable {w : World} {A : Around}
variable {E : Value → Shared → Prop} {s : Shared}
theorem nextOf_zip {z TI TO : Addr} {f : Value} {g : Bool} {Q : Value → Shared → Prop} (hz : ZipF s.heap z TI TO f g) (h : wpAny (model prog w) A.in1 (Builtin.«zip.__next__» ⟨[.ref z], []⟩) (fun fin s' => ∃ v, fin = .done (.ret v) ∧ Q v s') E s) :
    wpAny (model prog w) A (Builtin.SmallTypes.nextOf (.ref z)) Q E s := by
  have ty : s.TypeIs (.ref z) "zip" := ⟨_, hz, rfl⟩
  (unfold Builtin.SmallTypes.nextOf)
  refine wpAny_bind (wpAny_callSpecial?_slot (name := Str.ofString "__next__") ty F.slot_zip_next (wpAny_call_entry F.slot_zip_next ty F.entry_zip_next ?_ (F.args_zip_next_1 _)))
  exact wpAny_mono h (fun fin s' ⟨v, e, q⟩ => ⟨v, e, wpAny_pure q⟩) fun _ _ q => q
/-- what the next pair leaves -/
def ZNext (h h' : Heap) (z TI TO i1 i2 a b : Addr) (i : Nat) (x y : Value) : Prop :=
  ZSt h' z TI TO i1 i2 a b (i + 1) ∧ IsPair h' h.objs.size x y ∧ h'.objs.size = h.objs.size + 1 ∧ ∀ c o, c ≠ z → c ≠ TO → c ≠ i1 → c ≠ i2 → h.get? c = some o → h'.get? c = some o
/-- the own tuple is free: it is used again -/
theorem zip_free {z TI TO i1 i2 l1 l2 : Addr} {f : Value} {g : Bool} {k : Nat} {xs ys : Array Value} {x y a b : Value} {Q : Value → Shared → Prop} (D : ZipApart z TI TO i1 i2 l1 l2)
    (hfree : ∀ {R : Bool → Shared → Prop}, R true s → wpAny (model prog w) A (Builtin.SmallTypes.ownedTupleIsFree (.ref z)) R E s)
    (hz : ZipF s.heap z TI TO f g) (hTI : IsPair s.heap TI (.ref i1) (.ref i2)) (hTO : IsPair s.heap TO a b) (h1 : s.heap.IsListIter i1 l1 k) (h2 : s.heap.IsListIter i2 l2 k) (hl1 : s.heap.IsList l1 xs) (hl2 : s.heap.IsList l2 ys) (hx : xs[k]? = some x) (hy : ys[k]? = some y)
    (hQ : ∀ h', ZNext s.heap h' z TI TO i1 i2 l1 l2 k x y → Q (.ref s.heap.objs.size) { s with heap := h' }) :
    wpAny (model prog w) A (Builtin.«zip.__next__» ⟨[.ref z], []⟩)
      (fun fin s' => ∃ v, fin = .done (.ret v) ∧ Q v s') E s := by
  show (wpAny _ _ (field (.ref z) 2 >>= _) _ _ _)
  refine (wpAny_bind (wpAny_field hz rfl (x := .bool false) rfl ?_))
  show (wpAny _ _ (field (.ref z) 3 >>= _) _ _ _)
  refine (wpAny_bind (wpAny_field hz rfl (x := .ref TI) rfl (wpAny_bind (wpAny_seqItems hTI rfl ?_))))
  show (wpAny _ _ (Builtin.SmallTypes.ownedTupleIsFree (.ref z) >>= _) _ _ _)
  refine wpAny_bind (hfree ?_)
  simp only [if_true]
  refine (wpAny_bind (wpAny_rule (wpAny_bind (wpAny_field hz rfl (x := .ref TO) rfl (wpAny_bind (wpAny_setField_rec hz (by simp) fun ha za sa => ?_))))))
  have za' : ZipF ha z TI TO .ellipsis g := za
  refine wpAny_bind ?_
  (simp only [List.zipIdx_cons, List.zipIdx_nil, List.forIn_cons, List.forIn_nil])
  refine (wpAny_bind (wpAny_bind (wpAny_onRaise ?_)))
  show (wpAny _ _ (Builtin.SmallTypes.nextOf (.ref i1) >>= _) _ _ _)
  refine wpAny_bind (wpAny_nextOf_list_item (h1.extBut sa.extBut D.i1z) (hl1.extBut sa.extBut D.l1z) hx fun hb hb1 sb => wpAny_pure ?_)
  have tob : IsPair hb TO a b := sb.extBut _ _ D.TOi1 (sa.extBut _ _ D.TOz hTO)
  refine (wpAny_bind (wpAny_seqItems tob rfl (wpAny_bind (wpAny_updateSeq_pair tob fun hc toc sc => ?_))))
  have toc' : IsPair hc TO x b := toc
  refine (wpAny_bind (wpAny_letGo (wpAny_pure (wpAny_bind (wpAny_bind (wpAny_onRaise ?_))))))
  show (wpAny _ _ (Builtin.SmallTypes.nextOf (.ref i2) >>= _) _ _ _)
  refine wpAny_bind (wpAny_nextOf_list_item (((h2.extBut sa.extBut D.i2z).extBut sb.extBut D.i12.symm).extBut sc.extBut D.TOi2.symm)
    (((hl2.extBut sa.extBut D.l2z).extBut sb.extBut D.l2i1).extBut sc.extBut D.l2TO) hy fun hd hd2 sd => wpAny_pure ?_)
  have tod : IsPair hd TO x b := sd.extBut _ _ D.TOi2 toc'
  refine (wpAny_bind (wpAny_seqItems tod rfl (wpAny_bind (wpAny_updateSeq_pair tod fun he toe se => ?_))))
  have toe' : IsPair he TO x y := toe
  refine (wpAny_bind (wpAny_letGo (wpAny_pure (wpAny_pure (wpAny_bind (wpAny_seqItems toe' rfl (wpAny_bind (wpAny_newTuple ?_))))))))
  have size : he.objs.size = s.heap.objs.size := by rw [se.1, sd.1, sc.1, sb.1, sa.1]
  have ze : ZipF he z TI TO .ellipsis g := se.extBut _ _ D.TOz.symm (sd.extBut _ _ D.i2z.symm (sc.extBut _ _ D.TOz.symm (sb.extBut _ _ D.i1z.symm za')))
  have kept : ∀ c o, c ≠ z → c ≠ TO → c ≠ i1 → c ≠ i2 → s.heap.get? c = some o → he.get? c = some o := fun c o c1 c2 c3 c4 e => se.extBut _ _ c2 (sd.extBut _ _ c4 (sc.extBut _ _ c2 (sb.extBut _ _ c3 (sa.extBut _ _ c1 e))))
  have it1 : he.IsListIter i1 l1 (k + 1) := ((hb1.extBut sc.extBut D.TOi1.symm).extBut sd.extBut D.i12).extBut se.extBut D.TOi1.symm
  have it2 : he.IsListIter i2 l2 (k + 1) := hd2.extBut se.extBut D.TOi2.symm
  have zlt : z < he.objs.size := Heap.lt_size ze
  show wpAny _ _ (Builtin.SmallTypes.ownedTupleHandOut (.ref z) (.ref he.objs.size) >>= _) _ _ _
  refine wpAny_bind ?_
  (unfold Builtin.SmallTypes.ownedTupleHandOut)
  have zf : ZipF (he.push { cls := .type "tuple", data := .seq #[x, y] }) z TI TO .ellipsis g := Heap.get?_push_of_some _ ze
  refine (wpAny_bind (wpAny_setField_rec zf (by simp) fun hg zg sg => ?_))
  have zg' : ZipF hg z TI TO (rawInt he.objs.size) g := zg
  refine wpAny_setField_rec zg' (by simp) fun hh zh sh => ?_
  have zh' : ZipF hh z TI TO (rawInt he.objs.size) false := zh
  have up : ∀ c o, c ≠ z → he.get? c = some o → hh.get? c = some o := fun c o c1 e => sh.extBut _ _ c1 (sg.extBut _ _ c1 (Heap.get?_push_of_some _ e))
  have tp : IsPair hh he.objs.size x y := sh.extBut _ _ (Nat.ne_of_gt zlt) (sg.extBut _ _ (Nat.ne_of_gt zlt) (Heap.get?_push_size _ rfl))
  have sz : hh.objs.size = he.objs.size + 1 := by rw [sh.1, sg.1, Heap.size_push]
  refine (wpAny_pure ⟨_, rfl, ?_⟩)
  show Q (.ref he.objs.size) _
  rw [size] at tp sz zh' ⊢
  exact hQ hh ⟨⟨⟨_, _, zh', .inr ⟨_, rfl⟩⟩, up _ _ D.TIz (kept _ _ D.TIz D.TITO D.TIi1 D.TIi2 hTI), ⟨x, y, up _ _ D.TOz toe'⟩, it1.at fun o e => up _ o D.i1z e, it2.at fun o e => up _ o D.i2z e⟩, tp, sz, fun c o c1 c2 c3 c4 e => up c o c1 (kept c o c1 c2 c3 c4 e)⟩
theorem alive_any {a : Addr} {R : Option Obj → Shared → Prop} (h : R (s.heap.get? a) s) : wpAny (model prog w) A (loadIfAlive a) R E s := fun _ _ _ => h
theorem free_dead {z TI TO T : Addr} {g : Bool} (hz : ZipF s.heap z TI TO (rawInt T) g) (hT : s.heap.get? T = none) {R : Bool → Shared → Prop} (h : R true s) : wpAny (model prog w) A (Builtin.SmallTypes.ownedTupleIsFree (.ref z)) R E s := by
  (unfold Builtin.SmallTypes.ownedTupleIsFree)
  refine (wpAny_bind (wpAny_field hz rfl (x := rawInt T) rfl ?_))
  show (wpAny _ _ (loadIfAlive ((T : Int).toNat) >>= _) _ _ _)
  rw [Int.toNat_natCast]
  refine wpAny_bind (alive_any ?_)
  rw [hT]
  exact wpAny_pure h
theorem free_none {z TI TO : Addr} {g : Bool} (hz : ZipF s.heap z TI TO .none g) {R : Bool → Shared → Prop} (h : R true s) : wpAny (model prog w) A (Builtin.SmallTypes.ownedTupleIsFree (.ref z)) R E s := by
  (unfold Builtin.SmallTypes.ownedTupleIsFree)
  exact wpAny_bind (wpAny_field hz rfl (x := .none) rfl (wpAny_pure h))
/-- the next pair of zip -/
theorem zip_go {z TI TO i1 i2 l1 l2 : Addr} {k : Nat} {xs ys : Array Value} {x y : Value} {Q : Value → Shared → Prop} (D : ZipApart z TI TO i1 i2 l1 l2) (st : ZSt s.heap z TI TO i1 i2 l1 l2 k)
    (hl1 : s.heap.IsList l1 xs) (hl2 : s.heap.IsList l2 ys) (hx : xs[k]? = some x) (hy : ys[k]? = some y) (hQ : ∀ h', ZNext s.heap h' z TI TO i1 i2 l1 l2 k x y → Q (.ref s.heap.objs.size) { s with heap := h' }) :
    wpAny (model prog w) A (Builtin.SmallTypes.nextOf (.ref z)) Q E s := by
  obtain ⟨⟨f, g, hz, hf⟩, hTI, ⟨x0, y0, hTO⟩, h1, h2⟩ := st
  refine nextOf_zip hz ?_
  rcases hf with ⟨rfl, rfl⟩ | ⟨T, rfl⟩
  · exact zip_free D (fun h => free_none hz h) hz hTI hTO h1 h2 hl1 hl2 hx hy hQ
  · cases hT : s.heap.get? T with
    | none => exact zip_free D (fun h => free_dead hz hT h) hz hTI hTO h1 h2 hl1 hl2 hx hy hQ
    | some o =>
      refine zip_next_item_held D hz hT hTI h1 h2 hl1 hl2 hx hy fun h' z' j1 j2 p sz kp => hQ h' ⟨⟨⟨_, _, z', .inr ⟨_, rfl⟩⟩, kp _ _ D.TIz D.TIi1 D.TIi2 hTI, ⟨x0, y0, kp _ _ D.TOz D.TOi1 D.TOi2 hTO⟩, j1, j2⟩, p, sz, fun c o c1 _ c3 c4 e => kp c o c1 c3 c4 e⟩
theorem nextOf_zipE {z TI TO : Addr} {f : Value} {g : Bool} {Q : Value → Shared → Prop} (hz : ZipF s.heap z TI TO f g) (h : wpAny (model prog w) A.in1 (Builtin.«zip.__next__» ⟨[.ref z], []⟩) (fun _ _ => False) E s) :
    wpAny (model prog w) A (Builtin.SmallTypes.nextOf (.ref z)) Q E s := nextOf_zip hz (wpAny_mono h (fun _ _ q => q.elim) fun _ _ q => q)
/-- zip at its end: the first list has no more -/
theorem zip_out {z TI TO i1 i2 l1 l2 : Addr} {k : Nat} {xs ys : Array Value} {Q : Value → Shared → Prop} (hh : A.handled = none) (D : ZipApart z TI TO i1 i2 l1 l2) (st : ZSt s.heap z TI TO i1 i2 l1 l2 k)
    (hl1 : s.heap.IsList l1 xs) (hl2 : s.heap.IsList l2 ys) (hx : xs[k]? = none)
    (hE : ∀ (h' : Heap) (e : Addr), (∀ c o, c ≠ z → c ≠ TO → c ≠ i1 → c ≠ i2 → s.heap.get? c = some o → h'.get? c = some o) → (∃ o, h'.get? e = some o ∧ o.cls = .type "StopIteration") → E (.ref e) { s with heap := h' }) :
    wpAny (model prog w) A (Builtin.SmallTypes.nextOf (.ref z)) Q E s := by
  obtain ⟨⟨f, g, hz, hf⟩, hTI, ⟨x0, y0, hTO⟩, h1, h2⟩ := st
  refine nextOf_zipE hz ?_
  have free : (∀ {R : Bool → Shared → Prop}, R true s → wpAny (model prog w) A.in1 (Builtin.SmallTypes.ownedTupleIsFree (.ref z)) R E s) → wpAny (model prog w) A.in1 (Builtin.«zip.__next__» ⟨[.ref z], []⟩) (fun _ _ => False) E s := fun hfree => by
    show (wpAny _ _ (field (.ref z) 2 >>= _) _ _ _)
    refine (wpAny_bind (wpAny_field hz rfl (x := .bool false) rfl ?_))
    show (wpAny _ _ (field (.ref z) 3 >>= _) _ _ _)
    refine (wpAny_bind (wpAny_field hz rfl (x := .ref TI) rfl (wpAny_bind (wpAny_seqItems hTI rfl ?_))))
    show (wpAny _ _ (Builtin.SmallTypes.ownedTupleIsFree (.ref z) >>= _) _ _ _)
    refine wpAny_bind (hfree ?_)
    simp only [if_true]
    refine (wpAny_bind (wpAny_rule (wpAny_bind (wpAny_field hz rfl (x := .ref TO) rfl (wpAny_bind (wpAny_setField_rec hz (by simp) fun ha za sa => ?_))))))
    have za' : ZipF ha z TI TO .ellipsis g := za
    refine wpAny_bind ?_
    (simp only [List.zipIdx_cons, List.zipIdx_nil, List.forIn_cons, List.forIn_nil])
    refine (wpAny_bind (wpAny_bind (wpAny_onRaise ?_)))
    show (wpAny _ _ (Builtin.SmallTypes.nextOf (.ref i1) >>= _) _ _ _)
    refine wpAny_bind (wpAny_nextOf_list_end hh (h1.extBut sa.extBut D.i1z) (hl1.extBut sa.extBut D.l1z) hx fun hb e sb ⟨oe, ge, ce⟩ => ?_)
    have zb : ZipF hb z TI TO .ellipsis g := sb _ _ D.i1z.symm za'
    have ez : e ≠ z := fun q => by
      rw [q, zb] at ge
      cases ge
      simp at ce
    exact wpAny_setField_rec zb (by simp) fun hc _ sc => hE hc e (fun c o c1 _ c3 _ q => sc.extBut _ _ c1 (sb _ _ c3 (sa.extBut _ _ c1 q))) ⟨oe, sc.extBut _ _ ez ge, ce⟩
  rcases hf with ⟨rfl, rfl⟩ | ⟨T, rfl⟩
  · exact free fun h => free_none hz h
  · cases hT : s.heap.get? T with
    | none => exact free fun h => free_dead hz hT h
    | some o => exact zip_next_end_held hh D hz hT hTI h1 h2 hl1 hl2 (.inl hx) fun h' e kp he => hE h' e (fun c o c1 _ c3 c4 q => kp c o c1 c3 c4 q) he
/-- the next pair of enumerate over a zip: its number, and the zip's new pair -/
theorem ez_next {e z TI TO i1 i2 l1 l2 : Addr} {k : Nat} {xs ys : Array Value} {x y old : Value} {Q : Option Value → Shared → Prop} (D : ZipApart z TI TO i1 i2 l1 l2) (ap : e ≠ z ∧ e ≠ TI ∧ e ≠ TO ∧ e ≠ i1 ∧ e ≠ i2)
    (he : IsEnum s.heap e z ((k : Nat) : Int) old) (st : ZSt s.heap z TI TO i1 i2 l1 l2 k) (hl1 : s.heap.IsList l1 xs) (hl2 : s.heap.IsList l2 ys) (hx : xs[k]? = some x) (hy : ys[k]? = some y)
    (hQ : ∀ h1 h', ZNext s.heap h1 z TI TO i1 i2 l1 l2 k x y → IsEnumOut h' e z ((k : Int) + 1) (.ref s.heap.objs.size) (s.heap.objs.size + 1) → h'.get? (s.heap.objs.size + 1) = some { cls := .type "tuple", data := .seq #[.int k s.toks, .ref s.heap.objs.size] } →
      (∀ c o, c ≠ e → h1.get? c = some o → h'.get? c = some o) → Q (some (.ref (s.heap.objs.size + 1))) { s with heap := h', toks := s.toks + 1 }) :
      wpAny (model prog w) A
        (pyNext (.ref e)) Q E s := by
  have ty : s.TypeIs (.ref e) "enumerate" := ⟨_, he, rfl⟩
  unfold pyNext
  refine (wpAny_bind (wpAny_attempt (wpAny_callSpecial?_slot (name := Str.ofString "__next__") ty F.slot_enumerate_next (wpAny_call_entry F.slot_enumerate_next ty F.entry_enumerate_next ?_ (F.args_enumerate_next_1 _)))))
  obtain ⟨hp, gn, dr, tk, os⟩ := s
  have eL : e < hp.objs.size := Heap.lt_size he
  show wpAny _ _ (field (.ref e) 2 >>= _) _ _ ⟨hp, gn, dr, tk, os⟩
  refine (wpAny_bind (wpAny_field he rfl (x := .ref z) rfl (wpAny_bind (zip_go D st hl1 hl2 hx hy fun ha ⟨za, pa, sa, ka⟩ => ?_))))
  have ea : IsEnum ha e z ((k : Nat) : Int) old := ka _ _ ap.1 ap.2.2.1 ap.2.2.2.1 ap.2.2.2.2 he
  show wpAny _ _ (field (.ref e) 3 >>= _) _ _ ⟨ha, gn, dr, tk, os⟩
  refine (wpAny_bind (wpAny_field ea rfl (x := rawInt k) rfl ?_))
  show wpAny _ _ (field (.ref e) 4 >>= _) _ _ ⟨ha, gn, dr, tk, os⟩
  refine (wpAny_bind (wpAny_field ea rfl (x := .none) rfl ?_))
  show wpAny _ _ (mkInt k >>= _) _ _ ⟨ha, gn, dr, tk, os⟩
  refine (wpAny_bind (wpAny_mkInt ?_))
  show wpAny _ _ (setField (.ref e) 3 (rawInt ((k : Int) + 1)) >>= _) _ _ ⟨ha, gn, dr, tk + 1, os⟩
  refine (wpAny_bind (wpAny_setField_rec ea (by simp) fun hb eb sb => ?_))
  have eb' : IsEnum hb e z ((k : Int) + 1) old := eb
  show wpAny _ _ (setField (.ref e) 4 .none >>= _) _ _ ⟨hb, gn, dr, tk + 1, os⟩
  refine (wpAny_bind (wpAny_setField_rec eb' (by simp) fun hc ec sc => ?_))
  have ec' : IsEnum hc e z ((k : Int) + 1) old := ec
  show wpAny _ _ (newTuple [.int k tk, .ref hp.objs.size] >>= _) _ _ ⟨hc, gn, dr, tk + 1, os⟩
  refine (wpAny_bind (wpAny_newTuple ?_))
  have szc : hc.objs.size = hp.objs.size + 1 := by rw [sc.1, sb.1]; exact sa
  have kc : ∀ c o, c ≠ e → ha.get? c = some o → hc.get? c = some o := fun c o ce q => sc.extBut _ _ ce (sb.extBut _ _ ce q)
  have ed : IsEnum (hc.push { cls := .type "tuple", data := .seq #[.int k tk, .ref hp.objs.size] }) e z ((k : Int) + 1) old := Heap.get?_push_of_some _ ec'
  have td : (hc.push { cls := .type "tuple", data := .seq #[.int k tk, .ref hp.objs.size] }).get? hc.objs.size = some { cls := .type "tuple", data := .seq #[.int k tk, .ref hp.objs.size] } := Heap.get?_push_size _ rfl
  have sd : (hc.push { cls := .type "tuple", data := .seq #[.int k tk, .ref hp.objs.size] }).objs.size = hc.objs.size + 1 := Heap.size_push ..
  have kd : ∀ c o, c ≠ e → ha.get? c = some o → (hc.push { cls := .type "tuple", data := .seq #[.int k tk, .ref hp.objs.size] }).get? c = some o := fun c o ce q => Heap.get?_push_of_some _ (kc c o ce q)
  revert ed td sd kd
  show _ → _ → _ → _ → wpAny _ _ (Builtin.SmallTypes.ownedTupleIsFree (.ref e) >>= _) _ _ ⟨hc.push { cls := .type "tuple", data := .seq #[.int k tk, .ref hp.objs.size] }, gn, dr, tk + 1, os⟩
  generalize hc.push { cls := .type "tuple", data := .seq #[.int k tk, .ref hp.objs.size] } = hd
  rw [szc]
  intro ed td sd kd
  refine wpAny_bind ?_
  (unfold Builtin.SmallTypes.ownedTupleIsFree)
  refine (wpAny_bind (wpAny_field ed rfl (x := .none) rfl (wpAny_pure ?_)))
  simp only [if_true]
  refine (wpAny_bind (wpAny_rule (wpAny_bind (wpAny_field ed rfl (x := old) rfl (wpAny_bind (wpAny_setField_rec ed (by simp) fun hf ef sf => ?_))))))
  have ef' : IsEnum hf e z ((k : Int) + 1) (.ref hp.objs.size) := ef
  show wpAny _ _ (Builtin.SmallTypes.ownedTupleHandOut (.ref e) (.ref (hp.objs.size + 1)) >>= _) _ _ ⟨hf, gn, dr, tk + 1, os⟩
  refine wpAny_bind ?_
  (unfold Builtin.SmallTypes.ownedTupleHandOut)
  refine (wpAny_bind (wpAny_setField_rec ef' (by simp) fun hg eg sg => ?_))
  have eg' : IsEnumOut hg e z ((k : Int) + 1) (.ref hp.objs.size) (hp.objs.size + 1) := eg
  refine wpAny_setField_rec eg' (by simp) fun hh eh sh => ?_
  have eh' : IsEnumOut hh e z ((k : Int) + 1) (.ref hp.objs.size) (hp.objs.size + 1) := eh
  have kh : ∀ c o, c ≠ e → hd.get? c = some o → hh.get? c = some o := fun c o ce q => sh.extBut _ _ ce (sg.extBut _ _ ce (sf.extBut _ _ ce q))
  have kz : ∀ c o, c ≠ e → ha.get? c = some o → hh.get? c = some o := fun c o ce q => kh c o ce (kd c o ce q)
  exact wpAny_bind (wpAny_letGo (wpAny_pure ⟨_, rfl, wpAny_pure (hQ ha hh ⟨za, pa, sa, ka⟩ eh' (kh _ _ (Nat.ne_of_gt (Nat.lt_succ_of_lt eL)) td) kz)⟩))
theorem ez_out {e z TI TO i1 i2 l1 l2 : Addr} {k : Nat} {xs ys : Array Value} {old : Value} {Q : Option Value → Shared → Prop} (hh : A.handled = none) (D : ZipApart z TI TO i1 i2 l1 l2)
    (he : IsEnum s.heap e z ((k : Nat) : Int) old) (st : ZSt s.heap z TI TO i1 i2 l1 l2 k) (hl1 : s.heap.IsList l1 xs) (hl2 : s.heap.IsList l2 ys) (hx : xs[k]? = none)
    (hQ : ∀ h', (∀ c o, c ≠ z → c ≠ TO → c ≠ i1 → c ≠ i2 → s.heap.get? c = some o → h'.get? c = some o) → Q none { s with heap := h' }) :
      wpAny (model prog w) A
        (pyNext (.ref e)) Q E s := by
  have ty : s.TypeIs (.ref e) "enumerate" := ⟨_, he, rfl⟩
  unfold pyNext
  refine (wpAny_bind (wpAny_attempt (wpAny_callSpecial?_slot (name := Str.ofString "__next__") ty F.slot_enumerate_next (wpAny_call_entry F.slot_enumerate_next ty F.entry_enumerate_next ?_ (F.args_enumerate_next_1 _)))))
  show (wpAny _ _ (field (.ref e) 2 >>= _) _ _ _)
  refine (wpAny_bind (wpAny_field he rfl (x := .ref z) rfl (wpAny_bind (zip_out hh D st hl1 hl2 hx fun h' x kp ⟨o, ho, hc⟩ => ?_))))
  refine (wpAny_bind (wpAny_isInstance (T := "StopIteration") (b := true) ⟨o, ho, hc⟩ isSubtype_stop ?_))
  exact wpAny_pure (hQ _ kp)
end
/-- the pairs of the lists at a and b, with their numbers -/
def Itez (K : PySem.W.Frag) (a b : Addr) : It :=
  ⟨fun i H => ∃ xs ys : List V, ∃ x y : V, SqL K H a xs ∧ SqL K H b ys ∧ xs[i]? = some x ∧ ys[i]? = some y,
    fun i H v H' => ∃ T0 T x y, v = .ref T ∧ H T0 = none ∧ H T = none ∧ T ≠ T0 ∧ H' = upd (upd H T0 (.tup [x, y])) T (.tup [.int (i : Nat), .ref T0]) ∧ (∀ xs, SqL K H a xs → xs[i]? = some x) ∧ ∀ ys, SqL K H b ys → ys[i]? = some y,
    fun i H => ∃ xs ys : List V, SqL K H a xs ∧ SqL K H b ys ∧ xs.length ≤ i⟩
theorem turn_ez {P : Program} {w : World} {K : PySem.W.Frag} {elts : List Expr} {kk : Nat} {tpos : Pos} {a b e z TI TO i1 i2 : Addr} (D : ZipApart z TI TO i1 i2 a b) (ap : e ≠ z ∧ e ≠ TI ∧ e ≠ TO ∧ e ≠ i1 ∧ e ≠ i2) :
    Turn P w K (.Tuple elts kk tpos) (Itez K a b) [e, z, TI, TO, i1, i2] e (fun i h => (∃ old, IsEnum h e z ((i : Nat) : Int) old) ∧ ZSt h z TI TO i1 i2 a b i) where
  mem := List.mem_cons_self
  obj := fun i h st c hc => by
    obtain ⟨⟨old, he⟩, ⟨f, g, hz, _⟩, h1, ⟨x, y, h2⟩, ⟨o1, e1, _, d1⟩, ⟨o2, e2, _, d2⟩⟩ := st
    simp only [List.mem_cons, List.not_mem_nil, or_false] at hc
    rcases hc with rfl | rfl | rfl | rfl | rfl | rfl
    · exact ⟨_, he, nofun⟩
    · exact ⟨_, hz, nofun⟩
    · exact ⟨_, h1, nofun⟩
    · exact ⟨_, h2, nofun⟩
    · exact ⟨o1, e1, fun v q => by rw [d1] at q; cases q⟩
    · exact ⟨o2, e2, fun v q => by rw [d2] at q; cases q⟩
  keep := fun i h h' st k => by
    obtain ⟨⟨old, he⟩, ⟨f, g, hz, hf⟩, h1, ⟨x, y, h2⟩, h3, h4⟩ := st
    exact ⟨⟨old, k _ (by simp) _ he⟩, ⟨f, g, k _ (by simp) _ hz, hf⟩, k _ (by simp) _ h1, ⟨x, y, k _ (by simp) _ h2⟩, h3.at fun o q => k _ (by simp) o q, h4.at fun o q => k _ (by simp) o q⟩
  item := by
    intro X eP ew eK hc i pins s σ H E I hf st hg
    subst eP ew eK
    obtain ⟨⟨old, he⟩, zs⟩ := st
    obtain ⟨xs, ys, x, y, qx, qy, hx, hy⟩ := hg
    obtain ⟨us, rv, p, _⟩ := I.list qx
    obtain ⟨vs, rv2, p2, _⟩ := I.list qy
    obtain ⟨u, hu, ru⟩ := (rv.get hx)
    obtain ⟨v, hv, ru2⟩ := rv2.get hy
    have eL : e < s.heap.objs.size := Heap.lt_size he
    refine ez_next D ap he zs p.isList p2.isList (x := u) (y := v) (by simpa using hu) (by simpa using hv) fun h1 h' zn eo to k2 => ?_
    obtain ⟨z1, pr, sz, k1⟩ := zn
    refine ⟨_, rfl, wpAny_letOwnedTupleGo_enum (s := { s with heap := h', toks := s.toks + 1 }) eo fun h2 e2 sb => ?_⟩
    have new1 : ObjOk X.prog X.w (upd H s.heap.objs.size (.tup [x, y])) h1 s.heap.objs.size (.tup [x, y]) := ⟨by show 2 ≤ sizeLine; decide, [u, v], .cons ru (.cons ru2 .nil), ⟨_, pr, rfl, _, rfl⟩⟩
    have I1 : Inv X pins σ (upd H s.heap.objs.size (.tup [x, y])) { s with heap := h1 } := I.turnedNew (t' := s.toks) (ch := [z, TO, i1, i2]) (fun c o hb q => k1 c o (fun q' => hb (by simp [q'])) (fun q' => hb (by simp [q'])) (fun q' => hb (by simp [q'])) (fun q' => hb (by simp [q'])) q) (fun c hc => hf c (by
      simp only [List.mem_cons, List.not_mem_nil, or_false] at hc
      rcases hc with rfl | rfl | rfl | rfl <;> simp)) (Nat.le_refl _) new1
    have kk : ∀ c o, c ≠ e → h1.get? c = some o → h2.get? c = some o := fun c o ce q => (sb.2 c ce).trans (k2 c o ce q)
    have t2 : h2.get? (s.heap.objs.size + 1) = some { cls := .type "tuple", data := .seq #[.int i s.toks, .ref s.heap.objs.size] } := (sb.2 _ (Nat.ne_of_gt (Nat.lt_succ_of_lt eL))).trans to
    have new2 : ObjOk X.prog X.w (upd (upd H s.heap.objs.size (.tup [x, y])) (s.heap.objs.size + 1) (.tup [.int (i : Nat), .ref s.heap.objs.size])) h2 (s.heap.objs.size + 1) (.tup [.int (i : Nat), .ref s.heap.objs.size]) :=
      ⟨by show 2 ≤ sizeLine; decide, [.int i s.toks, .ref s.heap.objs.size], .cons ⟨_, rfl⟩ (.cons rfl .nil), ⟨_, t2, rfl, _, rfl⟩⟩
    have fe := hf e (by simp)
    have I2 : Inv X pins σ (upd (upd H s.heap.objs.size (.tup [x, y])) (s.heap.objs.size + 1) (.tup [.int (i : Nat), .ref s.heap.objs.size])) { s with heap := h2, toks := s.toks + 1 } :=
      I1.turnedNew (ch := [e]) (fun c o hb q => kk c o (fun q' => hb (by simp [q'])) q) (fun c hc => by
        rw [List.mem_singleton.mp hc]
        exact ⟨by rw [upd_ne (Nat.ne_of_lt eL)]; exact fe.1, fe.2⟩) (by show h1.objs.size ≤ _; rw [sz]; exact Nat.le_refl _) new2
    refine ⟨.ref (s.heap.objs.size + 1), _, I2, rfl, ⟨_, _, x, y, rfl, I.hok.fresh (Nat.le_refl _), I.hok.fresh (Nat.le_succ _), Nat.succ_ne_self _, rfl, fun l hl => by rw [I.list_inj hl qx]; exact hx, fun l hl => by rw [I.list_inj hl qy]; exact hy⟩, ⟨⟨.ref s.heap.objs.size, ?_⟩, ?_⟩, fun c hc => ?_⟩
    · rw [show ((i + 1 : Nat) : Int) = (i : Int) + 1 by omega]
      exact e2
    · obtain ⟨⟨f, g, q, r⟩, q2, ⟨u', v', q3⟩, q4, q5⟩ := z1
      exact ⟨⟨f, g, kk _ _ (Ne.symm ap.1) q, r⟩, kk _ _ (Ne.symm ap.2.1) q2, ⟨u', v', kk _ _ (Ne.symm ap.2.2.1) q3⟩, q4.at fun o p => kk _ o (Ne.symm ap.2.2.2.1) p, q5.at fun o p => kk _ o (Ne.symm ap.2.2.2.2) p⟩
    · have cn := (hf c hc).1
      have cl : c < s.heap.objs.size := by
        obtain ⟨⟨f, g, q, r⟩, q2, ⟨u', v', q3⟩, ⟨o4, q4, _⟩, ⟨o5, q5, _⟩⟩ := zs
        simp only [List.mem_cons, List.not_mem_nil, or_false] at hc
        rcases hc with rfl | rfl | rfl | rfl | rfl | rfl
        · exact eL
        · exact Heap.lt_size q
        · exact Heap.lt_size q2
        · exact Heap.lt_size q3
        · exact Heap.lt_size q4
        · exact Heap.lt_size q5
      rw [upd_ne (Nat.ne_of_lt (Nat.lt_succ_of_lt cl)), upd_ne (Nat.ne_of_lt cl)]
      exact cn
  done := by
    intro X eP ew eK hc i pins s σ H E I hf st hg
    subst eP ew eK
    obtain ⟨⟨old, he⟩, zs⟩ := st
    obtain ⟨xs, ys, qx, qy, hend⟩ := hg
    obtain ⟨us, rv, p, _⟩ := I.list qx
    obtain ⟨vs, rv2, p2, _⟩ := I.list qy
    have l1 := rv.length
    refine ez_out (I.ok.hd hc) D he zs p.isList p2.isList (by simp; omega) fun h' kp => ⟨rfl, I.turnedL (t' := s.toks) (ch := [z, TO, i1, i2]) (fun c o hb q => kp c o (fun q' => hb (by simp [q'])) (fun q' => hb (by simp [q'])) (fun q' => hb (by simp [q'])) (fun q' => hb (by simp [q'])) q) fun c hc => hf c (by
      simp only [List.mem_cons, List.not_mem_nil, or_false] at hc
      rcases hc with rfl | rfl | rfl | rfl <;> simp)⟩
  self := fun A i s Q E zst h => by
    obtain ⟨⟨_, he⟩, _⟩ := zst
    exact wpAny_pyIter_enum he h
/-- enumerate of a zip -/
theorem meets_enum_zip (z TI TO : Addr) : Meets (Builtin.«enumerate.__new__» ⟨[.type "enumerate", .ref z], []⟩) (fun _ R s => IsZip s.heap z TI TO .none ∧
    R (.ok (.ret (.ref s.heap.objs.size))) { s with heap := s.heap.push { cls := .type "enumerate", data := .fields #[.none, .bool false, .ref z, rawInt 0, .none, .none] } }) :=
  .of_wp fun prog w A R s0 hR => by
    obtain ⟨hp, g, d, tk, os⟩ := (s0)
    obtain ⟨h1, h⟩ := (hR)
    have hsub := sub_enumerate
    have pz : ∀ {A : Around} {Q : Value → Shared → Prop} {E : Value → Shared → Prop}, Q (.ref z) ⟨hp, g, d, tk, os⟩ → wpAny (model prog w) A (pyIter (.ref z)) Q E ⟨hp, g, d, tk, os⟩ := fun q => wpAny_pyIter_zip h1 q
    wp_walk
    refine (wpAny_stack_any fun st => wpAny_pure ?_)
    split
    · rename_i c _ _ _ _ _
      cases ((c == Value.type "enumerate"))
      · wp_walk using pz
        exact ⟨_, rfl, h⟩
      · wp_walk using pz
        exact ⟨_, rfl, h⟩
    · wp_walk using pz
      exact ⟨_, rfl, h⟩
def iEz (K : PySem.W.Frag) (ta : TA) : TI := fun σ H R => ta σ H fun vs H1 => ∃ (a b : Addr) (xs ys : List V), vs = [.ref a, .ref b] ∧ SqL K H1 a xs ∧ SqL K H1 b ys ∧ R (Itez K a b) H1
theorem pi_ez {X : Cx} {a b : Expr} {ta : TA} {p cpos kpos pos tpos : Pos} {elts : List Expr} {kk : Nat} (hg : Gl X "enumerate") (hm : X.mg "enumerate" = none) (hg2 : Gl X "zip") (hm2 : X.mg "zip" = none) (ha : PA X [a, b] ta)
    (hs : starEach [a, b] X.env = (false, eval a X.env) :: starEach [b] X.env := by rfl) (hpl : (backTo cpos (starEach [b] X.env)).any (fun x => x.1) = false := by rfl)
    (na : starEach [.Call (.Name "zip" p) [a, b] [] cpos] X.env = (false, eval (.Call (.Name "zip" p) [a, b] [] cpos) X.env) :: starEach [] X.env := by rfl) :
    PI X (.Tuple elts kk tpos) (.Call (.Name "enumerate" kpos) [.Call (.Name "zip" p) [a, b] [] cpos] [] pos) (iEz X.K ta) := by
  refine (⟨fun pins s σ H R I h => ?_⟩)
  have zz : wpAny (model X.prog X.w) X.A (eval (.Call (.Name "zip" p) [a, b] [] cpos) X.env) (fun x s' => ∃ (s1 : Shared) (H1 : Hp) (h' : Heap) (la lb : Addr) (xs ys : List V), x = .ref (s1.heap.objs.size + 4) ∧ s' = { s1 with heap := h' } ∧ Inv X pins σ H1 s1 ∧ SqL X.K H1 la xs ∧ SqL X.K H1 lb ys ∧ R (Itez X.K la lb) H1 ∧
      IsZip h' (s1.heap.objs.size + 4) (s1.heap.objs.size + 2) (s1.heap.objs.size + 3) .none ∧ IsPair h' (s1.heap.objs.size + 2) (.ref s1.heap.objs.size) (.ref (s1.heap.objs.size + 1)) ∧ IsPair h' (s1.heap.objs.size + 3) .none .none ∧ h'.IsListIter s1.heap.objs.size la 0 ∧ h'.IsListIter (s1.heap.objs.size + 1) lb 0 ∧ h'.objs.size = s1.heap.objs.size + 5 ∧ ∀ c o, s1.heap.get? c = some o → h'.get? c = some o) X.xe s := by
    refine Call_ (ld_blt I hg2 hm2 PyProof.Rows.boot_zip (PyProof.Rows.callWith_type1 (thn (ha.run cpos pins s σ H _ I h) fun us s1 ⟨vs, H1, I1, r1, q1⟩ => ?_) hs hpl))
    obtain ⟨la, lb, xs, ys, ex, hqx, hqy, q⟩ := q1
    subst ex
    cases r1 with
    | cons r rr =>
      cases rr with
      | cons r' rr =>
        cases rr
        cases r
        cases r'
        obtain ⟨its, rv, p1, _⟩ := (I1.list hqx)
        obtain ⟨its2, rv2, p2, _⟩ := (I1.list hqy)
        exact call_zip_2 p1.isList p2.isList fun h' z1 z2 z3 z4 z5 z6 z7 => ⟨s1, H1, h', la, lb, xs, ys, rfl, rfl, I1, hqx, hqy, q, z1, z2, z3, z4, z5, z6, z7⟩
  refine Call_ (ld_blt I hg hm boot_enumerate (PyProof.Rows.callWith_type1 (args_cons (thn zz fun x s' hz => args_nil ?_) na) na))
  obtain ⟨s1, H1, h', la, lb, xs, ys, ex, es, I1, hqx, hqy, q, z1, z2, z3, z4, z5, z6, z7⟩ := hz
  subst ex es
  obtain ⟨its, rv, p1, _⟩ := (I1.list hqx)
  obtain ⟨its2, rv2, p2, _⟩ := (I1.list hqy)
  have D : ZipApart (s1.heap.objs.size + 4) (s1.heap.objs.size + 2) (s1.heap.objs.size + 3) s1.heap.objs.size (s1.heap.objs.size + 1) la lb := PySem.W.ktu_apart s1.heap.objs.size la lb p1.lt p2.lt
  refine callType_new F.called_enumerate (by decide) (F.typeCall_enumerate_1 _) (F.newCall_enumerate_1 _) (fun obj => F.args_object_init_2 obj _) F.entry_enumerate_new (meets_enum_zip _ _ _) ⟨z1, ?_⟩
  have he : IsEnum (h'.push { cls := .type "enumerate", data := .fields #[.none, .bool false, .ref (s1.heap.objs.size + 4), rawInt 0, .none, .none] }) h'.objs.size (s1.heap.objs.size + 4) ((0 : Nat) : Int) .none := Heap.get?_push_size _ rfl
  have kp : ∀ c o, h'.get? c = some o → (h'.push { cls := .type "enumerate", data := .fields #[.none, .bool false, .ref (s1.heap.objs.size + 4), rawInt 0, .none, .none] }).get? c = some o := fun c o e => Heap.get?_push_of_some _ e
  refine ⟨⟨_, he, rfl⟩, wpAny_pyIter_enum he ?_⟩
  have I2 : Inv X pins σ H1 { s1 with heap := h'.push { cls := .type "enumerate", data := .fields #[.none, .bool false, .ref (s1.heap.objs.size + 4), rawInt 0, .none, .none] } } := I1.kept (t' := s1.toks) fun c o e => kp c o (z7 c o e)
  have ap : h'.objs.size ≠ s1.heap.objs.size + 4 ∧ h'.objs.size ≠ s1.heap.objs.size + 2 ∧ h'.objs.size ≠ s1.heap.objs.size + 3 ∧ h'.objs.size ≠ s1.heap.objs.size ∧ h'.objs.size ≠ s1.heap.objs.size + 1 := by
    rw [z6]
    refine ⟨?_, ?_, ?_, ?_, ?_⟩ <;> omega
  refine ⟨h'.objs.size, [h'.objs.size, s1.heap.objs.size + 4, s1.heap.objs.size + 2, s1.heap.objs.size + 3, s1.heap.objs.size, s1.heap.objs.size + 1], _, _, H1, rfl, I2, turn_ez D ap, ⟨⟨.none, he⟩, ⟨_, _, kp _ _ z1, .inl ⟨rfl, rfl⟩⟩, kp _ _ z2, ⟨_, _, kp _ _ z3⟩, z4.at fun o e => kp _ o e, z5.at fun o e => kp _ o e⟩, fun c hc => ?_, q⟩
  have big : s1.heap.objs.size ≤ c := by
    simp only [List.mem_cons, List.not_mem_nil, or_false] at hc
    rcases hc with rfl | rfl | rfl | rfl | rfl | rfl <;> omega
  exact (I1.fpOk big (I1.hok.fresh big))
end Rg
set_option Elab.async false
set_option linter.all false
set_option maxRecDepth 100000
/-! [elt for k, (x, y) in enumerate(zip(a, b))] -/
namespace Rg
open PySem PySem.Spec
open PyProof.Rows L2
abbrev gNest (K : PySem.W.Frag) (i j l : Nat) : TG := gTup K 2 (gCons (gName i) (gCons (gTup K 2 (gCons (gName j) (gCons (gName l) gNil))) gNil))
section
variable {X : Cx} {ρ : Ro} {cs : Cs} {a b elt : Expr} {PN : List D → Cs → Prop} {E : En} {B : Nat} {pos p kpos cpos px py pz tp tp2 spos qy : Pos} {x y z nm : Str} {scope : Scope} {kt kt2 : Nat}
theorem nest_go {K : PySem.W.Frag} {i j l k : Nat} {as hs : List Addr} {σ : L2.St} {H : Hp} {T0 T : Addr} {v1 v2 : V} {d1 d2 : D} {Q : L2.St → Hp → Prop} (f : Fit as hs ρ cs σ H) (n0 : H T0 = none) (n : H T = none) (ne : T ≠ T0) (r1 : Rep as hs H d1 v1) (r2 : Rep as hs H d2 v2)
    (kk : ∀ σ' H', σ' = ((σ.set i (some (.int (k : Nat)))).set j (some v1)).set l (some v2) → Grow as as H H' → Fit as hs (((ρ.set i (some (.int (k : Nat)))).set j (some d1)).set l (some d2)) cs σ' H' → Q σ' H') :
    gNest K i j l (.ref T) σ (upd (upd H T0 (.tup [v1, v2])) T (.tup [.int (k : Nat), .ref T0])) Q := by
  have n2 : upd H T0 (.tup [v1, v2]) T = none := by rw [upd_ne ne]; exact n
  have g1 : Grow as as H (upd H T0 (.tup [v1, v2])) := Grow.laid n0
  have g2 : Grow as as (upd H T0 (.tup [v1, v2])) (upd (upd H T0 (.tup [v1, v2])) T (.tup [.int (k : Nat), .ref T0])) := Grow.laid n2
  have c1 := f.cells.laid (o := .tup [v1, v2]) n0
  have fz := f.grow (g1.trans g2) (c1.laid (o := .tup [.int (k : Nat), .ref T0]) n2)
  have h0 : upd (upd H T0 (.tup [v1, v2])) T (.tup [.int (k : Nat), .ref T0]) T0 = some (.tup [v1, v2]) := by rw [upd_ne (Ne.symm ne)]; exact upd_same
  exact ⟨T, _, rfl, .inl (.inl upd_same), rfl, _, _, rfl, _, _, rfl, T0, _, rfl, .inl (.inl h0), rfl, _, _, rfl, _, _, rfl, rfl, rfl, kk _ _ rfl (g1.trans g2) (((fz.set i .int).set j (r1.grow (g1.trans g2))).set l (r2.grow (g1.trans g2)))⟩
theorem wipe3 {i j l : Nat} {σ : L2.St} {u v w : Option V} (hij : i ≠ j) (hil : i ≠ l) (hjl : j ≠ l) : wipe ((((wipe σ [i, j, l]).set i u).set j v).set l w) [i, j, l] = wipe σ [i, j, l] := by
  show List.set (List.set (List.set ((((List.set (List.set (List.set σ l none) j none) i none).set i u).set j v).set l w) l none) j none) i none = List.set (List.set (List.set σ l none) j none) i none
  rw [List.set_set, List.set_set, List.set_comm _ _ (Ne.symm hjl), List.set_set, List.set_comm _ _ hjl, List.set_comm _ _ (Ne.symm hij), List.set_comm _ _ (Ne.symm hil), List.set_set, List.set_comm _ _ hil, List.set_comm _ _ hij]
  simp [List.set_comm _ _ hij, List.set_comm _ _ hil, List.set_comm _ _ hjl, List.set_set]
/-- what the comprehension asks -/
def LcEZ (X : Cx) (elt : Expr) (i j l : Nat) (scope : Scope) (T : Ro → Cs → (Bool → Cs → Prop) → Prop) (ρ : Ro) (cs1 : Cs) (ds : List D) (PN : List D → Cs → Prop) : Prop := ∃ (d1 d2 : D) (xs ys : List D) (I : Nat → List D → Cs → Prop), ds = [d1, d2] ∧ xs.length ≤ ys.length ∧ I 0 [] cs1 ∧
  (∀ k acc cs', I k acc cs' → LstD cs' d1 xs ∧ LstD cs' d2 ys ∧ acc.length < 100000) ∧
  (∀ k x y acc cs', xs[k]? = some x → ys[k]? = some y → I k acc cs' → T ((((wipeD ρ [i, j, l]).set i (some (.int (k : Nat)))).set j (some x)).set l (some y)) cs' fun t cs2 => if t = true then Blk X scope fun Y => W Y elt ((((wipeD ρ [i, j, l]).set i (some (.int (k : Nat)))).set j (some x)).set l (some y)) cs2 fun y cs3 => I (k + 1) (acc ++ [y]) cs3 else I (k + 1) acc cs2) ∧
  (∀ acc cs', I xs.length acc cs' → PN acc cs')
theorem lcez_reads {i j l : Nat} (hij : i ≠ j) (hil : i ≠ l) (hjl : j ≠ l) {T : Ro → Cs → (Bool → Cs → Prop) → Prop} {as hs : List Addr} {σ : L2.St} {H0 : Hp} {Q : VK} (f : Fit as hs ρ cs σ H0) (q : FinN as hs H0 PN Q) :
    tLc (iEz X.K (tDA ρ cs fun ds cs1 => LcEZ X elt i j l scope T ρ cs1 ds PN)) (gNest X.K i j l) (tTst T) (tElt X elt scope) [i, j, l] σ H0 Q := by
  refine subA f fun vs H1 as1 ds cs1 g1 f1 r1 ⟨d1, d2, xs, ys, I, ed, hlen, i0, hl, step, done⟩ => ?_
  subst ed
  cases r1 with
  | @cons _ _ v1 _ r1 t =>
    cases t with
    | @cons _ _ v2 _ r2 t =>
      cases t
      obtain ⟨h1, h2, _⟩ := hl 0 [] cs1 i0
      obtain ⟨a, us, ev, hr, rl⟩ := h1.rep f1.cells r1
      obtain ⟨b, ws, ew, hr', rl'⟩ := h2.rep f1.cells r2
      subst ev ew
      refine ⟨a, b, us, ws, rfl, .inl hr, .inl hr', lc_loop (n := xs.length) I (fun k => match xs[k]?, ys[k]? with | some x, some y => (((wipeD ρ [i, j, l]).set i (some (.int (k : Nat)))).set j (some x)).set l (some y) | _, _ => ρ) f1 i0 ?_ ?_ (fun k acc cs' z => (hl k acc cs' z).2.2) ?_⟩
      · intro Dd nD k as' cs' acc H hk g f' ik
        obtain ⟨l1, l2, _⟩ := hl k acc cs' ik
        obtain ⟨a2, us2, e2, hr2, rl2⟩ := l1.rep f'.cells ((r1.hide nD).grow g)
        obtain ⟨b2, ws2, e3, hr3, rl3⟩ := l2.rep f'.cells ((r2.hide nD).grow g)
        cases e2; cases e3
        refine ⟨fun e => ⟨us2, ws2, .inl hr2, .inl hr3, by rw [← rl2.length, e]; exact Nat.le_refl _⟩, fun hlt => ⟨⟨us2, ws2, us2[k]'(by rw [← rl2.length]; omega), ws2[k]'(by rw [← rl3.length]; omega), .inl hr2, .inl hr3, by simp, by simp⟩, fun v H' yy Q' kk => ?_⟩⟩
        obtain ⟨T0, Tt, v1, v2, rfl, n0, nT, ne, rfl, y1, y2⟩ := yy
        obtain ⟨x', hx', rx'⟩ := rl2.get' (y1 us2 (.inl hr2))
        obtain ⟨y', hy', ry'⟩ := rl3.get' (y2 ws2 (.inl hr3))
        refine nest_go f' n0 nT ne rx' ry' fun σ' H' es gg ff => kk _ _ (by rw [es]; exact wipe3 hij hil hjl) gg ?_
        rw [hx', hy']; exact ff
      · intro k acc cs' as' hs' σ2 H2 Q' Qn hlt ik f2 k1 k2
        have hx : xs[k]? = some (xs[k]'(by omega)) := List.getElem?_eq_getElem (by omega)
        have hy : ys[k]? = some (ys[k]'(by omega)) := List.getElem?_eq_getElem (by omega)
        rw [hx, hy] at f2
        refine ⟨_, cs', _, step k _ _ acc cs' hx hy ik, as', hs', f2, fun b H3 as3 cs3 g3 c3 p3 => ?_⟩
        cases b with
        | true =>
          rw [if_pos rfl] at p3 ⊢
          exact ⟨_, cs3, _, p3, as3, hs', f2.grow g3 c3, fun y H4 as4 d4 cs4 g4 c4 r4 p4 => k1 y H4 as4 d4 cs4 (g3.trans g4) c4 r4 p4⟩
        | false =>
          rw [if_neg Bool.false_ne_true] at p3 ⊢
          exact k2 H3 as3 cs3 g3 c3 p3
      · intro p H1' as' ds vs cs' g c n r hp
        exact q p H1' as' ds vs cs' (g1.trans g) c n r (done ds cs' hp)
abbrev PgN (X : Cx) (scope : Scope) (x y z : Str) (px py pz tp tp2 : Pos) (kt kt2 i j l : Nat) : Prop := ∀ (s : Shared) (H : Hp) (C : Addr) (cl : List (Str × Addr)) (fp : List Addr), PG (X.blk s H scope (compEnvC scope cl C X.env) fp) (.Tuple [.Name x px, .Tuple [.Name y py, .Name z pz] kt2 tp2] kt tp) (gNest X.K i j l)
/-- name = [elt for k, (x, y) in enumerate(zip(a, b))] -/
theorem ws_lez (cell : Bool) (iy : Nat) (i j l : Nat) (hij : i ≠ j) (hil : i ≠ l) (hjl : j ≠ l) (hc : X.calm = true) (hN : X.N.Nodup) (hm : X.mg "enumerate" = none) (hm2 : X.mg "zip" = none)
    (hsw : swapsWith (.ListComp elt [⟨.Tuple [.Name x px, .Tuple [.Name y py, .Name z pz] kt2 tp2] kt tp, .Call (.Name "enumerate" kpos) [.Call (.Name "zip" p) [a, b] [] cpos] [] pos, [], 0⟩] scope spos) (some (.Name nm qy)) pz.line X.env = pure true)
    (ok : BlkOk X.N X.env.scope scope [(x, i), (y, j), (z, l)]) (hg : PgN X scope x y z px py pz tp tp2 kt kt2 i j l) (h : WA X [a, b] ρ cs fun ds cs1 => LcEZ X elt i j l scope TNo ρ cs1 ds (asN E ρ iy cell)) (hy : X.N[iy]? = some nm := by rfl) (hyl : X.env.scope.names.lookup nm = some .local := by rfl)
    (hgl : Gl X "enumerate" := by rfl) (hgl2 : Gl X "zip" := by rfl) (hse : starEach [a, b] X.env = (false, eval a X.env) :: starEach [b] X.env := by rfl) (hpl : (backTo cpos (starEach [b] X.env)).any (fun x => x.1) = false := by rfl)
    (na : starEach [.Call (.Name "zip" p) [a, b] [] cpos] X.env = (false, eval (.Call (.Name "zip" p) [a, b] [] cpos) X.env) :: starEach [] X.env := by rfl)
    (hs : ∀ x, foldedSetIterable (.Call (.Name "enumerate" kpos) [.Call (.Name "zip" p) [a, b] [] cpos] [] pos) X.env x = pure x := by intro _; rfl) {apos : Pos} (hal : apos.line = pz.line := by rfl) :
    WS X B (.Assign [.Name nm qy] (.ListComp elt [⟨.Tuple [.Name x px, .Tuple [.Name y py, .Name z pz] kt2 tp2] kt tp, .Call (.Name "enumerate" kpos) [.Call (.Name "zip" p) [a, b] [] cpos] [] pos, [], 0⟩] scope spos) apos) E ρ cs :=
  ws_of (ps_setLc hc hN hy hyl (by rw [hal]; exact hsw) (pi_ez hgl hm hgl2 hm2 h hse hpl na) ok hg (fun s H C cl fp => pts_no) pe_elt hs) fun as hs σ H DD hB f q => setN hB f q cell fun Q k => lcez_reads hij hil hjl f k
end
end Rg
set_option Elab.async false
set_option linter.all false
set_option maxRecDepth 100000
/-! math.comb; dict of pairs with ints as keys; [elt for k, x in enumerate(e)]; a dict that is begun beside a list -/
namespace Rg
open PySem PySem.Spec
open PyProof.Rows L2
section
variable {X : Cx} {ρ : Ro} {cs : Cs} {e a b c o elt ky ky2 kz : Expr} {P : PD} {PN : List D → Cs → Prop} {E : En} {B : Nat} {pos p apos cpos kpos pos' px py pz tp : Pos} {x y n : Str} {scope : Scope} {kt : Nat}
theorem cr_comb : CallR X (.builtin "math.comb") fun vs H Q => ∃ a b : Int, vs = [.int a, .int b] ∧ 0 ≤ a ∧ a ≤ 100 ∧ 0 ≤ b ∧ Q (.int (PySem.W.mcComb a b)) H := by
  intro pins s σ H vs us Q J r h
  obtain ⟨a, b, rfl, h0, h1, h2, q⟩ := h
  cases r with
  | cons r t =>
    cases t with
    | cons r2 t =>
      cases t
      obtain ⟨t1, rfl⟩ := r
      obtain ⟨t2, rfl⟩ := r2
      exact PySem.W.mc_comb_v h0 h2 (by omega) (.inr (by omega)) rfl ⟨.int _, H, J.tok _, ⟨_, rfl⟩, q⟩
theorem w_comb {x : Str} (hm : X.mg x = some (.builtin "math.comb")) (h : WA X [a, b] ρ cs fun ds cs1 => ∃ i j : Int, ds = [.int i, .int j] ∧ 0 ≤ i ∧ i ≤ 100 ∧ 0 ≤ j ∧ P (.int (PySem.W.mcComb i j)) cs1) (hg : Gl X x := by rfl) (hdb : (x == ("__debug__" : Str)) = false := by decide)
    (he : starEach [a, b] X.env = (false, eval a X.env) :: starEach [b] X.env := by rfl) (hpl : (backTo pos (starEach [b] X.env)).any (·.1) = false := by rfl) : W X (.Call (.Name x p) [a, b] [] pos) ρ cs P :=
  w_of (pe_callBfun cr_comb hg hm h hdb he hpl) fun as hs σ H Q f q => subA f fun vs H1 as1 ds cs1 g1 f1 r1 ⟨i, j, ed, h0, h1, h2, hp⟩ => by
    subst ed
    cases r1 with
    | cons r t =>
      cases t with
      | cons r2 t =>
        cases t
        cases r
        cases r2
        exact ⟨i, j, rfl, h0, h1, h2, q _ _ _ _ _ g1 f1.cells .int hp⟩
/-- a pair of an int and a value -/
abbrev ipD (q : Int × D) : D := .tup [.int q.1, q.2]
theorem pairs_ip {K : PySem.W.Frag} {as hs : List Addr} {H : Hp} : ∀ {qs : List (Int × D)} {us : List V}, RepL as hs H (qs.map ipD) us → ∃ (ps : List Addr) (vs : List V), us = ps.map V.ref ∧ RepL as hs H (qs.map (·.2)) vs ∧ Paired (fun p (kv : Key × V) => SqT K H p [kV kv.1, kv.2]) ps ((qs.map fun q => (Sum.inl q.1 : Key)).zip vs)
  | [], _, r => by
    cases r
    exact ⟨[], [], rfl, .nil, .nil⟩
  | q :: qs, _, r => by
    cases r with
    | cons r t =>
      obtain ⟨ps, vs, e1, e2, e3⟩ := pairs_ip t
      cases r with
      | @tup pa _ ws n1 n2 hH l =>
        cases l with
        | cons ra l =>
          cases l with
          | cons rb l =>
            cases l
            cases ra
            exact ⟨pa :: ps, _ :: vs, by rw [e1]; rfl, .cons rb e2, .cons (.inl (.inl hH)) e3⟩
/-- dict(pairs), the keys ints -/
theorem w_dictI (hc : X.calm = true) (hm : X.mg "dict" = none) (h : WA X [e] ρ cs fun ds cs1 => ∃ d, ∃ qs : List (Int × D), ds = [d] ∧ LstD cs1 d (qs.map ipD) ∧ (qs.map (·.1)).Nodup ∧ P (.dct (qs.map fun q => .inl q.1) (qs.map (·.2))) cs1) (hg : Gl X "dict" := by rfl)
    (he : starEach [e] X.env = (false, eval e X.env) :: starEach [] X.env := by rfl) : W X (.Call (.Name "dict" p) [e] [] pos) ρ cs P := by
  refine w_bt (g := fun ds cs1 P => ∃ d, ∃ qs : List (Int × D), ds = [d] ∧ LstD cs1 d (qs.map ipD) ∧ (qs.map (·.1)).Nodup ∧ P (.dct (qs.map fun q => .inl q.1) (qs.map (·.2))) cs1) (call_dictP hc) ?_ hm (by decide +kernel) h hg (he := he)
  rintro as hs H vs ds cs P Q c r ⟨d, qs, rfl, hl, nd, hp⟩ q
  cases r with
  | cons r t =>
    cases t
    obtain ⟨a, us, rfl, hr, rl⟩ := hl.rep c r
    obtain ⟨ps, ws, rfl, e3, e4⟩ := pairs_ip (K := X.K) rl
    have hw := e3.length
    rw [List.length_map] at hw
    refine ⟨a, ps, _, rfl, .inl hr, e4, fun p np => ?_⟩
    have nd2 : (qs.map fun q => (Sum.inl q.1 : Key)).Nodup := by
      have := List.Pairwise.map (S := fun (u v : Key) => u ≠ v) (Sum.inl : Int → Key) (fun a b h z => h (Sum.inl.inj z)) nd
      rwa [List.map_map] at this
    rw [merge_zip nd2 (by rw [List.length_map]; exact hw)]
    exact q _ _ as _ cs (Grow.laid np) (c.laid np) (.dct (c.fresh np).1 (c.fresh np).2 upd_same (by rw [List.length_map, List.length_map]) (e3.grow (Grow.laid np))) hp
/-- what a comprehension over enumerate(e) asks -/
def LcE (X : Cx) (elt : Expr) (i j : Nat) (scope : Scope) (T : Ro → Cs → (Bool → Cs → Prop) → Prop) (ρ : Ro) (cs1 : Cs) (ds : List D) (PN : List D → Cs → Prop) : Prop := ∃ (d1 : D) (xs : List D) (I : Nat → List D → Cs → Prop), ds = [d1] ∧ I 0 [] cs1 ∧
  (∀ k acc cs', I k acc cs' → LstD cs' d1 xs ∧ acc.length < 100000) ∧
  (∀ k x acc cs', xs[k]? = some x → I k acc cs' → T (((wipeD ρ [i, j]).set i (some (.int (k : Nat)))).set j (some x)) cs' fun t cs2 => if t = true then Blk X scope fun Y => W Y elt (((wipeD ρ [i, j]).set i (some (.int (k : Nat)))).set j (some x)) cs2 fun y cs3 => I (k + 1) (acc ++ [y]) cs3 else I (k + 1) acc cs2) ∧
  (∀ acc cs', I xs.length acc cs' → PN acc cs')
theorem lce_reads {i j : Nat} (hij : i ≠ j) {T : Ro → Cs → (Bool → Cs → Prop) → Prop} {as hs : List Addr} {σ : L2.St} {H0 : Hp} {Q : VK} (f : Fit as hs ρ cs σ H0) (q : FinN as hs H0 PN Q) :
    tLc (iEnum X.K (tDA ρ cs fun ds cs1 => LcE X elt i j scope T ρ cs1 ds PN)) (gPair X.K i j) (tTst T) (tElt X elt scope) [i, j] σ H0 Q := by
  refine subA f fun vs H1 as1 ds cs1 g1 f1 r1 ⟨d1, xs, I, ed, i0, hl, step, done⟩ => ?_
  subst ed
  cases r1 with
  | @cons _ _ v1 _ r1 t =>
    cases t
    obtain ⟨h1, _⟩ := hl 0 [] cs1 i0
    obtain ⟨a, us, ev, hr, rl⟩ := h1.rep f1.cells r1
    subst ev
    refine ⟨a, us, rfl, .inl hr, lc_loop (n := xs.length) I (fun k => match xs[k]? with | some x => ((wipeD ρ [i, j]).set i (some (.int (k : Nat)))).set j (some x) | _ => ρ) f1 i0 ?_ ?_ (fun k acc cs' z => (hl k acc cs' z).2) ?_⟩
    · intro Dd nD k as' cs' acc H hk g f' ik
      obtain ⟨l1, _⟩ := hl k acc cs' ik
      obtain ⟨a2, us2, e2, hr2, rl2⟩ := l1.rep f'.cells ((r1.hide nD).grow g)
      cases e2
      refine ⟨fun e => ⟨us2, .inl hr2, by rw [← rl2.length, e]; exact Nat.le_refl _⟩, fun hlt => ⟨⟨us2, us2[k]'(by rw [← rl2.length]; omega), .inl hr2, by simp⟩, fun v H' yy Q' kk => ?_⟩⟩
      obtain ⟨Tt, v1, rfl, nT, rfl, y1⟩ := yy
      obtain ⟨x', hx', rx'⟩ := rl2.get' (y1 us2 (.inl hr2))
      refine pair_go (d1 := .int (k : Nat)) (d2 := x') f' nT .int rx' fun gg ff => kk _ _ (wipe2 hij) gg ?_
      rw [hx']; exact ff
    · intro k acc cs' as' hs' σ2 H2 Q' Qn hlt ik f2 k1 k2
      have hx : xs[k]? = some (xs[k]'(by omega)) := List.getElem?_eq_getElem (by omega)
      rw [hx] at f2
      refine ⟨_, cs', _, step k _ acc cs' hx ik, as', hs', f2, fun b H3 as3 cs3 g3 c3 p3 => ?_⟩
      cases b with
      | true =>
        rw [if_pos rfl] at p3 ⊢
        exact ⟨_, cs3, _, p3, as3, hs', f2.grow g3 c3, fun y H4 as4 d4 cs4 g4 c4 r4 p4 => k1 y H4 as4 d4 cs4 (g3.trans g4) c4 r4 p4⟩
      | false =>
        rw [if_neg Bool.false_ne_true] at p3 ⊢
        exact k2 H3 as3 cs3 g3 c3 p3
    · intro p H1' as' ds vs cs' g c n r hp
      exact q p H1' as' ds vs cs' (g1.trans g) c n r (done ds cs' hp)
/-- [elt for k, x in enumerate(e)] -/
theorem wn_le (i j : Nat) (hij : i ≠ j) (hc : X.calm = true) (hN : X.N.Nodup) (hm : X.mg "enumerate" = none) (ok : BlkOk X.N X.env.scope scope [(x, i), (y, j)]) (hg : PgP X scope x y px py tp kt i j) (h : WA X [e] ρ cs fun ds cs1 => LcE X elt i j scope TNo ρ cs1 ds PN)
    (hgl : Gl X "enumerate" := by rfl) (hse : starEach [e] X.env = [(false, eval e X.env)] := by rfl) (hs : ∀ x, foldedSetIterable (.Call (.Name "enumerate" cpos) [e] [] kpos) X.env x = pure x := by intro _; rfl) : WN X (.ListComp elt [⟨.Tuple [.Name x px, .Name y py] kt tp, .Call (.Name "enumerate" cpos) [e] [] kpos, [], 0⟩] scope pos) ρ cs PN :=
  wn_of (pe_lc hc hN (pi_enum hgl hm h hse) ok hg (fun s H C cl fp => pts_no) pe_elt hs) fun as hs σ H Q f q => lce_reads hij f q
section
variable {ks : List (List Int)} {ds : List D} {i : Nat} {Nx : NxT} {st : Stmt} {rest : List Stmt} {Dd : Addr} {kt2 : Nat} {pt pt2 : Pos}
/-- counts[key] = counts.get(key, kz) + b, ints -/
theorem wu_putGet (hu : X.A.units + 1 < cLine) (hi : X.N[i]? = some n) (hv : Vis X.env.scope n) (m : M2 X (.Name n px) "get" apos ky kz cpos)
    (h : W X ky ρ cs fun dk cs1 => ∃ ns, dk = tkD ns ∧ W X kz ρ cs1 fun d0 cs2 => ∃ v, ((ns ∉ ks ∧ D.int v = d0) ∨ ∃ p : Nat, ks[p]? = some ns ∧ ks.Nodup ∧ ds[p]? = some (.int v)) ∧ W X b ρ cs2 fun d2 cs3 => ∃ w, d2 = .int w ∧
      W X ky2 ρ cs3 fun dk2 cs4 => dk2 = tkD ns ∧ ks.length < 100000 ∧ ((ns ∉ ks ∧ Nx ρ cs4 (ks ++ [ns]) (ds ++ [.int (v + w)])) ∨ ∃ p : Nat, ks[p]? = some ns ∧ ks.Nodup ∧ Nx ρ cs4 ks (ds.set p (.int (v + w)))))
    (hs : swapsWith (.BinOp (.Call (.Attribute (.Name n px) "get" apos) [ky, kz] [] cpos) .Add b kpos) (some (.Subscript (.Name n py) ky2 pos')) pos.line X.env = pure false := by rfl) (hd : (n == ("__debug__" : Str)) = false := by decide) (hcd : (n == ("__classdict__" : Str)) = false := by decide) :
    WU X Dd i (.Assign [.Subscript (.Name n py) ky2 pos'] (.BinOp (.Call (.Attribute (.Name n px) "get" apos) [ky, kz] [] cpos) .Add b kpos) pos) Nx ρ cs ks ds := by
  refine ps_imp (ps_dput hu (pe_var (i := i) hi hv hd hcd) (pe_any (S := W X ky2) fun _ _ _ z => z) (pe_op op_add (pe_dget2 hu (pe_var (i := i) hi hv hd hcd) h (pe_any (S := W X kz) fun _ _ _ z => z) m) (pe_any (S := W X b) fun _ _ _ z => z)) hs) fun DD σ H ⟨as0, H0, as, hs, n0, g0, f, q⟩ => ?_
  obtain ⟨us, u1, u2, u3⟩ := f.dct
  refine ⟨.ref Dd, f.var, Dd, rfl, .inr ⟨_, .inl u1⟩, sub1 f.fit fun y H1 as1 dk cs1 g1 f1 r1 ⟨ns, ek, p1⟩ => ?_⟩
  subst ek
  cases r1 with
  | @tup ka _ vs m1 m2 hb lb =>
    have ew := repL_ints' lb
    subst ew
    refine ⟨ρ, cs1, _, p1, sub1 f1 fun z H2 as2 d0 cs2 g2 f2 r2 ⟨v, hdv, p2⟩ => ?_⟩
    have gg := g1.trans g2
    obtain ⟨o, ho, ro⟩ := f.get gg (g2.keep _ _ m1 hb) r2 hdv
    refine ⟨o, ho, ρ, cs2, _, p2, sub1 f2 fun w H3 as3 d2 cs3 g3 f3 r3 ⟨w', ed, p3⟩ => ?_⟩
    subst ed
    generalize o.getD z = vo at ro
    cases ro
    cases r3
    refine ⟨v, w', rfl, rfl, .ref Dd, (f.grow (gg.trans g3) f3 f.at_).var, ρ, cs3, _, p3, sub1 f3 fun y2 H4 as4 dk2 cs4 g4 f4 r4 ⟨ek2, hl, hp⟩ => ?_⟩
    subst ek2
    cases r4 with
    | @tup kb _ vs2 m3 m4 hb2 lb2 =>
      have ew2 := repL_ints' lb2
      subst ew2
      obtain ⟨H5, h5, h6⟩ := putU_end n0 g0 f q ((gg.trans g3).trans g4) f4 .int hb2 hl hp
      exact ⟨Dd, H5, rfl, h5, h6⟩
/-- name, list = {}, e; one statement that fills the dict; the rest has it as it then is -/
theorem wss_fillT2 (i j : Nat) (hij : i ≠ j) (hi : X.N[i]? = some x) (hj : X.N[j]? = some y) (hc : X.calm = true) (hN : X.N.Nodup) (hil : i < ρ.length) (h : ∀ Dd, W X e ρ cs fun d cs1 => WU X Dd i st (fun ρ' cs' ks ds => ks.length = ds.length ∧ WSs X B rest E (ρ'.set i (some (.dcT (ks.map ikey) ds))) cs') ((ρ.set i (some (.obj Dd))).set j (some d)) cs1 [] [])
    (hx : X.env.scope.names.lookup x = some .local := by rfl) (hy : X.env.scope.names.lookup y = some .local := by rfl)
    (hw : swappedStores [.Tuple [.Name x px, .Name y py] kt pt] (.Tuple [.Dict [] [] pos', e] kt2 pt2) X.env = pure (some [x, y]) := by rfl)
    (hs : swapsWithSole [.Tuple [.Name x px, .Name y py] kt pt] (.Tuple [.Dict [] [] pos', e] kt2 pt2) pos.line X.env = pure false := by rfl)
    (he : starEach [.Dict [] [] pos', e] X.env = (false, eval (.Dict [] [] pos') X.env) :: starEach [e] X.env := by rfl) (he2 : starEach [e] X.env = (false, eval e X.env) :: starEach [] X.env := by rfl) :
    WSs X B (.Assign [.Tuple [.Name x px, .Name y py] kt pt] (.Tuple [.Dict [] [] pos', e] kt2 pt2) pos :: st :: rest) E ρ cs := by
  have hst : PS X st fun DD σ H => ∃ Dd ρ0 cs0, WU X Dd i st (fun ρ' cs' ks ds => ks.length = ds.length ∧ WSs X B rest E (ρ'.set i (some (.dcT (ks.map ikey) ds))) cs') ρ0 cs0 [] [] ∧ tU Dd i (fun ρ' cs' ks ds => ks.length = ds.length ∧ WSs X B rest E (ρ'.set i (some (.dcT (ks.map ikey) ds))) cs') ρ0 cs0 [] [] DD σ H :=
    ⟨fun pins s σ H DD I ⟨Dd, ρ0, cs0, hw, z⟩ => hw.run pins s σ H DD I z⟩
  refine wss_of (pss_cons (ps_par hc hN hi hj hij hx hy (pa_cons pe_dnewT (pa_cons (pe_any (S := W X e) fun _ _ _ z => z) pa_nil he2) he) hw hs) (pss_cons hst (pss_lk (pss_any (B := B) (S := WSs X B rest) fun _ _ _ z => z)))) fun as hs σ H DD hB f q => ?_
  intro p np
  have fr := f.cells.fresh np
  have hsl : i < σ.length := by rw [← f.slen]; exact hil
  have f0 : Fit as (p :: hs) ρ cs σ (upd H p (.dT [])) := ⟨f.cells.hide np, f.slen, fun j d e => by
    obtain ⟨v, h1, h2⟩ := f.slot j d e
    exact ⟨v, h1, (h2.hide np).grow (Grow.laid np)⟩⟩
  refine ⟨ρ, cs, _, h p, sub1 f0 fun v H1 as1 d cs1 g1 f1 r1 hwu => ⟨.ref p, v, rfl, p, _, cs1, hwu, as, H, as1, hs, np, (Grow.laid np).trans g1, ⟨⟨f1.cells, by simp [f.slen], fun k d' e => ?_⟩, ?_, [], g1.keep _ _ fr.1 upd_same, rfl, .nil⟩, fun σ' H' as' ρ' cs' ks' ds' g' f' ⟨hl, hw⟩ => ?_⟩⟩
  · by_cases hk : k = j
    · subst hk
      have hkl : k < ρ.length := by
        have := (List.getElem?_eq_some_iff.mp e).1
        simpa using this
      rw [List.getElem?_set_self (by simpa using hkl)] at e
      cases e
      exact ⟨v, List.getElem?_set_self (by rw [List.length_set, ← f.slen]; exact hkl), r1⟩
    · rw [List.getElem?_set_ne (Ne.symm hk)] at e
      rw [List.getElem?_set_ne (Ne.symm hk)]
      by_cases hk2 : k = i
      · subst hk2
        rw [List.getElem?_set_self hil] at e
        cases e
        exact ⟨.ref p, List.getElem?_set_self hsl, .obj⟩
      · rw [List.getElem?_set_ne (Ne.symm hk2)] at e
        rw [List.getElem?_set_ne (Ne.symm hk2)]
        exact f1.slot k d' e
  · rw [List.getElem?_set_ne (Ne.symm hij)]
    exact List.getElem?_set_self hil
  · obtain ⟨us, u1, u2, u3⟩ := f'.dct
    refine ⟨p, _, u1, True.intro, fun od => ?_⟩
    have sub : ∀ a, a ∈ hs → a ∈ p :: hs := fun a h => List.mem_cons_of_mem _ h
    have mutD : ∀ {o : HO} (b : Addr), b ∉ as' → b ∉ p :: hs → upd H' p o b = H' b := fun {o} b _ m => upd_ne fun e => m (by rw [e]; exact List.mem_cons_self)
    have np' := (f'.fit.cells.hid p List.mem_cons_self).1
    have g2 : Grow as as' H (upd H' p (.frz od (.dT ((ks'.map ikey).zip us)))) := ⟨g'.ext, g'.new, fun a o' na ha => by rw [upd_ne (ne_of_none ha np)]; exact g'.keep a o' na ha⟩
    have f2 : Fit as' hs (ρ'.set i (some (.dcT (ks'.map ikey) ds'))) cs' σ' (upd H' p (.frz od (.dT ((ks'.map ikey).zip us)))) := ⟨(f'.fit.cells.dmut List.mem_cons_self).show1, by simp [f'.fit.slen], fun j d e => by
      by_cases hj : j = i
      · subst hj
        have hjl : j < ρ'.length := by
          have := (List.getElem?_eq_some_iff.mp e).1
          simpa using this
        rw [List.getElem?_set_self hjl] at e; cases e
        exact ⟨_, f'.var, .dcT np' fr.2 upd_same (by rw [List.length_map]; exact hl) ((u3.mut mutD).show sub)⟩
      · rw [List.getElem?_set_ne (Ne.symm hj)] at e
        obtain ⟨v, h1, h2⟩ := f'.fit.slot j d e
        exact ⟨v, h1, (h2.mut mutD).show sub⟩⟩
    exact ⟨E, _, cs', hw, tS_mk (le_cs f2 ((g2.B B).le hB)) f2 (q.next (g2.B B) hB)⟩
/-- d.get(key, e) -/
theorem w_getT2 (hu : X.A.units + 1 < cLine) (h : W X o ρ cs fun d cs1 => ∃ (rows : List (List Int)) (xs : List D), d = .dcT (rows.map ikey) xs ∧ W X ky ρ cs1 fun k cs2 => ∃ ns, k = tkD ns ∧ W X kz ρ cs2 fun d0 cs3 => ∃ r, ((ns ∉ rows ∧ r = d0) ∨ ∃ i : Nat, rows[i]? = some ns ∧ rows.Nodup ∧ xs[i]? = some r) ∧ P r cs3) (m : M2 X o "get" apos ky kz cpos := by exact ⟨rfl, rfl, rfl, rfl⟩) :
    W X (.Call (.Attribute o "get" apos) [ky, kz] [] cpos) ρ cs P := by
  refine w_of (pe_dget2 hu h (pe_any (S := W X ky) fun _ _ _ z => z) (pe_any (S := W X kz) fun _ _ _ z => z) m) fun as hs σ H Q f q => sub1 f fun v H1 as1 d cs1 g1 f1 r1 ⟨rows, xs, ed, p1⟩ => ?_
  subst ed
  cases r1 with
  | @dcT a ob _ us _ n1 n2 hd hl rl =>
    refine ⟨a, rfl, .inr ⟨_, .inr ⟨_, hd⟩⟩, ρ, cs1, _, p1, sub1 f1 fun y H2 as2 dk cs2 g2 f2 r2 ⟨ns, ek, p2⟩ => ?_⟩
    subst ek
    cases r2 with
    | @tup b _ vs m1 m2 hb lb =>
      have ew := repL_ints' lb
      subst ew
      refine ⟨ρ, cs2, _, p2, sub1 f2 fun z H3 as3 d0 cs3 g3 f3 r3 ⟨r, hr, hp⟩ => ?_⟩
      have hd3 := g3.keep _ _ (g2.out n1 hd) (g2.keep _ _ n1 hd)
      refine ⟨_, .inr ⟨_, ikey ns, b, .inr ⟨_, hd3⟩, rfl, by rw [ikey_kV]; exact g3.keep _ _ m1 hb, rfl⟩, q _ _ as3 r cs3 ((g1.trans g2).trans g3) f3.cells ?_ hp⟩
      rcases hr with ⟨hno, rfl⟩ | ⟨i, hi, nd, hx⟩
      · rw [valVT_none fun z => by
          obtain ⟨ms, hm, em⟩ := List.mem_map.mp z
          rw [ikey_inj em] at hm
          exact hno hm]
        exact r3
      · obtain ⟨u, hu2, ru⟩ := rl.get hx
        rw [valVT_at (j := i) (List.Pairwise.map _ (fun a b h z => h (ikey_inj z)) nd) (by rw [List.getElem?_map, hi]; rfl) hu2]
        exact ru.grow (g2.trans g3)
end
end
end Rg
set_option Elab.async false
set_option linter.all false
set_option maxRecDepth 100000
/-! plain errors (own classes without __init__): raised, let through, caught and kept; functions called by place -/
namespace Rg
open PySem PySem.Spec
open PyProof.Rows L2

/-! ### what is promised of an error: its class -/
def FinY (as hs : List Addr) (H : Hp) (PX : Addr → Cs → Prop) (Ex : XK) : Prop := ∀ as' cs' H' c, Grow as as' H H' → Cells as' hs cs' H' → PX c cs' → Ex (.ref c) none H'
abbrev GY := List D → Cs → PD → (Addr → Cs → Prop) → Prop
def spY (g : GY) : Sp := fun vs H Q Ex => ∃ as hs ds cs P PX, Cells as hs cs H ∧ RepL as hs H ds vs ∧ g ds cs P PX ∧ Fin as hs H P Q ∧ FinY as hs H PX Ex
def FinYS (B : Nat) (as hs : List Addr) (H : Hp) (PX : Addr → Ro → Cs → Prop) (Wx : WX) : Prop :=
  ∀ σ' H' as' ρ' cs' c, GrowB B as as' H H' → Fit as' hs ρ' cs' σ' H' → PX c ρ' cs' → Wx (.ref c) none σ' H'
theorem FinYS.next {B as as1 hs H H1 PX Wx} (q : FinYS B as hs H PX Wx) (g : GrowB B as as1 H H1) (hB : B ≤ as.length) : FinYS B as1 hs H1 PX Wx :=
  fun σ' H' as' ρ' cs' c g' => q σ' H' as' ρ' cs' c (g.trans g' hB)
abbrev PY := Addr → Ro → Cs → Prop
def tSY (Wx : WX) (B : Nat) (E : En) (PX : PY) (ρ : Ro) (cs : Cs) : TS := fun DD σ H => ∃ as hs, B ≤ as.length ∧ Fit as hs ρ cs σ H ∧ FinS B as hs H E DD ∧ FinYS B as hs H PX Wx
def WSY (X : Cx) (Wx : WX) (B : Nat) (st : Stmt) (E : En) (PX : PY) (ρ : Ro) (cs : Cs) : Prop := PS X st (tSY Wx B E PX ρ cs)
def WSYs (X : Cx) (Wx : WX) (B : Nat) (sts : List Stmt) (E : En) (PX : PY) (ρ : Ro) (cs : Cs) : Prop := PSs X sts (tSY Wx B E PX ρ cs)
/-- the reading of an expression that may raise -/
def tDY (Wx : WX) (PX : PY) (ρ : Ro) (cs : Cs) (P : PD) : TE := fun σ H Q => ∃ as hs, Fit as hs ρ cs σ H ∧ Fin as hs H P Q ∧
  ∀ H' as' cs' c, Grow as as' H H' → Cells as' hs cs' H' → PX c ρ cs' → Wx (.ref c) none σ H'
def WY (X : Cx) (Wx : WX) (e : Expr) (PX : PY) (ρ : Ro) (cs : Cs) (P : PD) : Prop := PE X e (tDY Wx PX ρ cs P)
/-- a class of the program's plain errors -/
structure PlC (K : PySem.W.Frag) (C : Addr) : Prop where
  exc : PySem.W.excIn K C [.type "ValueError", .type "Exception", .type "BaseException", .type "object"] "ValueError.__new__" = true
  kp : (PySem.W.keepIn K (.ref C)) = true
  ty : PySem.W.typeIn K (.ref C) = some (.type "type")
  is : ExcC K C

section
variable {X : Cx} {Wx : WX} {C : Addr} {PX : PY} {ρ : Ro} {cs : Cs} {e a b c o fe : Expr} {es rest : List Expr} {P : PD} {PN : List D → Cs → Prop} {pos p apos cpos kpos pos' np : Pos} {x y n m : Str} {k B : Nat} {ps ks : List Str} {E : En} {st : Stmt} {sts body els : List Stmt}
theorem wsy_of (h : WS X B st E ρ cs) : WSY X Wx B st E PX ρ cs := ps_imp h fun DD σ H ⟨as, hs, hB, ft, q, _⟩ => tS_mk (le_cs ft hB) ft q
theorem wsys_of (h : WSs X B sts E ρ cs) : WSYs X Wx B sts E PX ρ cs := pss_imp h fun DD σ H ⟨as, hs, hB, ft, q, _⟩ => tS_mk (le_cs ft hB) ft q
def tAnyY (Wx : WX) (B : Nat) (PX : PY) (S : En → Ro → Cs → Prop) : TS := fun DD σ H => ∃ E ρ cs, S E ρ cs ∧ tSY Wx B E PX ρ cs DD σ H
theorem pssy_any {S : En → Ro → Cs → Prop} (h : ∀ E ρ cs, S E ρ cs → WSYs X Wx B sts E PX ρ cs) : PSs X sts (tAnyY Wx B PX S) :=
  ⟨fun pins s σ H DD I ⟨E, ρ, cs, hs, q⟩ => (h E ρ cs hs).run pins s σ H DD I q⟩
theorem wsys_cons (h : WSY X Wx B st { E with nx := fun ρ' cs' => WSYs X Wx B sts E PX ρ' cs' } PX ρ cs) : WSYs X Wx B (st :: sts) E PX ρ cs := by
  refine pss_imp (pss_cons h (pssy_any (B := B) (PX := PX) (S := fun E ρ cs => WSYs X Wx B sts E PX ρ cs) fun _ _ _ z => z)) fun DD σ H ⟨as, hs, hB, ft, q, qx⟩ => ?_
  exact ⟨as, hs, hB, ft, ⟨fun σ' H' as' ρ' cs' g f' h' => ⟨E, ρ', cs', h', as', hs, g.le hB, f', q.next g hB, qx.next g hB⟩, q.rt, q.bk, q.ct⟩, qx⟩
theorem wsys_one (h : WSY X Wx B st E PX ρ cs) : WSYs X Wx B [st] E PX ρ cs := pss_one h
theorem wsys_nil (h : E.nx ρ cs) : WSYs X Wx B [] E PX ρ cs := wsys_of (wss_nil h)
theorem wsy_if (h : WT X c ρ cs fun k cs1 => if k = true then WSYs X Wx B body E PX ρ cs1 else WSYs X Wx B els E PX ρ cs1) : WSY X Wx B (.If c body els pos) E PX ρ cs :=
  ps_imp (ps_if h (pssy_any (B := B) (PX := PX) (S := fun E ρ cs => WSYs X Wx B body E PX ρ cs) fun _ _ _ z => z) (pssy_any (B := B) (PX := PX) (S := fun E ρ cs => WSYs X Wx B els E PX ρ cs) fun _ _ _ z => z)) fun DD σ H ⟨as, hs, hB, ft, q, qx⟩ =>
    subT ft fun k H1 as1 cs1 g1 f1 p1 => by
      have g := g1.B B
      cases k with
      | true => exact ⟨E, ρ, cs1, p1, as1, hs, g.le hB, f1, q.next g hB, qx.next g hB⟩
      | false => exact ⟨E, ρ, cs1, p1, as1, hs, g.le hB, f1, q.next g hB, qx.next g hB⟩
/-- raise C("text") -/
theorem wsy_raise {j : Nat} {p2 : Pos} (hc : X.calm = true) (hT : Takes X Wx) (I : PlC X.K C) (gC : X.mg x = some (.ref C)) (h : PX C ρ cs) (hg : Gl X x := by rfl) (hdb : (x == ("__debug__" : Str)) = false := by decide) :
    WSY X Wx B (.Raise (some (.Call (.Name x p) [.Constant (.str m) j p2] [] pos)) none pos') E PX ρ cs :=
  ps_imp (ps_raise hc hT (pmk_own PySem.F.excBase_ValueError I.exc gC I.kp (raises_own I.is.hs I.ty) hg hdb)) fun DD σ H ⟨as, hs, hB, ft, q, qx⟩ => qx σ H as ρ cs C (GrowB.refl _ _ _) ft h
/-! ### calls -/
theorem wy_of (h : W X e ρ cs P) : WY X Wx e PX ρ cs P := pe_imp h fun σ H Q ⟨as, hs, ft, q, _⟩ => ⟨as, hs, ft, q⟩
theorem wy_call {g : GY} (F : FnX X.prog X.w X.K X.mg X.base k x ps (spY g)) (hr : Rm k X.A) (hT : Takes X Wx) (h : WA X (e :: es) ρ cs fun ds cs1 => g ds cs1 P fun c cs' => PX c ρ cs') (hg : Gl X x := by rfl) (hdb : (x == ("__debug__" : Str)) = false := by decide)
    (he : starEach (e :: es) X.env = (false, eval e X.env) :: starEach es X.env := by rfl) (hpl : (backTo pos (starEach es X.env)).any (·.1) = false := by rfl) : WY X Wx (.Call (.Name x p) (e :: es) [] pos) PX ρ cs P := by
  obtain ⟨fA, fd, hm, ok, kp, bd⟩ := F.ex
  refine pe_imp (pe_callX ok hr hT hg hm kp bd h hdb he hpl) fun σ H Q ⟨as, hs, ft, q, qx⟩ => subA ft fun vs H1 as1 ds cs1 g1 f1 r1 p1 => ?_
  exact ⟨as1, hs, ds, cs1, P, fun c cs' => PX c ρ cs', f1.cells, r1, p1, fun v H' as' d cs' g' => q v H' as' d cs' (g1.trans g'), fun as' cs' H' c g' => qx H' as' cs' c (g1.trans g')⟩
theorem wy_callK {g : GY} {kws : List Keyword} {gD : List D → List D → List D} (F : FnKX X.prog X.w X.K X.mg X.base k x ps ks gD (spY g)) (hr : Rm k X.A) (hT : Takes X Wx) (h : WK X kws ρ cs fun ds cs1 => g (gD [] ds) cs1 P fun c cs' => PX c ρ cs') (hg : Gl X x := by rfl)
    (hall : (backToKw pos (keywordEach kws X.env)).all (·.1.isSome) = true := by rfl) (hks : (backToKw pos (keywordEach kws X.env)).filterMap (·.1) = ks := by rfl)
    (hdb : (x == ("__debug__" : Str)) = false := by decide) (hpl : ((backTo pos (starEach [] X.env)).any (·.1) || (backToKw pos (keywordEach kws X.env)).any (·.1.isNone)) = false := by rfl) : WY X Wx (.Call (.Name x p) [] kws pos) PX ρ cs P := by
  obtain ⟨fA, fd, gg, gV, hm, ok, kp, bd, rel⟩ := F.ex
  refine pe_imp (pe_callKX ok hr hT hg hm kp bd h hall hks hdb hpl) fun σ H Q ⟨as, hs, ft, q, qx⟩ => subA ft fun vs H1 as1 ds cs1 g1 f1 r1 p1 => ?_
  exact ⟨as1, hs, _, cs1, P, fun c cs' => PX c ρ cs', f1.cells, rel as1 hs H1 [] ds [] vs .nil r1, p1, fun v H' as' d cs' g' => q v H' as' d cs' (g1.trans g'), fun as' cs' H' c g' => qx H' as' cs' c (g1.trans g')⟩
theorem tdy_mk {as hs σ H} {Q : VK} (ft : Fit as hs ρ cs σ H) (qx : FinYS B as hs H PX Wx) (q : ∀ v H' as' d cs', Grow as as' H H' → Fit as' hs ρ cs' σ H' → Rep as' hs H' d v → P d cs' → Q v H') : tDY Wx PX ρ cs P σ H Q :=
  ⟨as, hs, ft, fun v H' as' d cs' g c' r p => q v H' as' d cs' g (ft.grow g c') r p, fun H' as' cs' c g c' => qx σ H' as' ρ cs' c (g.B B) (ft.grow g c')⟩
theorem wsy_ret (h : WY X Wx e PX ρ cs fun d cs1 => E.rt d cs1) : WSY X Wx B (.Return (some e) pos) E PX ρ cs :=
  ps_imp (ps_ret h) fun DD σ H ⟨as, hs, hB, ft, q, qx⟩ => tdy_mk ft qx fun v H' as' d cs' g f' r p => q.rt _ _ _ _ _ (g.B B) f'.cells r p
theorem wsy_expr (h : WY X Wx e PX ρ cs fun _ cs1 => E.nx ρ cs1) (hs : swapsWith e none pos.line X.env = pure false := by rfl) : WSY X Wx B (.Expr e pos) E PX ρ cs :=
  ps_imp (ps_expr h hs) fun DD σ H ⟨as, hs, hB, ft, q, qx⟩ => tdy_mk ft qx fun v H' as' d cs' g f' r p => q.nx _ _ _ _ _ (g.B B) f' p
theorem wsy_set (i : Nat) (h : WY X Wx e PX ρ cs fun d cs1 => E.nx (ρ.set i (some d)) cs1) (hN : X.N.Nodup) (hi : X.N[i]? = some x := by rfl) (hx : Loc X.env.scope x := by first | exact .inl rfl | exact .inr rfl) (hs : swapsWith e (some (.Name x pos')) pos.line X.env = pure false := by rfl)
    (hf : X.fn x = true ∨ X.env.scope.names.lookup x = some .local := by first | exact .inl rfl | exact .inr rfl) : WSY X Wx B (.Assign [.Name x pos'] e pos) E PX ρ cs :=
  ps_imp (ps_set hN hi hx h hs hf) fun DD σ H ⟨as, hs, hB, ft, q, qx⟩ => tdy_mk ft qx fun v H' as' d cs' g f' r p => q.nx _ _ _ _ _ (g.B B) (f'.set i r) p
/-! ### around an expression that always raises -/
abbrev never : PD := fun _ _ => False
theorem wy_add {r : R2} (ho : OpR X (binaryOp .Add) r) (ha : W X a ρ cs fun _ cs1 => WY X Wx b PX ρ cs1 never) : WY X Wx (.BinOp a .Add b pos) PX ρ cs P := by
  refine pe_imp (pe_op ho ha (tb := fun σ H Q => ∃ cs1, WY X Wx b PX ρ cs1 never ∧ tDY Wx PX ρ cs1 never σ H Q) ⟨fun pins s σ H Q I ⟨cs1, hb, q⟩ => hb.run pins s σ H Q I q⟩) fun σ H Q ⟨as, hs, ft, q, qx⟩ => ?_
  exact sub1 ft fun v1 H1 as1 d1 cs1 g1 f1 r1 p1 => ⟨cs1, p1, as1, hs, f1, fun _ _ _ _ _ _ _ _ z => z.elim, fun H' as' cs' c g' => qx H' as' cs' c (g1.trans g')⟩
/-- f(e), f a built-in -/
theorem wy_bi {id : String} {r : List V → Hp → VK → Prop} (hc : CallR X (.builtin id) r) (hm : X.mg x = none) (hv : bootBuiltins x = some (.builtin id)) (h : WY X Wx e PX ρ cs never) (hg : Gl X x := by rfl) (hn : x ≠ "__name__" := by decide) (hdb : (x == ("__debug__" : Str)) = false := by decide)
    (he : starEach [e] X.env = (false, eval e X.env) :: starEach [] X.env := by rfl) (hpl : (backTo pos (starEach [] X.env)).any (·.1) = false := by rfl) : WY X Wx (.Call (.Name x p) [e] [] pos) PX ρ cs P :=
  pe_imp (pe_callB hc hg hm hv (pa_cons h pa_nil he) hn hdb he hpl) fun σ H Q ⟨as, hs, ft, q, qx⟩ => ⟨as, hs, ft, fun _ _ _ _ _ _ _ _ z => z.elim, qx⟩
/-- f(a, e), f a def of the program -/
theorem wy_in2 {fA : Addr} (hm : X.mg x = some (.ref fA)) (hk : PySem.W.keepIn X.K (.ref fA) = true) (h : W X a ρ cs fun _ cs1 => WY X Wx e PX ρ cs1 never) (hg : Gl X x := by rfl) (hdb : (x == ("__debug__" : Str)) = false := by decide)
    (he : starEach [a, e] X.env = (false, eval a X.env) :: starEach [e] X.env := by rfl) (he2 : starEach [e] X.env = (false, eval e X.env) :: starEach [] X.env := by rfl) (hpl : (backTo pos (starEach [e] X.env)).any (·.1) = false := by rfl) : WY X Wx (.Call (.Name x p) [a, e] [] pos) PX ρ cs P := by
  have ha : PA X [a, e] (tCons (tD ρ cs fun _ cs1 => WY X Wx e PX ρ cs1 never) (tCons (fun σ H Q => ∃ cs1, WY X Wx e PX ρ cs1 never ∧ tDY Wx PX ρ cs1 never σ H Q) tNil)) :=
    pa_cons h (pa_cons ⟨fun pins s σ H Q I ⟨cs1, hb, q⟩ => hb.run pins s σ H Q I q⟩ pa_nil he2) he
  refine ⟨fun pins s σ H Q I ⟨as, hs, ft, q, qx⟩ => wpAny_Call_Name_kw (ld_glob I hg hm ?_ hdb)⟩
  refine PySem.W.callWith_K (h₀ := X.base) I.ok.mod.kin hk (thn (ha.run pos pins s σ H (fun _ _ => False) I ?_) fun us s1 ⟨vs, H1, I1, r, z⟩ => z.elim) he hpl
  exact sub1 ft fun v1 H1 as1 d1 cs1 g1 f1 r1 p1 => ⟨cs1, p1, as1, hs, f1, fun _ _ _ _ _ _ _ _ z => z.elim, fun H' as' cs' c g' => qx H' as' cs' c (g1.trans g')⟩

/-! ### a function that was taken from a list -/
theorem wpAny_callE {M : Model} {A : Around} {EE : Value → Shared → Prop} {s : Shared} {env : Env} {Q : Value → Shared → Prop} (h : wpAny M A (eval fe env) (fun f s₁ => wpAny M A (callWith pos f [] (backTo pos (starEach es env)) []) Q EE s₁) EE s)
    (hE : eval (.Call fe es [] pos) env = (do callWith pos (← eval fe env) [] (backTo pos (starEach es env)) (backToKw pos (keywordEach [] env)))) : wpAny M A (eval (.Call fe es [] pos) env) Q EE s := Call_ h hE
def PlainCall (X : Cx) (fe : Expr) (es : List Expr) (pos : Pos) : Prop := eval (.Call fe es [] pos) X.env = (do callWith pos (← eval fe X.env) [] (backTo pos (starEach es X.env)) (backToKw pos (keywordEach [] X.env)))
theorem wy_callV {g : GY} (hr : Rm k X.A) (hT : Takes X Wx) (hE : PlainCall X fe (e :: es) pos) (h : W X fe ρ cs fun d cs1 => ∃ fA fd ps, d = .obj fA ∧ FnG X.prog X.w X.K X.mg X.base (L2.CX X.prog X.w) k fA fd ps (spY g) ∧ PySem.W.keepIn X.K (.ref fA) = true ∧ Binds X.K fd ps [] ∧ WA X (e :: es) ρ cs1 fun ds cs2 => g ds cs2 P fun c cs' => PX c ρ cs')
    (he : starEach (e :: es) X.env = (false, eval e X.env) :: starEach es X.env := by rfl) (hpl : (backTo pos (starEach es X.env)).any (·.1) = false := by rfl) : WY X Wx (.Call fe (e :: es) [] pos) PX ρ cs P := by
  refine ⟨fun pins s σ H Q I ⟨as, hs, ft, q, qx⟩ => wpAny_callE (thn (h.run pins s σ H (fun v H1 => ∃ as1 d cs1, Grow as as1 H H1 ∧ Fit as1 hs ρ cs1 σ H1 ∧ Rep as1 hs H1 d v ∧ ∃ fA fd ps, d = .obj fA ∧ FnG X.prog X.w X.K X.mg X.base (L2.CX X.prog X.w) k fA fd ps (spY g) ∧ PySem.W.keepIn X.K (.ref fA) = true ∧ Binds X.K fd ps [] ∧ WA X (e :: es) ρ cs1 fun ds cs2 => g ds cs2 P fun c cs' => PX c ρ cs') I
    (sub1 ft fun v H1 as1 d cs1 g1 f1 r1 p1 => ⟨as1, d, cs1, g1, f1, r1, p1⟩)) fun u s1 ⟨v, H1, I1, rv, as1, d, cs1, g1, f1, r1, fA, fd, ps, ed, ok, kp, bd, ha⟩ => ?_) hE⟩
  subst ed
  cases r1
  obtain rfl : u = Value.ref fA := rv
  refine PySem.W.callWith_K (h₀ := X.base) I1.ok.mod.kin kp (thn (ha.run pos pins s1 σ H1 (fun vs H2 => spY g vs H2 Q fun cls d H' => Wx cls d σ H') I1 ?_) fun us s2 ⟨vs, H2, I2, r, z⟩ => ⟨I2.kIn, run_fnGS ok hr bd (takes_at hT σ) I2 r z⟩) he hpl
  exact subA f1 fun vs H2 as2 ds cs2 g2 f2 r2 p2 => ⟨as2, hs, ds, cs2, P, fun c cs' => PX c ρ cs', f2.cells, r2, p2, fun v H' as' d cs' g' => q v H' as' d cs' ((g1.trans g2).trans g'), fun as' cs' H' c g' => qx H' as' cs' c ((g1.trans g2).trans g')⟩
theorem w_callV {g : GD} (hr : Rm k X.A) (hE : PlainCall X fe (e :: es) pos) (h : W X fe ρ cs fun d cs1 => ∃ fA fd ps, d = .obj fA ∧ FnG X.prog X.w X.K X.mg X.base CX0 k fA fd ps (spD g) ∧ PySem.W.keepIn X.K (.ref fA) = true ∧ Binds X.K fd ps [] ∧ WA X (e :: es) ρ cs1 fun ds cs2 => g ds cs2 P)
    (he : starEach (e :: es) X.env = (false, eval e X.env) :: starEach es X.env := by rfl) (hpl : (backTo pos (starEach es X.env)).any (·.1) = false := by rfl) : W X (.Call fe (e :: es) [] pos) ρ cs P := by
  refine ⟨fun pins s σ H Q I ⟨as, hs, ft, q⟩ => wpAny_callE (thn (h.run pins s σ H (fun v H1 => ∃ as1 d cs1, Grow as as1 H H1 ∧ Fit as1 hs ρ cs1 σ H1 ∧ Rep as1 hs H1 d v ∧ ∃ fA fd ps, d = .obj fA ∧ FnG X.prog X.w X.K X.mg X.base CX0 k fA fd ps (spD g) ∧ PySem.W.keepIn X.K (.ref fA) = true ∧ Binds X.K fd ps [] ∧ WA X (e :: es) ρ cs1 fun ds cs2 => g ds cs2 P) I
    (sub1 ft fun v H1 as1 d cs1 g1 f1 r1 p1 => ⟨as1, d, cs1, g1, f1, r1, p1⟩)) fun u s1 ⟨v, H1, I1, rv, as1, d, cs1, g1, f1, r1, fA, fd, ps, ed, ok, kp, bd, ha⟩ => ?_) hE⟩
  subst ed
  cases r1
  obtain rfl : u = Value.ref fA := rv
  refine PySem.W.callWith_K (h₀ := X.base) I1.ok.mod.kin kp (thn (ha.run pos pins s1 σ H1 (fun vs H2 => spD g vs H2 Q fun _ _ _ => False) I1 ?_) fun us s2 ⟨vs, H2, I2, r, z⟩ => ⟨I2.kIn, run_fnG ok hr bd pass0 I2 r z⟩) he hpl
  exact subA f1 fun vs H2 as2 ds cs2 g2 f2 r2 p2 => ⟨as2, hs, ds, cs2, P, f2.cells, r2, p2, fun v H' as' d cs' g' => q v H' as' d cs' ((g1.trans g2).trans g')⟩
end

/-! ### a def that may raise -/
theorem shut_finY {as hs as' : List Addr} {cs cs' : Cs} {H H' : Hp} {PX' : Addr → Cs → Prop} {Ex : XK} {C : Addr} (c : Cells as hs cs H) (q : FinY as hs H PX' Ex) (gb : GrowB cs.length as as' H H') (c' : Cells as' hs cs' H')
    (hp : Shut cs.length (fun _ cs' => PX' C cs') .non cs') : Ex (.ref C) none H' := by
  have et := take_len gb c.len
  rw [c.len] at gb
  have g := gb.grow
  rcases hp with ⟨_, hp⟩ | ⟨m, d', rs, lw, hp⟩
  · exact q as' cs' H' C g c' hp
  · have c2 := c'.take (ex := []) (fun _ z => nomatch z) (fun _ z => nomatch z) lw
    rw [et] at c2
    exact q as _ H' C ⟨⟨[], by simp⟩, fun a h n => absurd h n, g.keep⟩ c2 hp
section
variable {P : Program} {w : World} {K : PySem.W.Frag}
variable {mg : Str → Option Value} {base : Heap}
theorem fnY {x qual : Str} {st : Stmt} {fA : Addr} {fd : FuncData} {N ps : List Str} {k : Nat} {g : GY} (F : FunD K x qual (defArgs st) (defBody st) (defScope st) [] [] fA fd) (S : FnScope N ps (defScope st)) (len : ∀ ds cs P PX, g ds cs P PX → ds.length = ps.length)
    (body : ∀ (cdv : Value) (A : Around) (outer : List Env) (s : Shared) (H : Hp) (E : XK), Rm k (A.deeper (envOfC qual (defScope st) s.heap.objs.size fA cdv)) → ∀ ds cs P' PX', g ds cs P' PX' → BaseOk cs ds →
      Takes (BxX P w K mg base N qual st fA cdv A outer s H E) (fun cls d _ H' => E cls d H') →
      WSYs (BxX P w K mg base N qual st fA cdv A outer s H E) (fun cls d _ H' => E cls d H') cs.length (defBody st) { nx := fun _ cs' => Shut cs.length P' .non cs', rt := Shut cs.length P' } (fun c _ cs' => Shut cs.length (fun _ cs' => PX' c cs') .non cs') (startD N ds) cs) : FnG P w K mg base (L2.CX P w) (k + 1) fA fd ps (spY g) := by
  obtain ⟨oc, od, dV, kV, doc, pm, an, cdv0, ct, osl, rfl, lk, hcd, _, _⟩ := F.ex
  refine fnG_of lk hcd S (fun vs H Q E ⟨as, hs, ds, cs, P', PX', c, r, hg, q⟩ => by rw [← r.length]; exact len ds cs P' PX' hg) fun A outer s H vs Q E hr ⟨as, hs, ds, cs, P', PX', c, r, hg, q, qx⟩ => ?_
  refine ⟨_, body cdv0 A outer s H E hr ds cs P' PX' hg (BaseOk.of c r) (takes_of rfl rfl rfl rfl), as, hs, by rw [c.len]; exact Nat.le_refl _, fit_start c r, ⟨?_, ?_, ?_, ?_⟩, ?_⟩
  · intro σ' H' as' ρ' cs' gb f' hp
    exact shut_fin c q gb f'.cells .non hp
  · intro v H' as' d cs' gb c' rv hp
    exact shut_fin c q gb c' rv hp
  · intro σ' H' as' ρ' cs' gb f' hp; exact hp.elim
  · intro σ' H' as' ρ' cs' gb f' hp; exact hp.elim
  · intro σ' H' as' ρ' cs' c' gb f' hp
    exact shut_finY c qx gb f'.cells hp
theorem FnG.imp {CX : CXT} {k : Nat} {f : Addr} {fd : FuncData} {ps : List Str} {sp sp' : Sp} (F : FnG P w K mg base CX k f fd ps sp) (h : ∀ vs H Q E, sp' vs H Q E → sp vs H Q E) : FnG P w K mg base CX k f fd ps sp' :=
  ⟨fun vs H Q E z => F.len vs H Q E (h _ _ _ _ z), fun A outer s H args us vs Q E hr hg ee hb r z => F.run A outer s H args us vs Q E hr hg ee hb r (h _ _ _ _ z)⟩
theorem spD_imp {g g' : GD} (h : ∀ ds cs P, g' ds cs P → g ds cs P) : ∀ vs H Q E, spD g' vs H Q E → spD g vs H Q E := fun vs H Q E ⟨as, hs, ds, cs, P, c, r, hg, q⟩ => ⟨as, hs, ds, cs, P, c, r, h _ _ _ hg, q⟩
/-- .. where it doesn't raise -/
theorem FnX.ofD {k : Nat} {x : Str} {ps : List Str} {g : GD} (F : FnX P w K mg base k x ps (spY fun ds cs P _ => g ds cs P)) : FnX P w K mg base k x ps (spY fun ds cs P _ => g ds cs P) := F
end
end Rg
set_option Elab.async false
set_option linter.all false
set_option maxRecDepth 100000
/-! an error that is caught, kept under a name, and asked later -/
namespace Rg
open PySem PySem.Spec
open PyProof.Rows L2

/-! ### the caught error becomes one of the tracked objects -/
theorem inv_track {X : Cx} {pins : List (Addr × Obj)} {σ : L2.St} {H : Hp} {s : Shared} {a C : Addr} {oe : Obj} {vs : Array Value} (I : Inv X pins σ H s) (ha : s.heap.get? a = some oe) (hz : Zc (.ref C) none oe) (hd : oe.data = .fields vs) (na : H a = none) (n0 : X.s_0.heap.get? a = none) (nL : a ≠ X.env.locals) (np : ∀ p ∈ X.pn ++ pins, p.1 ≠ a) :
    Inv X pins σ (upd H a (ExK C a)) s := by
  have nz : ∀ {b : Addr} {o : HO}, H b = some o → b ≠ a := fun e z => by rw [z, na] at e; cases e
  have nb : ∀ {b : Addr} {o : Obj}, X.s_0.heap.get? b = some o → b ≠ a := fun e z => by rw [z, n0] at e; cases e
  refine ⟨I.ok, I.os, I.bare, ⟨I.base.keep, I.base.slot, fun b o e n hx => ?_, I.base.there, fun b xs e => ?_, fun b o u e => ?_, fun b ps e => ?_⟩, I.loc, I.cell, ?_, fun x c e => ?_, fun p hp => ?_, fun b u e => ?_, I.len⟩
  · rw [upd_ne (nb e)]; exact I.base.free b o e n hx
  · rw [upd_ne (nz (I.base.tups b xs e))]; exact I.base.tups b xs e
  · rw [upd_ne (nz (I.base.frzs b o u e))]; exact I.base.frzs b o u e
  · obtain ⟨more, q⟩ := I.base.tbls b ps e
    exact ⟨more, by rw [upd_ne (nz q)]; exact q⟩
  · rw [upd_ne (Ne.symm nL)]; exact I.free
  · have hc : c ≠ a := fun z => by
      obtain ⟨v, o, ho, hcell⟩ := I.cell x c e
      rw [z, ha] at ho; cases ho
      rw [hd] at hcell; cases hcell
    rw [upd_ne hc]; exact I.freeC x c e
  · obtain ⟨h1, h2, h3, h4, h5⟩ := I.pin p hp
    exact ⟨h1, by rw [upd_ne (np p hp)]; exact h2, h3, h4, h5⟩
  · by_cases hb : b = a
    · subst hb
      rw [upd_same] at e
      cases e
      exact ⟨⟨oe, vs, ha, hz, hd⟩, ⟨oe, ha⟩, fun _ _ ⟨o, v, q, r⟩ k => ⟨o, v, k o q, r⟩⟩
    · rw [upd_ne hb] at e
      exact (I.hok b u e).stay (fun c v _ q => q) (fun c q => by rw [upd_ne (nz q)]; exact q) fun c xs q => by rw [upd_ne (nz q)]; exact q

/-- an error in flight over the ground B: where it was not before -/
structure NewAt (X : Cx) (pins : List (Addr × Obj)) (a : Addr) : Prop where
  entry : X.s_0.heap.get? a = none
  held : ∀ p ∈ X.pn ++ pins, p.1 ≠ a
  loc : a ≠ X.env.locals
  fr : a ∉ X.fs
theorem newAt_of {X : Cx} {pins : List (Addr × Obj)} {σ : L2.St} {H : Hp} {now : Shared} {B h : Heap} {a : Addr} {Z : Obj → Prop} (hex : X.ex = []) (hst : X.stack = X.env :: X.outer) (hloc : X.env.frame = some X.env.locals) (I : Inv X pins σ H now)
    (ground : ∀ b o, now.heap.get? b = some o → b ∉ frs X.stack → B.get? b = some o) (fly : HandSPX.FlyingZ B (X.env :: X.outer) a Z h) : NewAt X pins a := by
  obtain ⟨oa, fields, get, _, data⟩ := fly.there
  have away : a ∉ frs (X.env :: X.outer) := fun m => by
    obtain ⟨_, o2, get2, other⟩ := fly.2.2.1.mem m
    rw [get] at get2
    cases get2
    exact other fields data
  have gone : now.heap.get? a = none := by
    refine Option.eq_none_iff_forall_ne_some.mpr fun o e => ?_
    have := ground a o e (hst ▸ away)
    rw [fly.2.1] at this
    cases this
  refine ⟨?_, fun p m e => ?_, fun e => away (List.mem_filterMap.mpr ⟨X.env, List.mem_cons_self, by rw [e]; exact hloc⟩), fun m => ?_⟩
  · refine Option.eq_none_iff_forall_ne_some.mpr fun o e => ?_
    obtain ⟨_, e2⟩ := I.base.there a o e (by rw [hex]; exact List.not_mem_nil)
    rw [gone] at e2
    cases e2
  · have e2 := (I.pin p m).1
    rw [e, gone] at e2
    cases e2
  · obtain ⟨v, m2, e2⟩ := List.mem_filterMap.mp m
    exact away (List.mem_filterMap.mpr ⟨v, List.mem_cons_of_mem _ m2, e2⟩)
section
variable {X : Cx} {x n : Str} {i : Nat} {body : List Stmt} {b₀ : Stmt} {np pos pos' : Pos} {tb : WX → TS} {ts : Addr → Addr → TS} {c : Addr}
/-- the state in which the suite begins, and what it owes -/
def Owes (X : Cx) (i : Nat) (c : Addr) (ts : Addr → Addr → TS) (D : Ends) : WX := fun cls d σ H =>
  ∃ C, cls = .ref C ∧ d = none ∧ PySem.W.exmOne X.K cls (.ref c) = some true ∧ ∀ a, H a = none → ts a C { nx := fun σ' H' => H' a = none → D.nx (σ'.set i none) (upd H' a (ExK C a)), rt := fun _ _ => False } (σ.set i (some (.ref a))) H
/-- the suite, from the moment at which it begins -/
theorem suite_keep {E1 E2 : Value → Shared → Prop} {pins : List (Addr × Obj)} {σ : L2.St} {H : Hp} {now : Shared} {a C : Addr} {oa : Obj} {fields : Array Value} {D : Ends} (ok : X.Ok) (hN : X.N.Nodup) (hi : X.N[i]? = some n) (hln : X.env.kindOf n = some .local) (nw : NewAt X pins a) (hz : Zc (.ref C) none oa) (hd : oa.data = .fields fields)
    (hsu : PSs (X.suite a ((a, oa) :: (X.pn ++ pins))) [b₀] (ts a C)) (I : Inv (X.suite a ((a, oa) :: (X.pn ++ pins))) [] σ H now)
    (owe : ts a C { nx := fun σ' H' => H' a = none → D.nx (σ'.set i none) (upd H' a (ExK C a)), rt := fun _ _ => False } (σ.set i (some (.ref a))) H) :
    wpAny (model X.prog X.w) (X.A.mark (some (.ref a))) (storeName X.env n (.ref a)) (fun _ s2 => wpAny (model X.prog X.w) (X.A.mark (some (.ref a))) (execs [b₀] X.env) (fun fl s3 => wpAny (model X.prog X.w) X.A (do bindName X.env n .none; unbindBehindTheSuite X.env n pos') (fun _ s4 => SP X pins D fl s4) X.xe s3) E1 s2) E2 now := by
  refine store_ok (X := X.suite a ((a, oa) :: (X.pn ++ pins))) (v := .ref a) I hN hi (.inl hln) rfl (fun s2 I2 => ?_) (.inr hln)
  refine wpAny_mono (hsu.run [] s2 _ H _ I2 owe) (fun fl s3 ends => ?_) fun _ _ z => False.elim z
  match fl, ends with
  | .next, ⟨_, _, I3, due⟩ =>
    refine gone_ok (X := X.suite a ((a, oa) :: (X.pn ++ pins))) I3 hN hi hln fun s4 I4 => ?_
    have still := I4.pin (a, oa) (List.mem_append_left _ List.mem_cons_self)
    exact ⟨_, _, inv_track (I4.unsuite ok) still.1 hz hd still.2.1 nw.entry nw.loc nw.held, due still.2.1⟩
  | .brk, ⟨_, _, _, z⟩ => exact z.elim
  | .cont, ⟨_, _, _, z⟩ => exact z.elim
  | .ret _, ⟨_, _, _, _, _, z⟩ => exact z.elim
theorem ps_try_keep (hst : X.stack = X.env :: X.outer) (hf : X.env.frame = some X.env.locals) (hN : X.N.Nodup) (hi : X.N[i]? = some n) (hln : X.env.kindOf n = some .local) (hg : Gl X x) (hdx : (x == ("__debug__" : Str)) = false) (hx : X.mg x = some (.ref c)) (hex : X.ex = [])
    (tried : ∀ (W : WX) (pn : List (Addr × Obj)) (xe : Value → Shared → Prop), Takes (X.tr pn xe) W → PassesOwn (model X.prog X.w) X.A X.env xe → PSs (X.tr pn xe) body (tb W))
    (hsu : ∀ (a : Addr) (oa : Obj) (C : Addr) (pn : List (Addr × Obj)), PSs (X.suite a ((a, oa) :: pn)) [b₀] (ts a C)) :
    PS X (.Try body [.ExceptHandler (some (.Name x np)) (some n) [b₀] pos'] [] [] pos) (fun D σ H => tb (Owes X i c ts D) D σ H) := by
  refine ⟨fun pins s σ H D I0 h => wpAny_Try_except ?_⟩
  have ok := I0.ok
  have frames : X.A.frames = some (X.env :: X.outer) := ok.frames.trans (by rw [hst])
  have run := tried (Owes X i c ts D) (X.pn ++ pins) (fun e s₁ => wpAny (model X.prog X.w) X.A (noteFrame e X.env) (fun _ s₂ => wpAny (model X.prog X.w) X.A (setFlight e none) (fun _ s₃ => wpAny (model X.prog X.w) X.A (handleBy e X.env [.ExceptHandler (some (.Name x np)) (some n) [b₀] pos']) (SP X pins D) X.xe s₃) X.xe s₂) X.xe s₁)
    (fun u air up => ?_) PassesOwn.looking
  · refine wpAny_mono (run.run [] s σ H D (I0.toTry _) h) (fun fl s1 ends => ?_) fun _ _ z => z
    match fl, ends with
    | .next, ⟨_, _, J, q⟩ => exact wpAny_execs_nil ⟨_, _, J.ofTry ok, q⟩
    | .brk, ⟨_, _, J, q⟩ => exact ⟨_, _, J.ofTry ok, q⟩
    | .cont, ⟨_, _, J, q⟩ => exact ⟨_, _, J.ofTry ok, q⟩
    | .ret _, ⟨_, _, _, J, r, q⟩ => exact ⟨_, _, _, J.ofTry ok, r, q⟩
  · obtain ⟨a, B, mid, _, σ1, H1, _, _, rfl, J0, ground, slots, sky, na, os, bare, C, rfl, rfl, fits, owe⟩ := up
    have J : Inv X pins σ1 H1 mid := J0.ofTry ok
    refine Sky.land Zc.steady frames hf (hst ▸ sky) fun hL fly1 up1 => ?_
    have nw := newAt_of hex hst hf J ground fly1
    have J1 : Inv X pins σ1 H1 { air with heap := hL } := J.landed ground fly1.1 (slots.trans up1) os bare
    obtain ⟨o1, f1, get1, z1, d1⟩ := fly1.there
    refine wpAny_handleBy_cons (codeAny_handlers_test ?_) (fun z => by cases z)
    refine ld_glob (X := X.suite a ((a, o1) :: (X.pn ++ pins))) (J1.suite get1 d1 na nw.loc nw.fr) hg hx ?_ hdx
    refine (PySem.W.exm_one (M := model X.prog X.w) J1.kIn (fun A Q E s k q => wpAny_typeOf_ref (k _ _ get1) (by rw [z1.1]; exact q)) fits).here ?_
    refine codeAny_handlers_suite_as (HandSPX.lands_againZ fly1 fun hM fly2 up2 => ?_)
    obtain ⟨o2, f2, get2, z2, d2⟩ := fly2.there
    have J2 : Inv X pins σ1 H1 { air with heap := hM } := J.landed ground fly2.1 ((slots.trans up1).trans up2) os bare
    exact suite_keep ok hN hi hln nw z2 d2 (hsu a o2 C _) (J2.suite get2 d2 na nw.loc nw.fr) (owe a na)
end
section
variable {X : Cx} {PX : PY} {ρ : Ro} {cs : Cs} {e a b o : Expr} {P : PD} {pos p apos pos' np hp1 p1 p2 p3 : Pos} {x y n : Str} {B : Nat} {E : En} {body : List Stmt} {c : Addr}
/-- try: .. except x as n: y = n -/
theorem ws_tryKeep (i j : Nat) (hx : X.mg x = some (.ref c)) (hN : X.N.Nodup)
    (h : ∀ (Wx : WX) (pn : List (Addr × Obj)) (xe : Value → Shared → Prop), Takes (X.tr pn xe) Wx → PassesOwn (model X.prog X.w) X.A X.env xe → WSYs (X.tr pn xe) Wx B body { nx := E.nx, rt := fun _ _ => False } (fun C ρ' cs' => i < ρ'.length ∧ i ≠ j ∧ PySem.W.exmOne X.K (.ref C) (.ref c) = some true ∧ E.nx ((ρ'.set j (some (.exc C))).set i none) cs') ρ cs)
    (hst : X.stack = X.env :: X.outer := by rfl) (hfr : X.env.frame = some X.env.locals := by rfl) (hex : X.ex = [] := by rfl) (hi : X.N[i]? = some n := by rfl) (hj : X.N[j]? = some y := by rfl) (hk : X.env.kindOf n = some .local := by rfl) (hky : X.env.kindOf y = some .local := by rfl) (hg : Gl X x := by rfl)
    (hdx : (x == ("__debug__" : Str)) = false := by decide) (hv : Vis X.env.scope n := by first | exact .inl rfl | exact .inr rfl | rfl) (hly : Loc X.env.scope y := by first | exact .inl rfl | exact .inr rfl) (hd : (n == ("__debug__" : Str)) = false := by decide) (hd2 : (n == ("__classdict__" : Str)) = false := by decide)
    (hsw : swapsWith (.Name n p1) (some (.Name y p2)) p3.line X.env = pure false := by rfl) :
    WS X B (.Try body [.ExceptHandler (some (.Name x np)) (some n) [.Assign [.Name y p2] (.Name n p1) p3] hp1] [] [] pos) E ρ cs := by
  refine ps_imp (ps_try_keep (i := i) (tb := fun Wx => tSY Wx B { nx := E.nx, rt := fun _ _ => False } (fun C ρ' cs' => i < ρ'.length ∧ i ≠ j ∧ PySem.W.exmOne X.K (.ref C) (.ref c) = some true ∧ E.nx ((ρ'.set j (some (.exc C))).set i none) cs') ρ cs) (ts := fun a C => tAsg (tVar i) (gName j)) hst hfr hN hi hk hg hdx hx hex
    (fun Wx pn xe tk po => h Wx pn xe tk po) (fun a oe C pn => pss_one (ps_set hN hj hly (pv i hi hv hd hd2) hsw (.inr hky)))) fun DD σ H ⟨hB, as, hs, ft, qn, qr, qb, qc⟩ => ?_
  have hB' : B ≤ as.length := by rw [← ft.cells.len]; exact hB
  refine ⟨as, hs, hB', ft, ⟨qn, fun _ _ _ _ _ _ _ _ z => z.elim, fun _ _ _ _ _ _ _ z => z.elim, fun _ _ _ _ _ _ _ z => z.elim⟩, fun σ' H' as' ρ' cs' C g f' ⟨hl, hne, he, hp⟩ => ?_⟩
  have hi' : i < σ'.length := by rw [← f'.slen]; exact hl
  refine ⟨C, rfl, rfl, he, fun a hn => ⟨.ref a, List.getElem?_set_self hi', fun hn2 => ?_⟩⟩
  have fr := f'.cells.fresh hn
  have F2 : Fit as' hs ((ρ'.set j (some (.exc C))).set i none) cs' (((σ'.set i (some (.ref a))).set j (some (.ref a))).set i none) (upd H' a (ExK C a)) := by
    refine ⟨f'.cells.laid hn, by simp [f'.slen], fun q d eq => ?_⟩
    by_cases hq : q = i
    · subst hq
      have : q < (ρ'.set j (some (.exc C))).length := by simpa using hl
      rw [List.getElem?_set_self this] at eq; cases eq
    · rw [List.getElem?_set_ne (Ne.symm hq)] at eq ⊢
      by_cases hqj : q = j
      · subst hqj
        by_cases hlt : q < ρ'.length
        · rw [List.getElem?_set_self hlt] at eq
          cases eq
          exact ⟨.ref a, List.getElem?_set_self (by simp; rw [← f'.slen]; exact hlt), .exc fr.1 fr.2 upd_same⟩
        · rw [List.getElem?_eq_none (by simp; omega)] at eq; cases eq
      · rw [List.getElem?_set_ne (Ne.symm hqj)] at eq ⊢
        rw [List.getElem?_set_ne (Ne.symm hq)]
        obtain ⟨v, h1, r⟩ := f'.slot q d eq
        exact ⟨v, h1, r.grow (Grow.laid hn)⟩
  exact qn _ _ as' _ cs' (g.trans ((Grow.laid hn).B B) hB') F2 hp

/-! ### isinstance of it -/
theorem exK_kit {pins : List (Addr × Obj)} {σ : L2.St} {H : Hp} {s : Shared} {a C : Addr} (I : Inv X pins σ H s) (hC : ExcC X.K C) (ha : H a = some (ExK C a)) : ∃ Pr : Heap → Prop, PySem.W.KitX X.K (.ref a) (.ref C) Pr ∧ Pr s.heap := by
  obtain ⟨⟨oe, vs, ho, hz, hd⟩, _, _⟩ := I.hok a _ ha
  have J : PySem.W.InstAt s.heap a oe C none := by
    cases oe
    cases hz.1
    cases hz.2
    cases hd
    exact ⟨ho, rfl, rfl, trivial⟩
  exact ⟨_, PySem.W.handS_kitx_exc hC.hg hC.hk hC.hs hC.hd hC.ha hC.hn hC.ht hC.hm, J⟩
def rIsK (K : PySem.W.Frag) : List V → Hp → VK → Prop := fun xs H Q => ∃ (a C : Addr) (cv : V) (u : Value) (b : Bool), xs = [.ref a, cv] ∧ H a = some (ExK C a) ∧ ExcC K C ∧ ClsV cv u ∧ PySem.W.kitOne K (.ref C) u = some b ∧ Q (.bl b) H
def rIsKT (K : PySem.W.Frag) : List V → Hp → VK → Prop := fun xs H Q => ∃ (a C tp : Addr) (cvs : List V) (us : List Value) (b : Bool), xs = [.ref a, .ref tp] ∧ H a = some (ExK C a) ∧ ExcC K C ∧ H tp = some (.tup cvs) ∧ Paired ClsV cvs us ∧ PySem.W.kitAny K (.ref C) us = some b ∧ Q (.bl b) H
theorem call_isK : CallR X (.builtin "isinstance") (rIsK X.K) := by
  rintro pins s σ H xs us Q I r ⟨a, C, cv, u, b, rfl, ha, hC, k, e, q⟩
  rcases vals2 r with ⟨u1, u2, rfl, r1, r2⟩
  cases k.eq r2
  cases (show (u1 = Value.ref a) from r1)
  obtain ⟨Pr, Z, pr⟩ := exK_kit I hC ha
  exact PySem.W.kia_one Z I.kIn pr e (fun z => nomatch z) fun tk => ⟨.bl b, H, I.tok tk, rfl, q⟩
theorem call_isKT : CallR X (.builtin "isinstance") (rIsKT X.K) := by
  rintro pins s σ H xs us Q I r ⟨a, C, tp, cvs, ws, b, rfl, ha, hC, hT, k, e, q⟩
  rcases vals2 r with ⟨u1, u2, rfl, r1, r2⟩
  cases (show (u1 = Value.ref a) from r1)
  cases (show (u2 = Value.ref tp) from r2)
  obtain ⟨Pr, Z, pr⟩ := exK_kit I hC ha
  obtain ⟨_, its, rv, ob, h1, h2, m, h3⟩ := (show ObjOk X.prog X.w H s.heap tp (.tup cvs) from I.hok tp _ hT)
  have e3 := ClsV.all k rv
  subst e3
  obtain ⟨oc, od, dt, sl⟩ := ob
  simp only at h2 h3
  subst h2 h3
  exact PySem.W.kia_tup Z I.kIn pr h1 e (fun z => nomatch z) fun tk => ⟨.bl b, H, I.tok tk, rfl, q⟩
/-- a class as a value -/
def clsD : D → Option Value
  | .obj c => some (.ref c)
  | .ty n => some (.type n)
  | _ => none
theorem clsD_V {as hs : List Addr} {H : Hp} {d : D} {v : V} {u : Value} (r : Rep as hs H d v) (h : clsD d = some u) : ClsV v u := by
  cases r with
  | obj => cases h; exact .own _
  | ty => cases h; exact .ty _
  | _ => cases h
theorem clsL_V {as hs : List Addr} {H : Hp} : ∀ {ds : List D} {vs : List V} {us : List Value}, RepL as hs H ds vs → ds.map clsD = us.map some → Paired ClsV vs us
  | _, _, [], .nil, _ => .nil
  | _, _, _ :: _, .nil, h => by cases h
  | _, _, [], .cons _ _, h => by cases h
  | _, _, _ :: _, .cons r t, h => by
    have h' := List.cons.inj h
    exact .cons (clsD_V r h'.1) (clsL_V t h'.2)
theorem w_isK (hm : X.mg "isinstance" = none) (h : WA X [a, b] ρ cs fun ds cs1 => ∃ C d u k, ds = [.exc C, d] ∧ clsD d = some u ∧ ExcC X.K C ∧ PySem.W.kitOne X.K (.ref C) u = some k ∧ P (.bl k) cs1) (hg : Gl X "isinstance" := by rfl) (he : starEach [a, b] X.env = (false, eval a X.env) :: starEach [b] X.env := by rfl) (hpl : (backTo pos (starEach [b] X.env)).any (·.1) = false := by rfl) :
    W X (.Call (.Name "isinstance" p) [a, b] [] pos) ρ cs P := by
  refine w_bi (g := fun ds cs1 P => ∃ C d u k, ds = [.exc C, d] ∧ clsD d = some u ∧ ExcC X.K C ∧ PySem.W.kitOne X.K (.ref C) u = some k ∧ P (.bl k) cs1) call_isK ?_ hm (by decide +kernel) h hg (he := he) (hpl := hpl)
  rintro as hs H vs ds cs P Q c r ⟨C, d, u, k, rfl, hd, hC, hk, hp⟩ q
  cases r with
  | cons r tl =>
    cases tl with
    | cons r' tl =>
      cases tl
      cases r with
      | exc n1 n2 hH => exact ⟨_, C, _, u, k, rfl, hH, hC, clsD_V r' hd, hk, q _ _ _ _ _ (Grow.refl as H) c .bl hp⟩
theorem w_isKT (hm : X.mg "isinstance" = none) (h : WA X [a, b] ρ cs fun ds cs1 => ∃ C xs us k, ds = [.exc C, .tup xs] ∧ xs.map clsD = us.map some ∧ ExcC X.K C ∧ PySem.W.kitAny X.K (.ref C) us = some k ∧ P (.bl k) cs1) (hg : Gl X "isinstance" := by rfl) (he : starEach [a, b] X.env = (false, eval a X.env) :: starEach [b] X.env := by rfl) (hpl : (backTo pos (starEach [b] X.env)).any (·.1) = false := by rfl) :
    W X (.Call (.Name "isinstance" p) [a, b] [] pos) ρ cs P := by
  refine w_bi (g := fun ds cs1 P => ∃ C xs us k, ds = [.exc C, .tup xs] ∧ xs.map clsD = us.map some ∧ ExcC X.K C ∧ PySem.W.kitAny X.K (.ref C) us = some k ∧ P (.bl k) cs1) call_isKT ?_ hm (by decide +kernel) h hg (he := he) (hpl := hpl)
  rintro as hs H vs ds cs P Q c r ⟨C, xs, us, k, rfl, hd, hC, hk, hp⟩ q
  cases r with
  | cons r tl =>
    cases tl with
    | cons r' tl =>
      cases tl
      cases r with
      | exc n1 n2 hH =>
        cases r' with
        | tup m1 m2 hT rl => exact ⟨_, C, _, _, us, k, rfl, hH, hC, hT, clsL_V rl hd, hk, q _ _ _ _ _ (Grow.refl as H) c .bl hp⟩
end
end Rg
set_option Elab.async false
set_option linter.all false
set_option maxRecDepth 100000
/-! xs.count of truth values; small things for errors -/
namespace Rg
open PySem PySem.Spec
open PyProof.Rows L2
theorem callR_none {X : Cx} {f : Value} : CallR X f (fun _ _ _ => False) := fun _ _ _ _ _ _ _ _ _ h => h.elim
theorem opR_none {X : Cx} {op : Value → Value → Sem Value} : OpR X op (fun _ _ _ _ => False) := fun _ _ _ _ _ _ _ _ _ _ _ _ h => h.elim
theorem spN_ofD {g : GN} : ∀ vs H Q E, spD (fun ds cs P => g ds cs fun xs cs' => P (.lst xs) cs') vs H Q E → spN g vs H Q E := fun vs H Q E ⟨as, hs, ds, cs, P, c, r, hg, q⟩ =>
  ⟨as, hs, ds, cs, _, c, r, hg, fun p H1 as' ds' vs' cs' gr c' n rl hp => by
    have np := c'.fresh n
    exact q _ _ as' (.lst ds') cs' (gr.trans (Grow.laid n)) (c'.laid n) (.lst np.1 np.2 upd_same (rl.grow (Grow.laid n))) hp⟩
theorem kitAny_no {K : PySem.W.Frag} {t : Value} : ∀ {us : List Value}, (∀ u ∈ us, PySem.W.kitOne K t u = some false) → PySem.W.kitAny K t us = some false
  | [], _ => kitAny_nil
  | u :: us, h => kitAny_cons (h u List.mem_cons_self) (fun _ => kitAny_no fun v hv => h v (List.mem_cons_of_mem _ hv)) fun e => nomatch e
theorem eqU_count (k : Bool) : ∀ {ns : List Bool} {its : List Value}, Vals (ns.map V.bl) its → its.countP (eqU (.bl k)) = ns.count k
  | [], _, .nil => rfl
  | b :: ns, _, .cons r t => by
    have e := eqU_of (x := .bl k) r rfl
    rw [List.countP_cons, List.count_cons, eqU_count k t, e]
    rfl
theorem all_flatB (ns : List Bool) : (ns.map V.bl).all flatV = true := by simp [flatV]
def rCntB (K : PySem.W.Frag) : V → List V → Hp → VK → Prop := fun x xs H Q => ∃ (p : Addr) (ns : List Bool) (k : Bool), x = .ref p ∧ xs = [.bl k] ∧ SqL K H p (ns.map V.bl) ∧ Q (.int (ns.count k : Nat)) H
section
variable {X : Cx} {ρ : Ro} {cs : Cs} {e o : Expr} {P : PD} {pos p cpos apos : Pos}
theorem mt_countB : MtR X "list.count" (rCntB X.K) := by
  rintro pins s σ H x xs v us Q I rx rxs ⟨p, ns, k, rfl, rfl, hs, q⟩
  cases rx
  rcases rxs.one with ⟨u, rfl, ru⟩
  rcases I.list hs with ⟨its, rv, ⟨⟨cls, dd, data, sl⟩, n, ho, hc, hdn, hd⟩, hlen⟩
  dsimp only at hc hd
  cases hc
  cases hd
  refine call_meets PySem.F.slot_list_count ⟨_, ho, rfl⟩ PySem.F.entry_list_count (PySem.F.args_list_count_2 _ _) (SeqAt.list_countAt p its.toArray n dd sl u (eqU (.bl k))) ⟨ho, fun y hy => mem_eqAt ru rfl rv (all_flatB ns) y (by simpa using hy), ?_⟩
  have ec := eqU_count k rv
  exact ⟨.int ((ns.count k : Nat) : Int), H, I.tok _, ⟨s.toks, by rw [← ec]⟩, q⟩
theorem w_countB (h : W X o ρ cs fun d cs1 => ∃ ns : List Bool, LstD cs1 d (ns.map .bl) ∧ WA X [e] ρ cs1 fun ds cs2 => LstD cs2 d (ns.map .bl) ∧ ∃ y : Bool, ds = [.bl y] ∧ P (.int (ns.count y : Nat)) cs2)
    (hbase : attributeBase o "count" X.env (eval o X.env) = eval o X.env := by rfl) (hfew : ((backTo cpos (starEach [e] X.env)).all (fun x => !x.1) && (backToKw cpos (keywordEach [] X.env)).all (fun x => x.1.isSome) && decide (([e] : List Expr).length + ([] : List Keyword).length + (if ([] : List Keyword).isEmpty then 0 else 1) < 30)) = true := by rfl)
    (hline : (apos.endLine == cpos.line) = true := by rfl) (hs : starEach [e] X.env = (false, eval e X.env) :: starEach [] X.env := by rfl) :
    W X (.Call (.Attribute o "count" apos) [e] [] cpos) ρ cs P := by
  refine w_of (pe_bm PySem.F.plainAttrs_list PySem.F.slot_list_count PySem.F.type_list_count mt_countB h (pa_any (S := WA X [e]) fun _ _ _ z => z) hbase hfew hline hs) fun as hs σ H Q f q => sub1 f fun v H1 as1 d cs1 g1 f1 r1 p1 => ?_
  obtain ⟨ns, hl, p1⟩ := p1
  obtain ⟨a, us, rfl, hr, rl⟩ := hl.rep f1.cells r1
  refine ⟨.inl ⟨rfl, _, .inl hr⟩, ρ, cs1, _, p1, subA f1 fun vs H2 as2 ds cs2 g2 f2 r2 ⟨hl2, y, ed, p2⟩ => ?_⟩
  subst ed
  obtain ⟨a2, us2, e2, hr2, rl2⟩ := hl2.rep f2.cells (r1.grow g2)
  cases e2
  have eu : us2 = ns.map V.bl := repL_bls' rl2
  subst eu
  cases r2 with
  | cons r2 t =>
    cases t
    cases r2
    exact ⟨a, ns, y, rfl, rfl, .inl hr2, q _ _ as2 _ _ (g1.trans g2) f2.cells .int p2⟩
end
end Rg
set_option Elab.async false
set_option linter.all false
set_option maxRecDepth 100000
/-! texts of objects with dicts in them; {} and {"0": 1} -/
namespace Rg
open PySem PySem.Spec
open PyProof.Rows L2
mutual
/-- what stands in the heap, where a dict is never the table of the modules -/
inductive RdX (h : Heap) : Value → PyData → Prop
  | flat {v d as} : Reads h v d as → d.hasDict = false → RdX h v d
  | dict {a d as} : Reads h (.ref a) d as → sysModules ∉ as → RdX h (.ref a) d
  | list {a o vs n xs} : h.get? a = some o → o.cls = .type "list" → o.data = .seq vs n → RdXs h vs.toList xs → RdX h (.ref a) (.list xs)
inductive RdXs (h : Heap) : List Value → List PyData → Prop
  | nil : RdXs h [] []
  | cons {v vs d ds} : RdX h v d → RdXs h vs ds → RdXs h (v :: vs) (d :: ds)
end
mutual
theorem RdX.reads {h : Heap} : ∀ {v d}, RdX h v d → ∃ as, Reads h v d as
  | _, _, .flat r _ => ⟨_, r⟩
  | _, _, .dict r _ => ⟨_, r⟩
  | _, _, .list h1 h2 h3 r => by
    obtain ⟨as, q⟩ := RdXs.reads r
    exact ⟨_, .list h1 h2 h3 q⟩
theorem RdXs.reads {h : Heap} : ∀ {vs ds}, RdXs h vs ds → ∃ as, ReadsAll h vs ds as
  | _, _, .nil => ⟨_, .nil⟩
  | _, _, .cons r t => by
    obtain ⟨as, q⟩ := RdX.reads r
    obtain ⟨bs, z⟩ := RdXs.reads t
    exact ⟨_, .cons q z⟩
end
section
variable {prog : Program} {w : World} {h : Heap}
/-- shown at the level n -/
def ShX (prog : Program) (w : World) (h : Heap) (n : Nat) (v : Value) (t : Str) : Prop := ∃ bs, ReadAtMost h n bs ∧ ReprK prog w bs h n v t
def ShXs (prog : Program) (w : World) (h : Heap) (n : Nat) (vs : List Value) (ts : List Str) : Prop := ∃ bs, ReadAtMost h n bs ∧ ReprAllK prog w bs h n vs ts
theorem ShXs.cons {n m : Nat} {v : Value} {t : Str} {vs : List Value} {ts : List Str} (a : ShX prog w h n v t) (b : ShXs prog w h m vs ts) : ShXs prog w h (max n m) (v :: vs) (t :: ts) := by
  obtain ⟨b1, r1, k1⟩ := a
  obtain ⟨b2, r2, k2⟩ := b
  exact ⟨b1 ++ b2, (r1.mono (Nat.le_max_left n m)).append (r2.mono (Nat.le_max_right n m)), .cons ((k1.more fun b z => List.mem_append_left b2 z).level_le (Nat.le_max_left n m)) (k2.more_le (fun b z => List.mem_append_right b1 z) (Nat.le_max_right n m))⟩
mutual
theorem RdX.shows : ∀ {v d}, RdX h v d → d.showable = true → d.shown.length ≤ sizeLine → ShX prog w h d.depth v d.shown
  | _, _, .flat r q, hs, hz => ReprK.of_reads r hs (fun z => absurd z (by rw [q]; exact Bool.false_ne_true)) hz
  | _, _, .dict r q, hs, hz => ReprK.of_reads r hs (fun _ => q) hz
  | _, _, .list (a := a) (vs := vs) (xs := xs) h1 h2 h3 r, hs, hz => by
    rw [PyData.shown] at hz
    obtain ⟨as, q⟩ := RdXs.reads r
    obtain ⟨bs, below, kk⟩ := RdXs.shows r (by rw [PyData.showable] at hs; exact hs) fun t m => Nat.le_trans (listText_mem_le m) hz
    have up := Reads.list h1 h2 h3 q
    refine ⟨a :: bs, ReadAtMost.cons up (Nat.le_refl _) (by rw [PyData.depth]; exact below.mono (Nat.le_succ _)), ?_⟩
    rw [PyData.depth, PyData.shown]
    obtain ⟨items⟩ := vs
    match items, r, kk with
    | [], .nil, _ => rw [PyData.shownAll, listText_nil]; exact ReprK.listEmpty h1 h2 h3
    | x :: l, _, kk => exact ReprK.list h1 h2 h3 (not_mem_of_deeper up (by rw [PyData.depth]; exact Nat.lt_succ_self _) below) (by simpa using kk.length_eq) fun i y e => kk.item i y (by simpa using e)
theorem RdXs.shows : ∀ {vs ds}, RdXs h vs ds → PyData.showableAll ds = true → (∀ t ∈ PyData.shownAll ds, t.length ≤ sizeLine) → ShXs prog w h (PyData.depthAll ds) vs (PyData.shownAll ds)
  | _, _, .nil, _, _ => ⟨[], (fun _ z => nomatch z), by simp only [PyData.shownAll]; exact .nil⟩
  | _, _, .cons r t, hs, hz => by
    rw [PyData.showableAll, Bool.and_eq_true] at hs
    rw [PyData.shownAll] at hz
    rw [PyData.depthAll, PyData.shownAll]
    exact ShXs.cons (RdX.shows r hs.1 (hz _ List.mem_cons_self)) (RdXs.shows t hs.2 fun t m => hz t (List.mem_cons_of_mem _ m))
end
/-- repr of a list that has something in it -/
theorem repr_listX {A : Around} {E : Value → Shared → Prop} {Q : Value → Shared → Prop} {s : Shared} {a : Addr} {o : Obj} {x : Value} {l : List Value} {n : Nat} {xs : List PyData} (h1 : s.heap.get? a = some o) (h2 : o.cls = .type "list") (h3 : o.data = .seq (x :: l).toArray n) (r : RdXs s.heap (x :: l) xs)
    (hs : (PyData.list xs).showable = true) (hz : (PyData.list xs).shown.length ≤ sizeLine) (hg : A.guards = some []) (hu : A.units + ((PyData.list xs).depth + 1) < cLine)
    (hQ : ∀ h' u tk, (∀ b o, s.heap.get? b = some o → h'.get? b = some o) → Q (.str (PyData.list xs).shown u) { s with heap := h', toks := tk }) : wpAny (model prog w) A (call (.builtin "repr") [.ref a]) Q E s := by
  rw [PyData.shown] at hz hQ
  rw [PyData.depth] at hu
  obtain ⟨as, q⟩ := RdXs.reads r
  obtain ⟨bs, below, kk⟩ := RdXs.shows (prog := prog) (w := w) r (by rw [PyData.showable] at hs; exact hs) fun t m => Nat.le_trans (listText_mem_le m) hz
  have up : Reads s.heap (.ref a) (.list xs) _ := Reads.list h1 h2 h3 q
  refine call_repr_slot (by omega) ⟨o, h1, h2⟩ PySem.F.slot_list_repr.toG ?_
  exact call_list_reprK (h₀ := s.heap) h1 h2 h3 (not_mem_of_deeper up (by rw [PyData.depth]; exact Nat.lt_succ_self _) below) (by simpa using kk.length_eq) (fun i y e => kk.item i y (by simpa using e)) (by show A.guards = _; exact hg) (fun b _ => Clear.nil b) (by show A.units + 1 + _ < _; omega) (fun _ _ e => e) (fun h' u tk k => ⟨_, _, rfl, hQ h' u tk k⟩) hz
end
/-! ### trees with dicts -/
def keyPy : Key → PyData
  | .inl i => .int i
  | .inr s => .str s
mutual
inductive ToPyX (cs : Cs) : D → PyData → Prop
  | flat {d p} : ToPy cs d p → p.hasDict = false → ToPyX cs d p
  | dct {L : List (Key × Int)} : ToPyX cs (.dct (L.map (·.1)) (L.map fun p => .int p.2)) (.dict (L.map fun p => (keyPy p.1, .int p.2)))
  | lst {xs ps} : ToPyXL cs xs ps → ToPyX cs (.lst xs) (.list ps)
inductive ToPyXL (cs : Cs) : List D → List PyData → Prop
  | nil : ToPyXL cs [] []
  | cons {x xs p ps} : ToPyX cs x p → ToPyXL cs xs ps → ToPyXL cs (x :: xs) (p :: ps)
end
theorem key_read {h : Heap} {k : Key} {v : Value} (e : keyIs k v = true) : Reads h v (keyPy k) [] := by
  rcases keyIs_shape e with ⟨i, t, rfl, rfl⟩ | ⟨x, t, rfl, rfl⟩
  · exact .int i t
  · exact .str x t
theorem pairs_read {P : Program} {w : World} {h : Heap} : ∀ {L : List (Key × Int)} {es : List DictEntry} {kvs : List (Key × Value)}, Pairs (mixKind P w) es kvs → KV (L.map fun p => (p.1, V.int p.2)) kvs →
    ReadsAll h (es.map (·.key)) ((L.map fun p => (keyPy p.1, PyData.int p.2)).map (·.1)) [] ∧ ReadsAll h (es.map (·.val)) ((L.map fun p => (keyPy p.1, PyData.int p.2)).map (·.2)) []
  | [], _, _, hp, r => by
    cases r
    cases hp
    exact ⟨.nil, .nil⟩
  | p :: L, [], _, hp, r => by
    cases hp
    cases r
  | p :: L, e0 :: es, [], hp, r => by cases r
  | p :: L, e0 :: es, kv :: kvs, hp, r => by
    cases r with
    | cons r1 rt =>
      cases hp with
      | cons k1 v1 pt =>
        obtain ⟨a, b⟩ := pairs_read (h := h) pt rt
        obtain ⟨e1, tk, ev⟩ := r1
        have k2 : keyIs kv.1 e0.key = true := k1
        rw [← show p.1 = kv.1 from e1] at k2
        refine ⟨.cons (as := []) (key_read k2) a, .cons (as := []) ?_ b⟩
        show Reads h e0.val (.int p.2) []
        rw [v1, ev]
        exact .int _ _
theorem zip_map2 {α β γ : Type} {f : α → β} {g : α → γ} : ∀ l : List α, (l.map f).zip (l.map g) = l.map fun p => (f p, g p)
  | [] => rfl
  | a :: l => by rw [List.map_cons, List.map_cons, List.zip_cons_cons, zip_map2 l]; rfl
section
variable {X : Cx} {pins : List (Addr × Obj)} {σ : L2.St} {H : Hp} {s : Shared} {as hs : List Addr} {cs : Cs}
mutual
theorem ToPyX.rd (I : Inv X pins σ H s) (c : Cells as hs cs H) : ∀ {d p}, ToPyX cs d p → ∀ {v u}, Rep as hs H d v → RelV v u → RdX s.heap u p
  | _, p, .flat t q, v, u, r, e => by
    obtain ⟨_, z⟩ := Dp.reads I p v u (t.dp (K := X.K) c r) e
    exact .flat z q
  | _, _, .dct (L := L), v, u, r, e => by
    cases r with
    | @dct a _ vs _ n1 n2 hH hl rl =>
      cases (show u = Value.ref a from e)
      have ev : vs = (L.map (·.2)).map V.int := repL_ints' (by rw [List.map_map]; exact rl)
      subst ev
      rw [List.map_map, zip_map2] at hH
      obtain ⟨_, hne, kvs, rk, o, es, ep, h1, h2, h3, _, hp, _⟩ := dk_of I.hok hH
      obtain ⟨ka, va⟩ := pairs_read (h := s.heap) hp rk
      exact .dict (.dict h1 h2.1 h3 ka va) fun z => by
        rw [List.append_nil, List.mem_singleton] at z
        rw [← z] at hne
        exact absurd hne (by simp)
  | _, _, .lst t, v, u, r, e => by
    cases r with
    | @lst a vs _ n1 n2 hH rl =>
      cases (show u = Value.ref a from e)
      obtain ⟨its, rv, ⟨o, n, ho, hc, _, hd⟩, _⟩ := I.list (show SqL X.K H a vs from .inl (.inl hH))
      exact .list ho hc hd (ToPyXL.rd I c t rl rv)
theorem ToPyXL.rd (I : Inv X pins σ H s) (c : Cells as hs cs H) : ∀ {ds ps}, ToPyXL cs ds ps → ∀ {vs us}, RepL as hs H ds vs → Vals vs us → RdXs s.heap us ps
  | _, _, .nil, _, _, r, e => by
    cases r
    cases e
    exact .nil
  | _, _, .cons t1 t2, _, _, r, e => by
    cases r with
    | cons r1 r2 =>
      cases e with
      | cons e1 e2 => exact .cons (ToPyX.rd I c t1 r1 e1) (ToPyXL.rd I c t2 r2 e2)
end
end
section
variable {X : Cx} {ρ : Ro} {cs : Cs} {e : Expr} {P : PD} {pos p : Pos}
def rReprX : List V → Hp → VK → Prop := fun xs H Q => ∃ (as hs : List Addr) (cs : Cs) (a : Addr) (d : D) (ds : List D) (p : PyData) (ps : List PyData), xs = [.ref a] ∧ Cells as hs cs H ∧ Rep as hs H (.lst (d :: ds)) (.ref a) ∧ ToPyXL cs (d :: ds) (p :: ps) ∧ (PyData.list (p :: ps)).showable = true ∧ (PyData.list (p :: ps)).depth ≤ 60 ∧ (PyData.list (p :: ps)).shown.length ≤ sizeLine ∧ Q (.str (PyData.list (p :: ps)).shown) H
theorem call_reprX (hg : X.A.guards = some []) (hu : X.A.units + 64 < cLine) : CallR X (.builtin "repr") rReprX := by
  rintro pins s σ H xs us Q I r ⟨as, hs, cs, a, d, ds, p, ps, rfl, c, rep, t, hs1, hd, hz, q⟩
  cases Vals.ref1 r
  cases rep with
  | lst n1 n2 hH rl =>
    cases rl with
    | cons r1 r2 =>
      rcases I.list (show SqL X.K H a _ from .inl (.inl hH)) with ⟨its, rv, ⟨o, n, ho, hc, _, hdt⟩, _⟩
      cases rv with
      | cons v1 vt => exact repr_listX ho hc hdt (ToPyXL.rd I c t (.cons r1 r2) (.cons v1 vt)) hs1 hz hg (by omega) fun h' u tk hk => ⟨.str _, H, I.kept (t' := tk) hk, ⟨u, rfl⟩, q⟩
theorem w_reprX (hg : X.A.guards = some []) (hu : X.A.units + 64 < cLine) (hm : X.mg "repr" = none) (h : WA X [e] ρ cs fun ds cs1 => ∃ d rest p ps, ds = [.lst (d :: rest)] ∧ ToPyXL cs1 (d :: rest) (p :: ps) ∧ (PyData.list (p :: ps)).showable = true ∧ (PyData.list (p :: ps)).depth ≤ 60 ∧ (PyData.list (p :: ps)).shown.length ≤ sizeLine ∧ P (.str (PyData.list (p :: ps)).shown) cs1)
    (hgl : Gl X "repr" := by rfl) (he : starEach [e] X.env = (false, eval e X.env) :: starEach [] X.env := by rfl) : W X (.Call (.Name "repr" p) [e] [] pos) ρ cs P := by
  refine w_bi (g := fun ds cs1 P => ∃ d rest p ps, ds = [.lst (d :: rest)] ∧ ToPyXL cs1 (d :: rest) (p :: ps) ∧ (PyData.list (p :: ps)).showable = true ∧ (PyData.list (p :: ps)).depth ≤ 60 ∧ (PyData.list (p :: ps)).shown.length ≤ sizeLine ∧ P (.str (PyData.list (p :: ps)).shown) cs1) (call_reprX hg hu) ?_ hm (by decide +kernel) h hgl (he := he)
  rintro as hs H vs ds cs P Q c r ⟨d, rest, p, ps, rfl, t, h1, h2, h3, hp⟩ q
  cases r with
  | @cons _ _ v _ r tl =>
    cases tl
    obtain ⟨a, rfl⟩ : ∃ a, v = .ref a := by cases r; exact ⟨_, rfl⟩
    exact ⟨as, hs, cs, a, d, rest, p, ps, rfl, c, r, t, h1, h2, h3, q _ _ _ _ _ (Grow.refl as H) c .str hp⟩
/-- {} -/
theorem w_dict0 (h : P (.dct [] []) cs) : W X (.Dict [] [] pos) ρ cs P :=
  w_of pe_dnewK fun as hs σ H Q f q p hn => by
    have fr := f.cells.fresh hn
    exact q _ _ as (.dct [] []) cs (Grow.laid hn) (f.cells.laid hn) (.dct (ks := []) (vs := []) fr.1 fr.2 upd_same rfl .nil) h
/-- {"text": i} -/
theorem w_dict1 {s : Str} {i : Int} {j1 j2 : Nat} {p1 p2 : Pos} (h : P (.dct [.inr s] [.int i]) cs) : W X (.Dict [some (.Constant (.str s) j1 p1)] [.Constant (.int i) j2 p2] pos) ρ cs P :=
  w_of (pe_disp (pps_cons pe_str pe_int pps_nil) rfl rfl (by simp) (by simp)) fun as hs σ H Q f q p hn => by
    have fr := f.cells.fresh hn
    refine ⟨upd_same, [(.inr s, V.int i)], rfl, by simp, ?_⟩
    have e : upd (upd H p (.dK [])) p (.dK (mergeK [] [(.inr s, V.int i)])) = upd H p (.dK [(.inr s, V.int i)]) := by
      funext z
      by_cases hz : z = p
      · subst hz; rw [upd_same, upd_same]; rfl
      · rw [upd_ne hz, upd_ne hz, upd_ne hz]
    rw [e]
    exact q _ _ as (.dct [.inr s] [.int i]) cs (Grow.laid hn) (f.cells.laid hn) (.dct (ks := [.inr s]) (vs := [.int i]) fr.1 fr.2 upd_same rfl (.cons .int .nil)) h
end
end Rg
set_option Elab.async false
set_option linter.all false
set_option maxRecDepth 100000
/-! [e for x, y in a list of pairs if c] -/
namespace Rg
open PySem PySem.Spec
open PyProof.Rows L2
section
variable {X : Cx} {ρ : Ro} {cs : Cs} {elt e c iter : Expr} {PN : List D → Cs → Prop} {pos p px py tp : Pos} {kt : Nat} {x y : Str} {scope : Scope}
def LcP (X : Cx) (elt : Expr) (i j : Nat) (scope : Scope) (T : Ro → Cs → (Bool → Cs → Prop) → Prop) (ρ : Ro) (cs1 : Cs) (d : D) (PN : List D → Cs → Prop) : Prop := ∃ (xs : List D) (I : Nat → List D → Cs → Prop), I 0 [] cs1 ∧ (∀ k acc cs', I k acc cs' → LstD cs' d xs ∧ acc.length < 100000) ∧
  (∀ k x acc cs', xs[k]? = some x → I k acc cs' → ∃ d1 d2, x = .tup [d1, d2] ∧ T (((wipeD ρ [i, j]).set i (some d1)).set j (some d2)) cs' fun t cs2 => if t = true then Blk X scope fun Y => W Y elt (((wipeD ρ [i, j]).set i (some d1)).set j (some d2)) cs2 fun y cs3 => I (k + 1) (acc ++ [y]) cs3 else I (k + 1) acc cs2) ∧
  (∀ acc cs', I xs.length acc cs' → PN acc cs')
def pairRo (ρ : Ro) (i j : Nat) : Option D → Ro
  | some (.tup [d1, d2]) => ((wipeD ρ [i, j]).set i (some d1)).set j (some d2)
  | _ => ρ
theorem lcp_reads {i j : Nat} (hij : i ≠ j) {T : Ro → Cs → (Bool → Cs → Prop) → Prop} {as hs : List Addr} {σ : L2.St} {H0 : Hp} {Q : VK} (f : Fit as hs ρ cs σ H0) (q : FinN as hs H0 PN Q) :
    tLc (iList X.K (tD ρ cs fun d cs1 => LcP X elt i j scope T ρ cs1 d PN)) (gPair X.K i j) (tTst T) (tElt X elt scope) [i, j] σ H0 Q := by
  refine sub1 f fun v H1 as1 d cs1 g1 f1 r1 ⟨xs, I, i0, hl, step, done⟩ => ?_
  obtain ⟨a, vs, ev, hr, rl⟩ := (hl 0 [] cs1 i0).1.rep f1.cells r1
  subst ev
  refine ⟨a, rfl, ⟨vs, .inl hr⟩, lc_loop (n := xs.length) I (fun k => pairRo ρ i j xs[k]?) f1 i0 ?_ ?_ (fun k acc cs' z => (hl k acc cs' z).2) fun p H1' as' ds vs cs' g c n r hp => q p H1' as' ds vs cs' (g1.trans g) c n r (done ds cs' hp)⟩
  · intro Dd nD k as' cs' acc H hk g f' ik
    obtain ⟨a2, vs2, e2, hr2, rl2⟩ := (hl k acc cs' ik).1.rep f'.cells ((r1.hide nD).grow g)
    cases e2
    refine ⟨fun e => ⟨vs2, .inl hr2, by rw [← rl2.length, e]; exact Nat.le_refl _⟩, fun hlt => ⟨⟨vs2, vs2[k]'(by rw [← rl2.length]; exact hlt), .inl hr2, by simp⟩, fun v H' yy Q' kk => ?_⟩⟩
    obtain ⟨e3, yy⟩ := yy
    subst e3
    obtain ⟨x', hx', rx'⟩ := rl2.get' (yy vs2 (.inl hr2))
    obtain ⟨d1, d2, ex, _⟩ := step k x' acc cs' hx' ik
    subst ex
    cases rx' with
    | tup na nh hT rT =>
      cases rT with
      | cons q1 rT =>
        cases rT with
        | cons q2 rT =>
          cases rT
          refine ⟨_, _, rfl, .inl (.inl hT), rfl, _, _, rfl, _, _, rfl, rfl, kk _ _ (wipe2 hij) (Grow.refl as' _) ?_⟩
          rw [hx']
          exact (f'.set i q1).set j q2
  · intro k acc cs' as' hs' σ2 H2 Q' Qn hlt ik f2 k1 k2
    have hx : xs[k]? = some xs[k] := List.getElem?_eq_getElem hlt
    obtain ⟨d1, d2, ex, st⟩ := step k _ acc cs' hx ik
    rw [hx, ex] at f2
    refine ⟨_, cs', _, st, as', hs', f2, fun b H3 as3 cs3 g3 c3 p3 => ?_⟩
    cases b with
    | true =>
      rw [if_pos rfl] at p3 ⊢
      exact ⟨_, cs3, _, p3, as3, hs', f2.grow g3 c3, fun y H4 as4 d4 cs4 g4 c4 r4 p4 => k1 y H4 as4 d4 cs4 (g3.trans g4) c4 r4 p4⟩
    | false =>
      rw [if_neg Bool.false_ne_true] at p3 ⊢
      exact k2 H3 as3 cs3 g3 c3 p3
theorem wn_lpI (i j : Nat) (hij : i ≠ j) (hc : X.calm = true) (hN : X.N.Nodup) (ok : BlkOk X.N X.env.scope scope [(x, i), (y, j)]) (hg : PgP X scope x y px py tp kt i j) (h : W X iter ρ cs fun d cs1 => LcP X elt i j scope (TIf X scope c) ρ cs1 d PN)
    (hs : ∀ x, foldedSetIterable iter X.env x = pure x := by intro _; rfl) : WN X (.ListComp elt [⟨.Tuple [.Name x px, .Name y py] kt tp, iter, [c], 0⟩] scope pos) ρ cs PN :=
  wn_of (pe_lc hc hN (pi_list h) ok hg pts_if pe_elt hs) fun as hs σ H Q f q => lcp_reads hij f q
theorem ws_lpI {E : En} {B : Nat} {py2 spos : Pos} {z : Str} (cell : Bool) (iy i j : Nat) (hij : i ≠ j) (hc : X.calm = true) (hN : X.N.Nodup) (hsw : swapsWith (.ListComp elt [⟨.Tuple [.Name x px, .Name y py] kt tp, iter, [c], 0⟩] scope pos) (some (.Name z py2)) spos.line X.env = pure true)
    (ok : BlkOk X.N X.env.scope scope [(x, i), (y, j)]) (hg : PgP X scope x y px py tp kt i j) (h : W X iter ρ cs fun d cs1 => LcP X elt i j scope (TIf X scope c) ρ cs1 d (asN E ρ iy cell)) (hy : X.N[iy]? = some z := by rfl) (hyl : X.env.scope.names.lookup z = some .local := by rfl)
    (hs : ∀ x, foldedSetIterable iter X.env x = pure x := by intro _; rfl) : WS X B (.Assign [.Name z py2] (.ListComp elt [⟨.Tuple [.Name x px, .Name y py] kt tp, iter, [c], 0⟩] scope pos) spos) E ρ cs :=
  ws_of (ps_setLc hc hN hy hyl hsw (pi_list h) ok hg pts_if pe_elt hs) fun as hs σ H DD hB f q => setN hB f q cell fun Q k => lcp_reads hij f k
end
end Rg
set_option Elab.async false
set_option linter.all false
set_option maxRecDepth 100000
/-! a list held against an empty one; texts of any objects, dicts and tuples with such in them too -/
namespace Rg
open PySem PySem.Spec
open PyProof.Rows L2
section
variable {X : Cx}
def rNil (K : PySem.W.Frag) (f : Bool → Bool) : R2 := fun x y H Q => ∃ (a b : Addr) (xs : List V), x = .ref a ∧ y = .ref b ∧ SqL K H a xs ∧ SqL K H b [] ∧ Q (.bl (f xs.isEmpty)) H
theorem op_eqNil (hu : X.A.units + 64 < cLine) : OpR X (compareOp .Eq) (rNil X.K fun k => k) := by
  intro pn st σ H x y v1 u1 Q I rx ry hh
  obtain ⟨a, b, xs, rfl, rfl, ha, hb, q⟩ := hh
  cases xs with
  | nil => exact op_eqD hu pn st σ H _ _ v1 u1 Q I rx ry ⟨.list [], .list [], .lst ha .nil, .lst hb .nil, rfl, rfl, q⟩
  | cons z zs =>
    cases (show v1 = Value.ref a from rx)
    cases (show u1 = Value.ref b from ry)
    obtain ⟨its, rv, ⟨o, n, ho, hc, _, hd⟩, _⟩ := I.list ha
    obtain ⟨its2, rv2, ⟨o2, n2, ho2, hc2, _, hd2⟩, _⟩ := I.list hb
    cases rv with
    | cons r1 r2 =>
      cases rv2
      exact SeqAt.RcAt.lists_lengths ⟨o, ho, hc, n, hd⟩ ⟨o2, ho2, hc2, n2, hd2⟩ (by simp) (by omega) _ _ _ _ ⟨.bl _, H, I, rfl, q⟩
theorem op_neNil (hu : X.A.units + 64 < cLine) : OpR X (compareOp .NotEq) (rNil X.K fun k => !k) := by
  intro pn st σ H x y v1 u1 Q I rx ry hh
  obtain ⟨a, b, xs, rfl, rfl, ha, hb, q⟩ := hh
  cases xs with
  | nil => exact op_neD hu pn st σ H _ _ v1 u1 Q I rx ry ⟨.list [], .list [], .lst ha .nil, .lst hb .nil, rfl, rfl, q⟩
  | cons z zs =>
    cases (show v1 = Value.ref a from rx)
    cases (show u1 = Value.ref b from ry)
    obtain ⟨its, rv, ⟨o, n, ho, hc, _, hd⟩, _⟩ := I.list ha
    obtain ⟨its2, rv2, ⟨o2, n2, ho2, hc2, _, hd2⟩, _⟩ := I.list hb
    cases rv with
    | cons r1 r2 =>
      cases rv2
      exact SeqAt.RcNeAt.lists_lengths ⟨o, ho, hc, n, hd⟩ ⟨o2, ho2, hc2, n2, hd2⟩ (by simp) (by omega) _ _ _ _ ⟨.bl _, H, I, rfl, q⟩
def gNil (f : Bool → Bool) : GD2 := fun d1 d2 cs P => ∃ xs, LstD cs d1 xs ∧ LstD cs d2 [] ∧ P (.bl (f xs.isEmpty)) cs
theorem od_nil {K : PySem.W.Frag} {f : Bool → Bool} : OpD (rNil K f) (gNil f) := by
  rintro as hs H x y d1 d2 cs P Q c r1 r2 ⟨xs, l1, l2, hp⟩ qq
  obtain ⟨a, vs, rfl, h1, t1⟩ := l1.rep c r1
  obtain ⟨b, us, rfl, h2, t2⟩ := l2.rep c r2
  cases t2
  refine ⟨a, b, vs, rfl, rfl, .inl h1, .inl h2, ?_⟩
  have e : vs.isEmpty = xs.isEmpty := by cases t1 <;> rfl
  rw [e]
  exact qq _ _ _ _ _ (Grow.refl as H) c .bl hp
variable {ρ : Ro} {cs : Cs} {a b : Expr} {P : PD} {PT' : Bool → Cs → Prop} {pos : Pos}
theorem w_neNil (hu : X.A.units + 64 < cLine) (h : W X a ρ cs fun d1 cs1 => W X b ρ cs1 fun d2 cs2 => ∃ xs, LstD cs2 d1 xs ∧ LstD cs2 d2 [] ∧ P (.bl (!xs.isEmpty)) cs2) : W X (.Compare a [.NotEq] [b] pos) ρ cs P := w_cmp (op_neNil hu) od_nil (nomark _) h
theorem w_eqNil (hu : X.A.units + 64 < cLine) (h : W X a ρ cs fun d1 cs1 => W X b ρ cs1 fun d2 cs2 => ∃ xs, LstD cs2 d1 xs ∧ LstD cs2 d2 [] ∧ P (.bl xs.isEmpty) cs2) : W X (.Compare a [.Eq] [b] pos) ρ cs P := w_cmp (op_eqNil hu) od_nil (nomark _) h
theorem wt_neNil (hu : X.A.units + 64 < cLine) (h : W X a ρ cs fun d1 cs1 => W X b ρ cs1 fun d2 cs2 => ∃ xs, LstD cs2 d1 xs ∧ LstD cs2 d2 [] ∧ PT' (!xs.isEmpty) cs2) : WT X (.Compare a [.NotEq] [b] pos) ρ cs PT' :=
  wt_cmp (op_neNil hu) od_nil (nomark _) (h.mono fun _ _ z => W.mono z fun _ _ ⟨xs, l1, l2, p⟩ => ⟨xs, l1, l2, _, rfl, p⟩)
theorem wt_eqNil (hu : X.A.units + 64 < cLine) (h : W X a ρ cs fun d1 cs1 => W X b ρ cs1 fun d2 cs2 => ∃ xs, LstD cs2 d1 xs ∧ LstD cs2 d2 [] ∧ PT' xs.isEmpty cs2) : WT X (.Compare a [.Eq] [b] pos) ρ cs PT' :=
  wt_cmp (op_eqNil hu) od_nil (nomark _) (h.mono fun _ _ z => W.mono z fun _ _ ⟨xs, l1, l2, p⟩ => ⟨xs, l1, l2, _, rfl, p⟩)
end
/-! ### texts -/
mutual
/-- a tree in the heap; a dict in it is never the modules' table, its keys have no dict in them -/
inductive RdZ (h : Heap) : Value → PyData → Prop
  | flat {v d as} : Reads h v d as → d.hasDict = false → RdZ h v d
  | list {a o vs n xs} : h.get? a = some o → o.cls = .type "list" → o.data = .seq vs n → RdZs h vs.toList xs → RdZ h (.ref a) (.list xs)
  | tuple {a o vs n xs} : h.get? a = some o → o.cls = .type "tuple" → o.data = .seq vs n → RdZs h vs.toList xs → RdZ h (.ref a) (.tuple xs)
  | dict {a o es n kvs as} : h.get? a = some o → o.cls = .type "dict" → o.data = .dict es n → (a == sysModules) = false → ReadsAll h (es.toList.map (·.key)) (kvs.map (·.1)) as → PyData.hasDictAll (kvs.map (·.1)) = false → RdZs h (es.toList.map (·.val)) (kvs.map (·.2)) → RdZ h (.ref a) (.dict kvs)
inductive RdZs (h : Heap) : List Value → List PyData → Prop
  | nil : RdZs h [] []
  | cons {v vs d ds} : RdZ h v d → RdZs h vs ds → RdZs h (v :: vs) (d :: ds)
end
mutual
theorem RdZ.reads {h : Heap} : ∀ {v d}, RdZ h v d → ∃ as, Reads h v d as
  | _, _, .flat r _ => ⟨_, r⟩
  | _, _, .list h1 h2 h3 r => by
    obtain ⟨as, q⟩ := RdZs.reads r
    exact ⟨_, .list h1 h2 h3 q⟩
  | _, _, .tuple h1 h2 h3 r => by
    obtain ⟨as, q⟩ := RdZs.reads r
    exact ⟨_, .tuple h1 h2 h3 q⟩
  | _, _, .dict h1 h2 h3 _ hk _ r => by
    obtain ⟨as, q⟩ := RdZs.reads r
    exact ⟨_, .dict h1 h2 h3 hk q⟩
theorem RdZs.reads {h : Heap} : ∀ {vs ds}, RdZs h vs ds → ∃ as, ReadsAll h vs ds as
  | _, _, .nil => ⟨_, .nil⟩
  | _, _, .cons r t => by
    obtain ⟨as, q⟩ := RdZ.reads r
    obtain ⟨bs, z⟩ := RdZs.reads t
    exact ⟨_, .cons q z⟩
end
section
variable {prog : Program} {w : World} {h : Heap}
/-- what a dict's entries show, each at the level of all of them -/
theorem entriesZ {es : List DictEntry} {kvs : List (PyData × PyData)} {as : List Addr} (hk : ReadsAll h (es.map (·.key)) (kvs.map (·.1)) as) (hn : PyData.hasDictAll (kvs.map (·.1)) = false) (hs : PyData.showableAll (kvs.map (·.1)) = true)
    (hz : ∀ t ∈ PyData.shownAll (kvs.map (·.1)), t.length ≤ sizeLine) (sv : ShXs prog w h (PyData.depthAll (kvs.map (·.2))) (es.map (·.val)) (PyData.shownAll (kvs.map (·.2)))) : ∃ bs, ReadAtMost h (PyData.depthKv kvs) bs ∧ ReprEntriesK prog w bs h (PyData.depthKv kvs) es (PyData.shownKv kvs) := by
  obtain ⟨b1, m1, k1⟩ := ReprAllK.of_readsAll (prog := prog) (w := w) hk hs (fun z => by rw [hn] at z; cases z) hz
  obtain ⟨b2, m2, k2⟩ := sv
  refine ⟨b1 ++ b2, (m1.mono (PyData.depthAll_keys_le kvs)).append (m2.mono (PyData.depthAll_vals_le kvs)), ?_⟩
  rw [PyData.shownKv_eq]
  exact ReprEntriesK.of_two es _ _ (k1.more_le (fun b z => List.mem_append_left b2 z) (PyData.depthAll_keys_le kvs)) (k2.more_le (fun b z => List.mem_append_right b1 z) (PyData.depthAll_vals_le kvs))
mutual
theorem RdZ.shows : ∀ {v d}, RdZ h v d → d.showable = true → d.shown.length ≤ sizeLine → ShX prog w h d.depth v d.shown
  | _, _, .flat r q, hs, hz => ReprK.of_reads r hs (fun z => absurd z (by rw [q]; exact Bool.false_ne_true)) hz
  | _, _, .list (a := a) (vs := vs) (xs := xs) h1 h2 h3 r, hs, hz => by
    rw [PyData.shown] at hz
    obtain ⟨as, q⟩ := RdZs.reads r
    obtain ⟨bs, below, kk⟩ := RdZs.shows r (by rw [PyData.showable] at hs; exact hs) fun t m => Nat.le_trans (listText_mem_le m) hz
    have up := Reads.list h1 h2 h3 q
    refine ⟨a :: bs, ReadAtMost.cons up (Nat.le_refl _) (by rw [PyData.depth]; exact below.mono (Nat.le_succ _)), ?_⟩
    rw [PyData.depth, PyData.shown]
    obtain ⟨items⟩ := vs
    match items, r, kk with
    | [], .nil, _ => rw [PyData.shownAll, listText_nil]; exact ReprK.listEmpty h1 h2 h3
    | x :: l, _, kk => exact ReprK.list h1 h2 h3 (not_mem_of_deeper up (by rw [PyData.depth]; exact Nat.lt_succ_self _) below) (by simpa using kk.length_eq) fun i y e => kk.item i y (by simpa using e)
  | _, _, .tuple (a := a) (vs := vs) (xs := xs) h1 h2 h3 r, hs, hz => by
    rw [PyData.shown] at hz
    obtain ⟨as, q⟩ := RdZs.reads r
    obtain ⟨bs, below, kk⟩ := RdZs.shows r (by rw [PyData.showable] at hs; exact hs) fun t m => Nat.le_trans (tupleText_mem_le m) hz
    have up := Reads.tuple h1 h2 h3 q
    refine ⟨a :: bs, ReadAtMost.cons up (Nat.le_refl _) (by rw [PyData.depth]; exact below.mono (Nat.le_succ _)), ?_⟩
    rw [PyData.depth, PyData.shown]
    exact ReprK.tuple h1 h2 h3 (not_mem_of_deeper up (by rw [PyData.depth]; exact Nat.lt_succ_self _) below) kk
  | _, _, .dict (a := a) (es := es) (kvs := kvs) h1 h2 h3 hne hk hn r, hs, hz => by
    rw [PyData.shown] at hz
    obtain ⟨as, q⟩ := RdZs.reads r
    obtain ⟨s1, s2⟩ := PyData.showableKv_split kvs (by simpa [PyData.showable] using hs)
    have sv := RdZs.shows r s2 fun t m => by
      obtain ⟨p, hp, hl⟩ := PyData.shownKv_val_le kvs t m
      exact Nat.le_trans hl (Nat.le_trans (dictText_mem_le hp) hz)
    obtain ⟨bs, below, kk⟩ := entriesZ hk hn s1 (fun t m => by
      obtain ⟨p, hp, hl⟩ := PyData.shownKv_key_le kvs t m
      exact Nat.le_trans hl (Nat.le_trans (dictText_mem_le hp) hz)) sv
    have up := Reads.dict h1 h2 h3 hk q
    refine ⟨a :: bs, ReadAtMost.cons up (Nat.le_refl _) (by rw [PyData.depth]; exact below.mono (Nat.le_succ _)), ?_⟩
    rw [PyData.depth, PyData.shown]
    exact ReprK.dict h1 h2 h3 hne (not_mem_of_deeper up (by rw [PyData.depth]; exact Nat.lt_succ_self _) below) kk
theorem RdZs.shows : ∀ {vs ds}, RdZs h vs ds → PyData.showableAll ds = true → (∀ t ∈ PyData.shownAll ds, t.length ≤ sizeLine) → ShXs prog w h (PyData.depthAll ds) vs (PyData.shownAll ds)
  | _, _, .nil, _, _ => ⟨[], (fun _ z => nomatch z), by simp only [PyData.shownAll]; exact .nil⟩
  | _, _, .cons r t, hs, hz => by
    rw [PyData.showableAll, Bool.and_eq_true] at hs
    rw [PyData.shownAll] at hz
    rw [PyData.depthAll, PyData.shownAll]
    exact ShXs.cons (RdZ.shows r hs.1 (hz _ List.mem_cons_self)) (RdZs.shows t hs.2 fun t m => hz t (List.mem_cons_of_mem _ m))
end
/-- repr of what stands at an address -/
theorem repr_Z {A : Around} {E : Value → Shared → Prop} {Q : Value → Shared → Prop} {s : Shared} {a : Addr} {d : PyData} (r : RdZ s.heap (.ref a) d) (hs : d.showable = true) (hz : d.shown.length ≤ sizeLine) (hg : A.guards = some []) (hu : A.units + (d.depth + 1) < cLine)
    (hQ : ∀ h' u tk, (∀ b o, s.heap.get? b = some o → h'.get? b = some o) → Q (.str d.shown u) { s with heap := h', toks := tk }) : wpAny (model prog w) A (call (.builtin "repr") [.ref a]) Q E s := by
  cases r with
  | flat r q => exact repr_of_reads' (h₀ := s.heap) r hs (fun z => by rw [q] at z; cases z) hg hu (fun _ _ e => e) hQ hz
  | @list _ o vs n xs h1 h2 h3 r =>
    obtain ⟨items⟩ := vs
    match items, r, h3 with
    | [], .nil, h3 => exact repr_of_reads' (h₀ := s.heap) (Reads.list h1 h2 h3 .nil) hs (fun z => by simp [PyData.hasDict, PyData.hasDictAll] at z) hg hu (fun _ _ e => e) hQ hz
    | x :: l, r, h3 =>
      rw [PyData.shown] at hz hQ
      rw [PyData.depth] at hu
      obtain ⟨as, q⟩ := RdZs.reads r
      obtain ⟨bs, below, kk⟩ := RdZs.shows (prog := prog) (w := w) r (by rw [PyData.showable] at hs; exact hs) fun t m => Nat.le_trans (listText_mem_le m) hz
      have up := Reads.list h1 h2 h3 q
      refine call_repr_slot (by omega) ⟨o, h1, h2⟩ PySem.F.slot_list_repr.toG ?_
      exact call_list_reprK (h₀ := s.heap) h1 h2 h3 (not_mem_of_deeper up (by rw [PyData.depth]; exact Nat.lt_succ_self _) below) (by simpa using kk.length_eq) (fun i y e => kk.item i y (by simpa using e)) (by show A.guards = _; exact hg) (fun b _ => Clear.nil b) (by show A.units + 1 + _ < _; omega) (fun _ _ e => e) (fun h' u tk k => ⟨_, _, rfl, hQ h' u tk k⟩) hz
  | @tuple _ o vs n xs h1 h2 h3 r =>
    rw [PyData.shown] at hz hQ
    rw [PyData.depth] at hu
    obtain ⟨as, q⟩ := RdZs.reads r
    obtain ⟨bs, below, kk⟩ := RdZs.shows (prog := prog) (w := w) r (by rw [PyData.showable] at hs; exact hs) fun t m => Nat.le_trans (tupleText_mem_le m) hz
    have up := Reads.tuple h1 h2 h3 q
    refine call_repr_slot (by omega) ⟨o, h1, h2⟩ PySem.F.slot_tuple_repr ?_
    exact call_tuple_reprK (h₀ := s.heap) h1 h2 h3 (not_mem_of_deeper up (by rw [PyData.depth]; exact Nat.lt_succ_self _) below) kk (by show A.guards = _; exact hg) (fun b _ => Clear.nil b) (by show A.units + 1 + _ < _; omega) (fun _ _ e => e) (fun h' u tk k => ⟨_, _, rfl, hQ h' u tk k⟩) hz
  | @dict _ o es n kvs as h1 h2 h3 hne hk hn r =>
    rw [PyData.shown] at hz hQ
    rw [PyData.depth] at hu
    obtain ⟨bs0, q⟩ := RdZs.reads r
    obtain ⟨s1, s2⟩ := PyData.showableKv_split kvs (by simpa [PyData.showable] using hs)
    have sv := RdZs.shows (prog := prog) (w := w) r s2 fun t m => by
      obtain ⟨p, hp, hl⟩ := PyData.shownKv_val_le kvs t m
      exact Nat.le_trans hl (Nat.le_trans (dictText_mem_le hp) hz)
    obtain ⟨bs, below, kk⟩ := entriesZ hk hn s1 (fun t m => by
      obtain ⟨p, hp, hl⟩ := PyData.shownKv_key_le kvs t m
      exact Nat.le_trans hl (Nat.le_trans (dictText_mem_le hp) hz)) sv
    have up := Reads.dict h1 h2 h3 hk q
    refine call_repr_slot (by omega) ⟨o, h1, h2⟩ PySem.F.slot_dict_repr ?_
    exact call_dict_reprK (h₀ := s.heap) h1 h2 h3 hne (not_mem_of_deeper up (by rw [PyData.depth]; exact Nat.lt_succ_self _) below) kk (by show A.guards = _; exact hg) (fun b _ => Clear.nil b) (by show A.units + 1 + _ < _; omega) (fun _ _ e => e) (fun h' u tk k => ⟨_, _, rfl, hQ h' u tk k⟩) hz
end
mutual
inductive ToPyZ (cs : Cs) : D → PyData → Prop
  | flat {d p} : ToPy cs d p → p.hasDict = false → ToPyZ cs d p
  | lst {d xs ps} : LstD cs d xs → ToPyZL cs xs ps → ToPyZ cs d (.list ps)
  | tup {xs ps} : ToPyZL cs xs ps → ToPyZ cs (.tup xs) (.tuple ps)
  | dct {ks xs ps} : ToPyZL cs xs ps → ks.length = xs.length → ToPyZ cs (.dct ks xs) (.dict ((ks.map keyPy).zip ps))
inductive ToPyZL (cs : Cs) : List D → List PyData → Prop
  | nil : ToPyZL cs [] []
  | cons {x xs p ps} : ToPyZ cs x p → ToPyZL cs xs ps → ToPyZL cs (x :: xs) (p :: ps)
end
theorem ToPyZL.len {cs : Cs} : ∀ {xs ps}, ToPyZL cs xs ps → xs.length = ps.length
  | _, _, .nil => rfl
  | _, _, .cons _ t => by simp [ToPyZL.len t]
theorem keysZ {P : Program} {w : World} {h : Heap} : ∀ {ks : List Key} {vs : List V} {es : List DictEntry} {kvs : List (Key × Value)}, ks.length = vs.length → Pairs (mixKind P w) es kvs → KV (ks.zip vs) kvs →
    ReadsAll h (es.map (·.key)) (ks.map keyPy) [] ∧ Vals vs (es.map (·.val))
  | [], [], _, _, _, hp, r => by
    cases r
    cases hp
    exact ⟨.nil, .nil⟩
  | [], _ :: _, _, _, hl, _, _ => by cases hl
  | _ :: _, [], _, _, hl, _, _ => by cases hl
  | k :: ks, v :: vs, [], _, _, hp, r => by
    cases hp
    cases r
  | k :: ks, v :: vs, e0 :: es, [], _, _, r => by cases r
  | k :: ks, v :: vs, e0 :: es, kv :: kvs, hl, hp, r => by
    cases r with
    | cons r1 rt =>
      cases hp with
      | cons k1 v1 pt =>
        obtain ⟨a, b⟩ := keysZ (h := h) (by simpa using hl) pt rt
        obtain ⟨e1, ev⟩ := r1
        have k2 : keyIs kv.1 e0.key = true := k1
        rw [← show k = kv.1 from e1] at k2
        exact ⟨.cons (as := []) (key_read k2) a, .cons (by show RelV v e0.val; rw [v1]; exact ev) b⟩
theorem noDictKeys : ∀ ks : List Key, PyData.hasDictAll (ks.map keyPy) = false
  | [] => rfl
  | .inl _ :: ks => noDictKeys ks
  | .inr _ :: ks => noDictKeys ks
theorem zip_fst {α β : Type} {xs : List α} {ys : List β} (h : xs.length = ys.length) : (xs.zip ys).map (·.1) = xs := List.map_fst_zip (Nat.le_of_eq h)
section
variable {X : Cx} {pins : List (Addr × Obj)} {σ : L2.St} {H : Hp} {s : Shared} {as hs : List Addr} {cs : Cs}
mutual
theorem ToPyZ.rd (I : Inv X pins σ H s) (c : Cells as hs cs H) : ∀ {d p}, ToPyZ cs d p → ∀ {v u}, Rep as hs H d v → RelV v u → RdZ s.heap u p
  | _, p, .flat t q, v, u, r, e => by
    obtain ⟨_, z⟩ := Dp.reads I p v u (t.dp (K := X.K) c r) e
    exact .flat z q
  | _, _, .lst l t, v, u, r, e => by
    obtain ⟨a, vs, rfl, hr, rl⟩ := l.rep c r
    cases (show u = Value.ref a from e)
    obtain ⟨its, rv, ⟨o, n, ho, hc, _, hd⟩, _⟩ := I.list (show SqL X.K H a vs from .inl hr)
    exact .list ho hc hd (ToPyZL.rd I c t rl rv)
  | _, _, .tup t, v, u, r, e => by
    cases r with
    | @tup a vs _ n1 n2 hH rl =>
      cases (show u = Value.ref a from e)
      obtain ⟨its, rv, ⟨o, ho, hc, n, hd⟩, _⟩ := I.tuple (show SqT X.K H a vs from .inl (.inl hH))
      exact .tuple ho hc hd (ToPyZL.rd I c t rl rv)
  | _, _, .dct (ks := ks) (xs := xs) (ps := ps) t hl, v, u, r, e => by
    cases r with
    | @dct a _ vs _ n1 n2 hH hl2 rl =>
      cases (show u = Value.ref a from e)
      obtain ⟨_, hne, kvs, rk, o, es, ep, h1, h2, h3, _, hp, _⟩ := dk_of I.hok hH
      obtain ⟨ka, va⟩ := keysZ (h := s.heap) (hl2.trans rl.length) hp rk
      have hkp : (ks.map keyPy).length = ps.length := by rw [List.length_map, hl, t.len]
      exact .dict h1 h2.1 h3 hne (by rw [zip_fst hkp]; exact ka) (by rw [zip_fst hkp]; exact noDictKeys ks) (by rw [zip_snd hkp]; exact ToPyZL.rd I c t rl va)
theorem ToPyZL.rd (I : Inv X pins σ H s) (c : Cells as hs cs H) : ∀ {ds ps}, ToPyZL cs ds ps → ∀ {vs us}, RepL as hs H ds vs → Vals vs us → RdZs s.heap us ps
  | _, _, .nil, _, _, r, e => by
    cases r
    cases e
    exact .nil
  | _, _, .cons t1 t2, _, _, r, e => by
    cases r with
    | cons r1 r2 =>
      cases e with
      | cons e1 e2 => exact .cons (ToPyZ.rd I c t1 r1 e1) (ToPyZL.rd I c t2 r2 e2)
end
end
section
variable {X : Cx} {ρ : Ro} {cs : Cs} {e : Expr} {P : PD} {pos p : Pos}
/-- the object's text can be written -/
structure TxtZ (cs : Cs) (d : D) (p : PyData) : Prop where
  py : ToPyZ cs d p
  show_ : p.showable = true
  dep : p.depth ≤ 60
  len : p.shown.length ≤ sizeLine
def rReprZ : List V → Hp → VK → Prop := fun xs H Q => ∃ (as hs : List Addr) (cs : Cs) (v : V) (d : D) (p : PyData), xs = [v] ∧ Cells as hs cs H ∧ Rep as hs H d v ∧ TxtZ cs d p ∧ Q (.str p.shown) H
theorem call_reprZ (hg : X.A.guards = some []) (hu : X.A.units + 64 < cLine) : CallR X (.builtin "repr") rReprZ := by
  rintro pins s σ H xs us Q I r ⟨as, hs, cs, v, d, p, rfl, c, rep, t, q⟩
  obtain ⟨t1, t2, t3, t4⟩ := t
  cases r with
  | cons r tl =>
    cases tl
    have z := ToPyZ.rd I c t1 rep r
    have fin : ∀ {u : Value}, u = .none ∨ (∃ b, u = .bool b) ∨ (∃ i t, u = .int i t) ∨ (∃ x t, u = .str x t) → RdZ s.heap u p → wpAny (model X.prog X.w) X.A (call (.builtin "repr") [u]) (EP X pins σ Q) X.xe s := fun {u} hk z => by
      rcases hk with rfl | ⟨b, rfl⟩ | ⟨i, tk, rfl⟩ | ⟨x, tk, rfl⟩
      · cases z with
        | flat z _ =>
          cases z
          exact PySem.P.repr_of_none ⟨.str PyData.none.shown, H, I.tok _, ⟨_, rfl⟩, q⟩
      · cases z with
        | flat z _ =>
          cases z
          exact PySem.P.repr_of_bool ⟨.str (PyData.bool b).shown, H, I.tok _, ⟨_, rfl⟩, q⟩
      · cases z with
        | flat z _ =>
          cases z
          exact PySem.P.repr_of_int (by simpa [PyData.showable] using t2) ⟨.str (PyData.int i).shown, H, I.tok _, ⟨_, rfl⟩, q⟩
      · cases z with
        | flat z _ =>
          cases z
          exact PySem.P.repr_of_str ⟨.str (PyData.str x).shown, H, I.tok _, ⟨_, rfl⟩, q⟩ (by simpa only [PyData.shown] using t4)
    have ref : ∀ {a : Addr}, RdZ s.heap (.ref a) p → wpAny (model X.prog X.w) X.A (call (.builtin "repr") [.ref a]) (EP X pins σ Q) X.xe s := fun {a} z =>
      repr_Z z t2 t4 hg (by omega) fun h' u tk hk => ⟨.str p.shown, H, I.kept (t' := tk) hk, ⟨u, rfl⟩, q⟩
    revert z
    rename_i u
    intro z
    have ty : u = .none ∨ (∃ b, u = .bool b) ∨ (∃ i t, u = .int i t) ∨ (∃ x t, u = .str x t) ∨ ∃ a, u = .ref a := by
      cases z with
      | flat z _ => cases z <;> simp
      | list => simp
      | tuple => simp
      | dict => simp
    rcases ty with h | h | h | h | ⟨a, rfl⟩
    · exact fin (.inl h) z
    · exact fin (.inr (.inl h)) z
    · exact fin (.inr (.inr (.inl h))) z
    · exact fin (.inr (.inr (.inr h))) z
    · exact ref z
/-- repr of any object -/
theorem w_reprZ (hg : X.A.guards = some []) (hu : X.A.units + 64 < cLine) (hm : X.mg "repr" = none) (h : WA X [e] ρ cs fun ds cs1 => ∃ d p, ds = [d] ∧ TxtZ cs1 d p ∧ P (.str p.shown) cs1)
    (hgl : Gl X "repr" := by rfl) (he : starEach [e] X.env = (false, eval e X.env) :: starEach [] X.env := by rfl) : W X (.Call (.Name "repr" p) [e] [] pos) ρ cs P := by
  refine w_bi (g := fun ds cs1 P => ∃ d p, ds = [d] ∧ TxtZ cs1 d p ∧ P (.str p.shown) cs1) (call_reprZ hg hu) ?_ hm (by decide +kernel) h hgl (he := he)
  rintro as hs H vs ds cs P Q c r ⟨d, p, rfl, t, hp⟩ q
  cases r with
  | @cons _ _ v _ r tl =>
    cases tl
    exact ⟨as, hs, cs, v, d, p, rfl, c, r, t, q _ _ _ _ _ (Grow.refl as H) c .str hp⟩
end
end Rg
set_option Elab.async false
set_option linter.all false
set_option maxRecDepth 100000
/-! a dict with one text as its key and any value -/
namespace Rg
open PySem PySem.Spec
open PyProof.Rows L2
section
variable {X : Cx} {ρ : Ro} {cs : Cs} {e : Expr} {P : PD} {pos : Pos}
theorem w_dict1E {s : Str} {j1 : Nat} {p1 : Pos} (h : W X e ρ cs fun d cs1 => P (.dct [.inr s] [d]) cs1) : W X (.Dict [some (.Constant (.str s) j1 p1)] [e] pos) ρ cs P :=
  w_of (pe_disp (pps_cons pe_str h pps_nil) rfl rfl (by simp) (by simp)) fun as hs σ H Q f q p hn => by
    have fr := f.cells.fresh hn
    have f1 : Fit as (p :: hs) ρ cs σ (upd H p (.dK [])) := ⟨f.cells.hide hn, f.slen, fun i d ed => by
      obtain ⟨v, a, b⟩ := f.slot i d ed
      exact ⟨v, a, (b.hide hn).grow (Grow.laid hn)⟩⟩
    refine ⟨as, p :: hs, f1, fun v H' as' d cs' g c r hp => ?_⟩
    have keep : H' p = some (.dK []) := g.keep p _ fr.1 upd_same
    have np : p ∉ as' := (c.hid p List.mem_cons_self).1
    refine ⟨keep, [(.inr s, v)], rfl, by simp, ?_⟩
    have ch : ∀ b, b ∉ as' → b ∉ p :: hs → upd H' p (.dK (mergeK [] [(.inr s, v)])) b = H' b := fun b _ m => upd_ne fun z => m (by rw [z]; exact List.mem_cons_self)
    have c2 := (c.dmut (D := p) (o := .dK (mergeK [] [(.inr s, v)])) List.mem_cons_self).show1
    have r2 : Rep as' hs (upd H' p (.dK (mergeK [] [(.inr s, v)]))) d v := (r.mut ch).show fun a h => List.mem_cons_of_mem _ h
    refine q (.ref p) _ as' (.dct [.inr s] [d]) cs' ?_ c2 (.dct (ks := [.inr s]) (vs := [v]) np fr.2 upd_same rfl (.cons r2 .nil)) hp
    refine ⟨g.ext, fun a ha hna => ?_, fun b o hb hH => ?_⟩
    · have := g.new a ha hna
      by_cases z : a = p
      · subst z; exact absurd ha np
      · rw [upd_ne z] at this; exact this
    · have hbp : b ≠ p := fun z => by rw [z, hn] at hH; cases hH
      rw [upd_ne hbp]
      exact g.keep b o hb (by rw [upd_ne hbp]; exact hH)
end
end Rg
set_option Elab.async false
set_option linter.all false
set_option maxRecDepth 100000
/-! sorted(set(xs)) of a list with many equal numbers; x not in a list of lists -/
namespace Rg
open PySem PySem.Spec
open PyProof.Rows L2
section
variable {X : Cx}
def rSortedFew (w : World) : List V → Hp → VK → Prop := fun vs H Q => ∃ (a : Addr) (S : Int → Bool) (n : Nat), vs = [V.ref a] ∧ H a = some (SetO w a S n) ∧ (∀ ks : List Int, ks.Nodup → (∀ k, k ∈ ks ↔ S k = true) → ks.length < 64) ∧
  ∀ (ns : List Int) (p : Addr), ns.Pairwise (· < ·) → (∀ k : Int, k ∈ ns ↔ S k = true) → H p = none → Q (.ref p) (upd H p (.lst (ns.map V.int)))
theorem cr_sortedFew (hc : X.calm = true) : CallR X (.builtin "sorted") (rSortedFew X.w) := by
  intro pn st σ H vs us Q I r hh
  obtain ⟨a, S, n, e, ha, h64, q⟩ := hh
  obtain ⟨o, es, ep, t, _, _, _, _, nd, mem, _, _, hn, _⟩ := setO_get I ha
  refine cr_sortedSet hc pn st σ H vs us Q I r ⟨a, S, n, e, ha, ?_, fun ns p pw m _ hp => q ns p pw m hp⟩
  have z := h64 _ nd fun k => (mem k).symm
  rw [List.length_map, Array.length_toList] at z
  omega
variable {ρ : Ro} {cs : Cs} {e a b : Expr} {PN : List D → Cs → Prop} {PT' : Bool → Cs → Prop} {pos p cpos kpos : Pos}
theorem wn_sortedFew (hc : X.calm = true) (hm : X.mg "sorted" = none) (hm2 : X.mg "set" = none) (h : W X e ρ cs fun d cs1 => ∃ ns : List Int, LstD cs1 d (ns.map .int) ∧ ns.length ≤ 1000 ∧ (∀ ks : List Int, ks.Nodup → (∀ k, k ∈ ks ↔ k ∈ ns) → ks.length < 64) ∧ ∀ ns' : List Int, ns'.Pairwise (· < ·) → (∀ k, k ∈ ns' ↔ k ∈ ns) → PN (ns'.map .int) cs1)
    (hg : Gl X "sorted" := by rfl) (hg2 : Gl X "set" := by rfl) (he : starEach [e] X.env = (false, eval e X.env) :: starEach [] X.env := by rfl)
    (he2 : starEach [.Call (.Name "set" p) [e] [] cpos] X.env = (false, eval (.Call (.Name "set" p) [e] [] cpos) X.env) :: starEach [] X.env := by rfl) : WN X (.Call (.Name "sorted" kpos) [.Call (.Name "set" p) [e] [] cpos] [] pos) ρ cs PN := by
  refine wn_of (pe_callB (cr_sortedFew hc) hg hm (by decide +kernel) (pa_cons (pe_callTy (cr_setL hc) hg2 hm2 (by decide +kernel) (pa_cons h pa_nil he) (by decide) (by decide) he rfl) pa_nil he2) (by decide) (by decide) he2 rfl) fun as hs σ H Q f q => ?_
  refine sub1 f fun v H1 as1 d cs1 g1 f1 r1 ⟨ns, hl, h1, few, hp⟩ => ?_
  obtain ⟨a, vs, rfl, hr, rl⟩ := hl.rep f1.cells r1
  have ev := repL_ints' rl
  subst ev
  refine ⟨a, ns, rfl, .inl hr, h1, fun pp c hn hcn => ⟨pp, _, c, rfl, upd_same, fun ks nd mem => few ks nd fun k => (mem k).trans (by simp), fun ns' p2 pw mem hn2 => ?_⟩⟩
  have mem' : ∀ k, k ∈ ns' ↔ k ∈ ns := fun k => (mem k).trans (by simp)
  exact q p2 _ as1 _ _ cs1 (g1.trans (Grow.laid hn)) (f1.cells.laid hn) hn2 (repL_ints ns') (hp ns' pw mem')
theorem op_ninE (hu : X.A.units + 64 < cLine) : OpR X (compareOp .NotIn) fun x y H Q => ∃ d ds, Dp X.K H x d ∧ Dp X.K H y (.list ds) ∧ SeqAt.shaped d = true ∧ SeqAt.shaped (.list ds) = true ∧ d.depth ≤ 60 ∧ Q (.bl (!ds.any fun z => PyData.eqv z d)) H := by
  intro pn st σ H x y v1 u1 Q J rx ry hh
  obtain ⟨d, ds, hd, he, sd, se, h60, q⟩ := hh
  obtain ⟨as, r1⟩ := Dp.reads J d x v1 hd rx
  obtain ⟨bs, r2⟩ := Dp.reads J (.list ds) y u1 he ry
  exact SeqAt.notIn_list_reads r2 r1 (SeqAt.canLay_of_shaped se) (SeqAt.canLay_of_shaped sd) (by have := Nat.min_le_right (PyData.depthAll ds) d.depth; omega) ⟨.bl _, H, J, rfl, q⟩
theorem wt_ninE (hu : X.A.units + 64 < cLine) (hm : behindInMarks .NotIn b = false) (h : W X a ρ cs fun d1 cs1 => W X b ρ cs1 fun d2 cs2 => ∃ p ps, ToPy cs2 d1 p ∧ ToPy cs2 d2 (.list ps) ∧ SeqAt.shaped p = true ∧ SeqAt.shaped (.list ps) = true ∧ p.depth ≤ 60 ∧ PT' (!ps.any fun z => PyData.eqv z p) cs2) : WT X (.Compare a [.NotIn] [b] pos) ρ cs PT' :=
  wt_cmp (op_ninE hu) (g := fun d1 d2 cs P => ∃ p ps, ToPy cs d1 p ∧ ToPy cs d2 (.list ps) ∧ SeqAt.shaped p = true ∧ SeqAt.shaped (.list ps) = true ∧ p.depth ≤ 60 ∧ P (.bl (!ps.any fun z => PyData.eqv z p)) cs) (fun as hs H x y d1 d2 cs P Q c r1 r2 ⟨p, ps, h1, h2, s1, s2, h3, hp⟩ qq => ⟨p, ps, h1.dp c r1, h2.dp c r2, s1, s2, h3, qq _ _ _ _ _ (Grow.refl as H) c .bl hp⟩) hm (h.mono fun _ _ z => W.mono z fun _ _ ⟨p, ps, h1, h2, s1, s2, h3, hp⟩ => ⟨p, ps, h1, h2, s1, s2, h3, _, rfl, hp⟩)
end
end Rg
set_option Elab.async false
set_option linter.all false
set_option maxRecDepth 100000
/-! a tuple held against a tuple of one text, where their first entries differ; dicts held against texts -/
namespace Rg
open PySem PySem.Spec
open PyProof.Rows L2
section
theorem str_no_dict (b : Str) (u : Tok) (l : Addr) (es : Array DictEntry) (n : Nat) (dd : Option Addr) (sl : Array (Option Value)) :
    Meets (Builtin.«str.__eq__» ⟨[.str b u, .ref l], []⟩) (fun _ R s => s.heap.get? l = some { cls := .type "dict", dict := dd, data := .dict es n, slots := sl } ∧ R (.ok (.ret .notImplemented)) s) :=
  .of_wp fun prog w A R s h => by obtain ⟨hp, g, d, tk, os⟩ := s; obtain ⟨hl, h⟩ := h; wp_walk using wpAny_loadPart' hl, wpAny_load hl; exact ⟨_, (rfl), h⟩
variable {A : Around} {s : Shared} {l : Addr} {o : Obj} {es : Array DictEntry} {n : Nat}
theorem rc_dict_str (b : Str) (u : Tok) (h1 : s.heap.get? l = some o) (h2 : o.cls = .type "dict") (h3 : o.data = .dict es n) (hu : A.units < cLine) : SeqAt.RcAt A s (.ref l) (.str b u) false := fun prog w E Q h => by
  obtain ⟨cls, dd, data, sl⟩ := o
  simp only at h2 h3
  subst h2 h3
  have ty : Shared.TypeIs s (.ref l) "dict" := ⟨_, h1, rfl⟩
  refine SeqAt.rc_eq_decline_or (k := false) ty (typeIs_str s b u) (by decide) PySem.F.sub_str_dict PySem.F.slot_dict_eq PySem.F.slot_str_eq_refl ?_ ?_ (fun _ hq => wpAny_of_eq (rfl : isSame (.ref l) (.str b u) = pure false) hq) (.inr hu) h
  · intro Q' hq
    refine wpAny_call_entry PySem.F.slot_dict_eq ty PySem.F.entry_dict_eq ?_ (PySem.F.args_dict_eq_2 _ _)
    show wpAny _ _ (Builtin.Dict.dictSlotArgs "__eq__" ⟨[.ref l, .str b u], []⟩ >>= _) _ _ s
    refine wpAny_bind ?_
    (unfold Builtin.Dict.dictSlotArgs)
    refine wpAny_bind (wpAny_notOrdered_dict ty ?_)
    show wpAny _ _ (pure (Value.ref l, Value.str b u)) _ _ s
    refine wpAny_pure ?_
    refine wpAny_bind (wpAny_isInstance (T := "str") (typeIs_str s b u) PySem.F.sub_str_dict ?_)
    (simp only [Bool.not_false, if_true])
    refine wpAny_bind (wpAny_bind (wpAny_rule ?_))
    exact wpAny_pure (wpAny_pure ⟨_, rfl, hq⟩)
  · intro Q' hq
    exact call_meets PySem.F.slot_str_eq_refl (typeIs_str s b u) PySem.F.entry_str_eq (PySem.F.args_str_eq_2 _ _) (str_no_dict b u l es n dd sl) ⟨h1, hq⟩
theorem eq_dict_str (b : Str) (u : Tok) (h1 : s.heap.get? l = some o) (h2 : o.cls = .type "dict") (h3 : o.data = .dict es n) (hu : A.units < cLine) : SeqAt.EqAt A s (.ref l) (.str b u) false := fun prog w E Q h => by
  unfold eqBool
  refine wpAny_holding ?_
  refine (wpAny_ite_split (fun hab => absurd (eq_of_beq hab) nofun) (fun _ => ?_))
  exact wpAny_bind (rc_dict_str b u h1 h2 h3 hu prog w E _ (wpAny_truthy_bool h))
end
section
variable {X : Cx}
def rHead (K : PySem.W.Frag) : R2 := fun x y H Q => ∃ (a b : Addr) (x0 : V) (xs : List V) (t : Str), x = .ref a ∧ y = .ref b ∧ SqT K H a (x0 :: xs) ∧ SqT K H b [.str t] ∧
  ((∃ d, Dp K H x0 d ∧ SeqAt.shaped d = true ∧ SeqAt.shaped (.str t) = true ∧ PyData.eqv d (.str t) = false) ∨ ∃ p kvs, x0 = .ref p ∧ H p = some (.dK kvs)) ∧ Q (.bl false) H
theorem op_head (hu : X.A.units + 64 < cLine) : OpR X (compareOp .Eq) (rHead X.K) := by
  intro pn st σ H x y v1 u1 Q I rx ry hh
  obtain ⟨a, b, x0, xs, t, rfl, rfl, ha, hb, hw, q⟩ := hh
  cases (show v1 = Value.ref a from rx)
  cases (show u1 = Value.ref b from ry)
  obtain ⟨its, rv, ⟨o, ho, hc, n, hd⟩, _⟩ := I.tuple ha
  obtain ⟨its2, rv2, ⟨o2, ho2, hc2, n2, hd2⟩, _⟩ := I.tuple hb
  cases rv with
  | @cons _ v0 _ vt r1 r2 =>
    cases rv2 with
    | @cons _ u0 _ ut q1 q2 =>
      cases q2
      obtain ⟨tk, rfl⟩ : ∃ tk, u0 = .str t tk := q1
      have key : SeqAt.EqAt X.A.in1 st v0 (.str t tk) false := by
        rcases hw with ⟨d, dp, s1, s2, e⟩ | ⟨p, kvs, rfl, hp⟩
        · obtain ⟨as, rd⟩ := Dp.reads I d x0 v0 dp r1
          have := SeqAt.eqAt_reads d (.str t) X.A.in1 st v0 (.str t tk) as [] rd (Reads.str t tk) (SeqAt.canLay_of_shaped s1) (SeqAt.canLay_of_shaped s2) (by show X.A.units + 1 + _ < _; have := Nat.min_le_right d.depth (PyData.str t).depth; have e0 : (PyData.str t).depth = 0 := rfl; omega)
          rwa [e] at this
        · cases (show v0 = Value.ref p from r1)
          obtain ⟨_, _, _, _, o3, es, ep, h1, h2, h3, _⟩ := dk_of I.hok hp
          exact eq_dict_str t tk h1 h2.1 h3 (by show X.A.units + 1 < _; omega)
      have z := SeqAt.RcAt.tuples (e := fun _ => false) ⟨o, ho, hc, n, hd⟩ ⟨o2, ho2, hc2, n2, hd2⟩ (show X.A.units < cLine by omega) (fun j h1 h2 => by
        have hj : j = 0 := by simp at h2; omega
        subst hj
        exact key)
      refine z _ _ _ _ ⟨.bl _, H, I, rfl, ?_⟩
      have e : ((List.range (min (v0 :: vt).toArray.size [Value.str t tk].toArray.size)).all (fun _ => false) && (v0 :: vt).toArray.size == [Value.str t tk].toArray.size) = false := by
        have : min (v0 :: vt).toArray.size [Value.str t tk].toArray.size = 1 := by simp
        rw [this]; rfl
      rw [e]
      exact q
def gHead : GD2 := fun d1 d2 cs P => ∃ x0 xs t, d1 = .tup (x0 :: xs) ∧ d2 = .tup [.str t] ∧ ((∃ p, ToPy cs x0 p ∧ SeqAt.shaped p = true ∧ SeqAt.shaped (.str t) = true ∧ PyData.eqv p (.str t) = false) ∨ ∃ ks ys, x0 = .dct ks ys) ∧ P (.bl false) cs
theorem od_head {K : PySem.W.Frag} : OpD (rHead K) gHead := by
  rintro as hs H x y d1 d2 cs P Q c r1 r2 ⟨x0, xs, t, rfl, rfl, hw, hp⟩ qq
  cases r1 with
  | @tup a vs _ n1 n2 hH rl =>
    cases r2 with
    | @tup b us _ m1 m2 gH sl =>
      cases rl with
      | @cons _ _ v0 vt e1 e2 =>
        cases sl with
        | cons f1 f2 =>
          cases f1
          cases f2
          refine ⟨a, b, v0, vt, t, rfl, rfl, .inl (.inl hH), .inl (.inl gH), ?_, qq _ _ _ _ _ (Grow.refl as H) c .bl hp⟩
          rcases hw with ⟨p, tp, s1, s2, e⟩ | ⟨ks, ys, rfl⟩
          · exact .inl ⟨p, tp.dp c e1, s1, s2, e⟩
          · cases e1 with
            | dct _ _ hD _ _ => exact .inr ⟨_, _, rfl, hD⟩
variable {ρ : Ro} {cs : Cs} {a b : Expr} {PT' : Bool → Cs → Prop} {pos : Pos}
theorem wt_eqHead (hu : X.A.units + 64 < cLine) (h : W X a ρ cs fun d1 cs1 => W X b ρ cs1 fun d2 cs2 => ∃ x0 xs t, d1 = .tup (x0 :: xs) ∧ d2 = .tup [.str t] ∧ ((∃ p, ToPy cs2 x0 p ∧ SeqAt.shaped p = true ∧ SeqAt.shaped (.str t) = true ∧ PyData.eqv p (.str t) = false) ∨ ∃ ks ys, x0 = .dct ks ys) ∧ PT' false cs2) : WT X (.Compare a [.Eq] [b] pos) ρ cs PT' :=
  wt_cmp (op_head hu) od_head (nomark _) (h.mono fun _ _ z => W.mono z fun _ _ ⟨x0, xs, t, e1, e2, hw, p⟩ => ⟨x0, xs, t, e1, e2, hw, _, rfl, p⟩)
end
end Rg
set_option Elab.async false
set_option linter.all false
set_option maxRecDepth 100000
namespace K
open PySem PySem.Spec
open PyProof.Rows L2 Rg
abbrev FnP (K : PySem.W.Frag) (x : Str) (st : Stmt) (f : Addr) (fd : FuncData)
      : Prop := FunD K x x (defArgs st) (defBody st) (defScope st) [] [] f fd
/-- the built-in names are still the built-in ones -/
structure Bl (mg : Str → Option Value) : Prop where
  len : mg "len" = none
  range : mg "range" = none
  all : mg "all" = none
  zip : mg "zip" = none
  list : mg "list" = none
  sorted : mg "sorted" = none
  set : mg "set" = none
  isinstance : mg "isinstance" = none
  int : mg "int" = none
  bool : mg "bool" = none
  enumerate : mg "enumerate" = none
  abs : mg "abs" = none
  max : mg "max" = none
  min : mg "min" = none
  tuple : mg "tuple" = none
  dict : mg "dict" = none
  str : mg "str" = none
  repr : mg "repr" = none
theorem tno {ρ : Ro} {cs : Cs} {A B : Cs → Prop} (h : A cs) : TNo ρ cs fun k cs2 => if k = true then A cs2 else B cs2 := by
  show (if true = true then A cs else B cs)
  rw [if_pos rfl]; exact h
def isInt : D → Bool | .int _ => true | _ => false
def dInt : D → Bool | .int _ => true | .bl _ => true | _ => false
def dBool : D → Bool | .bl _ => true | _ => false
def dList : D → Bool | .lst _ => true | .own _ => true | .scr _ => true | _ => false
theorem kitI {d t} (h : TyD d t) : kitB t "int" = some (dInt d) := by cases h <;> (simp only [dInt]; decide +kernel)
theorem kitBo {d t} (h : TyD d t) : kitB t "bool" = some (dBool d) := by cases h <;> (simp only [dBool]; decide +kernel)
theorem kitLi {d t} (h : TyD d t) : kitB t "list" = some (dList d) := by cases h <;> (simp only [dList]; decide +kernel)
theorem iteq {A B : Prop} (k : Bool) (h1 : k = true → A) (h2 : k = false → B) : if k = true then A else B := by
  cases k
  · rw [if_neg Bool.false_ne_true]; exact h2 rfl
  · rw [if_pos rfl]; exact h1 rfl
def ringB : D → Bool | .int i => decide (2 ≤ i) && decide (i ≤ 60) | _ => false
def srvB (n : Int) : D → Bool | .int i => decide (0 ≤ i) && decide (i < n) | _ => false
def ascB (ns : List Int) : Bool := (ns.zip (ns.drop 1)).all fun p => decide (p.1 < p.2)
theorem cut1 (ns : List Int) : Rg.cutD (ns.map D.int) (some 1) none = (ns.drop 1).map D.int := by
  unfold Rg.cutD
  rw [show HT.sIx (ns.map D.int).length 0 (some 1) = min 1 (ns.map D.int).length from HT.sIx_nat _ 0 1, HT.sIx_none]
  cases ns with
  | nil => rfl
  | cons x r => simp [List.take_of_length_le]
theorem tyL {d : D} (h : dList d = true) : TyD d "list" := by cases d <;> simp [dList] at h <;> constructor
theorem allInt (n : Int) (r : List Int) : (r.map D.int).all (srvB n) = r.all fun i => decide (0 ≤ i) && decide (i < n) := by rw [List.all_map]; rfl
theorem tyInts (r : List Int) : ∀ x ∈ r.map D.int, ∃ t, TyD x t := fun x hx => by
  obtain ⟨i, _, rfl⟩ := List.mem_map.mp hx
  exact ⟨_, .int⟩
def batB (n : Int) (r : List Int) : Bool := (r.all fun i => decide (0 ≤ i) && decide (i < n)) && (decide (0 < (r.length : Int)) && ascB r)
def rng (n : Int) : List Int := (List.range n.toNat).map fun i : Nat => (i : Int)
theorem rng_len (n : Int) : (rng n).length = n.toNat := by simp [rng]
theorem rng_get {n : Int} {i : Nat} (h : i < n.toNat) : (rng n)[i]? = some (i : Int) := by simp [rng, h]
theorem rng_mem {n i : Int} : i ∈ rng n ↔ 0 ≤ i ∧ i < n := by
  unfold rng
  rw [List.mem_map]
  constructor
  · rintro ⟨k, hk, rfl⟩
    rw [List.mem_range] at hk
    omega
  · intro h
    exact ⟨i.toNat, List.mem_range.mpr (by omega), by omega⟩
theorem rng_sorted (n : Int) : (rng n).Pairwise (· ≤ ·) := by
  unfold rng
  rw [List.pairwise_map]
  exact List.Pairwise.imp (fun h => by omega) List.pairwise_lt_range
theorem sorted_eq : ∀ {xs ys : List Int}, xs.Perm ys → xs.Pairwise (· ≤ ·) → ys.Pairwise (· ≤ ·) → xs = ys
  | [], ys, p, _, _ => p.nil_eq
  | x :: xs, [], p, _, _ => absurd p.symm.nil_eq (by simp)
  | x :: xs, y :: ys, p, h1, h2 => by
    have e : x = y := by
      have a : x ∈ y :: ys := p.mem_iff.mp List.mem_cons_self
      have b : y ∈ x :: xs := p.mem_iff.mpr List.mem_cons_self
      have h1' := List.pairwise_cons.mp h1
      have h2' := List.pairwise_cons.mp h2
      rcases List.mem_cons.mp a with a | a
      · exact a
      · rcases List.mem_cons.mp b with b | b
        · exact b.symm
        · have := h1'.1 y b
          have := h2'.1 x a
          omega
    subst e
    rw [sorted_eq ((List.perm_cons x).mp p) (List.pairwise_cons.mp h1).2 (List.pairwise_cons.mp h2).2]
structure Rnd (n : Int) (rows : List (List Int)) : Prop where
  lo : 2 ≤ n
  hi : n ≤ 60
  two : 2 ≤ rows.length
  bat : ∀ r ∈ rows, batB n r = true
  perm : rows.flatten.Perm (rng n)
def RowsD (cs : Cs) (d : D) (rows : List (List Int)) : Prop := ∃ xs, LstD cs d xs ∧ dList d = true ∧ xs.length = rows.length ∧ ∀ (i : Nat) x r, xs[i]? = some x → rows[i]? = some r → LstD cs x (r.map .int) ∧ dList x = true
theorem len_flat {rows : List (List Int)} {r : List Int} (h : r ∈ rows) : r.length ≤ rows.flatten.length := by
  induction rows with
  | nil => cases h
  | cons a t ih =>
    rw [List.flatten_cons, List.length_append]
    rcases (List.mem_cons.mp h) with e | h
    · rw [e]; omega
    · have := ih h; omega
theorem Rnd.flat {n rows} (R : Rnd n rows) : rows.flatten.length = n.toNat := by rw [R.perm.length_eq, rng_len]
theorem Rnd.small {n rows} (R : Rnd n rows) {r : List Int} (h : r ∈ rows) : r.length ≤ 60 := by
  have := len_flat h
  have := R.flat
  have := R.hi
  omega
theorem rows_le : ∀ {rows : List (List Int)}, (∀ r ∈ rows, r ≠ []) → rows.length ≤ rows.flatten.length
  | [], _ => by simp
  | r :: t, h => by
    have ih := rows_le (rows := t) fun x hx => h x (List.mem_cons_of_mem _ hx)
    have hr : r ≠ [] := h r List.mem_cons_self
    have : 0 < r.length := List.length_pos_iff.mpr hr
    rw [List.flatten_cons, List.length_append, List.length_cons]
    omega
theorem Rnd.ne {n rows} (R : Rnd n rows) : ∀ r ∈ rows, r ≠ [] := fun r h e => by
  have := R.bat r h
  rw [e] at this
  simp [batB] at this
theorem Rnd.rows {n rows} (R : Rnd n rows) : rows.length ≤ 60 := by
  have := rows_le R.ne
  have := R.flat
  have := R.hi
  omega
theorem eqd_int {cs : Cs} {i j : Int} : EqD cs (.int i) (.int j) (decide (i = j)) := ⟨_, _, .int, .int, rfl, rfl, by show (i == j) = decide (i = j); exact Bool.beq_eq_decide_eq i j⟩
theorem rng_eq (n : Int) : (rgD 0 n) = rng n := by unfold rgD rng; simp
theorem eqd_ints {cs : Cs} {d1 d2 : D} {ns ms : List Int} (h1 : LstD cs d1 (ns.map .int)) (h2 : LstD cs d2 (ms.map .int)) : EqD cs d1 d2 (decide (ns = ms)) := by
  refine ⟨_, _, .lst h1 (toPyL_ints ns), .lst h2 (toPyL_ints ms), ?_, ?_, eqvAll_ints ns ms⟩ <;> exact shaped_ints _
theorem flat_take {rows : List (List Int)} {k : Nat} {r : List Int} (h : rows[k]? = some r) : (rows.take (k + 1)).flatten = (rows.take k).flatten ++ r := by
  rw [List.take_add_one, h]; simp
/-- each server's batch, as the loops write it -/
def setAll (k : Int) : List Int → List Int → List Int
  | [], l => l
  | j :: r, l => setAll k r (l.set j.toNat k)
theorem setAll_len (k : Int) : ∀ (b l : List Int), (setAll k b l).length = l.length
  | [], _ => rfl
  | j :: r, l => by unfold setAll; rw [setAll_len k r]; simp
def timesF : Nat → List (List Int) → List Int → List Int
  | _, [], l => l
  | k, b :: r, l => timesF (k + 1) r (setAll k b l)
theorem timesF_len : ∀ (rows : List (List Int)) (k : Nat) (l : List Int), (timesF k rows l).length = l.length
  | [], _, _ => rfl
  | b :: r, k, l => by unfold timesF; rw [timesF_len r, setAll_len]
theorem setAll_app (k : Int) : ∀ (a b l : List Int), setAll k (a ++ b) l = setAll k b (setAll k a l)
  | [], _, _ => rfl
  | j :: r, b, l => by
    show setAll k (r ++ b) (l.set j.toNat k) = setAll k b (setAll k r (l.set j.toNat k))
    exact setAll_app k r b _
theorem timesF_app : ∀ (a b : List (List Int)) (k : Nat) (l : List Int), timesF k (a ++ b) l = timesF (k + a.length) b (timesF k a l)
  | [], _, _, _ => rfl
  | x :: r, b, k, l => by
    show timesF (k + 1) (r ++ b) (setAll k x l) = timesF (k + (r.length + 1)) b (timesF (k + 1) r (setAll k x l))
    rw [timesF_app r b (k + 1)]
    congr 1
    omega
def timesZ (n : Int) (rows : List (List Int)) : List Int := timesF 0 rows (List.replicate n.toNat n)
theorem last_at {cs : Cs} {x : List D} : (cs ++ [x])[cs.length]? = some x := by simp
theorem set_last {cs : Cs} {x y : List D} : (cs ++ [x]).set cs.length y = cs ++ [y] := by simp [List.set_append]
theorem ixN_of {m : Nat} {j : Int} (h0 : 0 ≤ j) (h1 : j < m) : ixN m j = some j.toNat := by unfold ixN; rw [if_pos h0, if_pos h1]
theorem batB_mem {n : Int} {r : List Int} (h : batB n r = true) {i : Int} (hi : i ∈ r) : 0 ≤ i ∧ i < n := by
  unfold batB at h
  rw [Bool.and_eq_true] at h
  have := List.all_eq_true.mp h.1 i hi
  simpa using this
theorem mapInt_get {r : List Int} {l : Nat} {y : D} (h : (r.map D.int)[l]? = some y) : ∃ a, r[l]? = some a ∧ y = .int a := by
  rw [List.getElem?_map] at h
  cases h1 : r[l]? with
  | none => rw [h1] at h <;> cases h
  | some a => rw [h1] at h; cases h; exact ⟨a, rfl, rfl⟩
theorem RowsD.at_ {cs : Cs} {rows : List (List Int)} {xs : List D} (hlen : xs.length = rows.length) (hrow : ∀ (i : Nat) x r, xs[i]? = some x → rows[i]? = some r → LstD cs x (r.map .int) ∧ dList x = true) {i : Nat} {x : D} (hx : xs[i]? = some x) :
    ∃ r, rows[i]? = some r ∧ r ∈ rows ∧ LstD cs x (r.map .int) ∧ dList x = true := by
  have hi : i < rows.length := by rw [← hlen]; exact (List.getElem?_eq_some_iff.mp hx).1
  exact ⟨rows[i], List.getElem?_eq_getElem hi, List.getElem_mem hi, hrow i x _ hx (List.getElem?_eq_getElem hi)⟩
theorem _root_.Rg.LstD.app {cs more : Cs} {d : D} {xs : List D} (h : LstD cs d xs) : LstD (cs ++ more) d xs := by
  rcases h with h | ⟨k, h1, h2⟩ | h
  · exact .inl h
  · exact .inr (.inl ⟨k, h1, by rw [List.getElem?_append_left (List.getElem?_eq_some_iff.mp h2).1]; exact h2⟩)
  · exact .inr (.inr h)
theorem RowsD.app {cs more : Cs} {d : D} {rows : List (List Int)} (h : RowsD cs d rows) : RowsD (cs ++ more) d rows := by
  obtain ⟨xs, h1, h2, h3, h4⟩ := h
  exact ⟨xs, h1.app, h2, h3, fun i x r a b => ⟨(h4 i x r a b).1.app, (h4 i x r a b).2⟩⟩
theorem repN (v : Int) (n : Nat) : (List.replicate n [D.int v]).flatten = (List.replicate n v).map D.int := by
  induction n with
  | zero => rfl
  | succ n ih => rw [List.replicate_succ, List.flatten_cons, ih, List.replicate_succ]; rfl
abbrev pgT (X : Cx) {x y : Str} (px py tp : Pos) (kt i j : Nat) : Prop := PG X (.Tuple [.Name x px, .Name y py] kt tp) (gPair X.K i j)
theorem setAll_out (k : Int) {x : Int} (h0 : 0 ≤ x) : ∀ (b l : List Int), (∀ j ∈ b, 0 ≤ j) → x ∉ b → (setAll k b l)[x.toNat]? = l[x.toNat]?
  | [], _, _, _ => rfl
  | j :: r, l, hn, hx => by
    show (setAll k r (l.set j.toNat k))[x.toNat]? = _
    rw [setAll_out k h0 r _ (fun z hz => hn z (List.mem_cons_of_mem _ hz)) (fun z => hx (List.mem_cons_of_mem _ z))]
    have hj := hn j List.mem_cons_self
    rw [List.getElem?_set_ne]
    intro e
    exact hx (by rw [show x = j by omega]; exact List.mem_cons_self)
theorem setAll_in (k : Int) {x : Int} (h0 : 0 ≤ x) : ∀ (b l : List Int), (∀ j ∈ b, 0 ≤ j) → x ∈ b → x.toNat < l.length → (setAll k b l)[x.toNat]? = some k
  | j :: r, l, hn, hx, hl => by
    show (setAll k r (l.set j.toNat k))[x.toNat]? = _
    by_cases hr : x ∈ r
    · exact setAll_in k h0 r _ (fun z hz => hn z (List.mem_cons_of_mem _ hz)) hr (by rw [List.length_set]; exact hl)
    · rw [setAll_out k h0 r _ (fun z hz => hn z (List.mem_cons_of_mem _ hz)) hr]
      have e : x = j := by
        rcases List.mem_cons.mp hx with z | z
        · exact z
        · exact absurd z hr
      rw [e, List.getElem?_set_self (by rw [← e]; exact hl)]
theorem timesF_out {x : Int} (h0 : 0 ≤ x) : ∀ (rows : List (List Int)) (k : Nat) (l : List Int), (∀ r ∈ rows, ∀ j ∈ r, 0 ≤ j) → (∀ r ∈ rows, x ∉ r) → (timesF k rows l)[x.toNat]? = l[x.toNat]?
  | [], _, _, _, _ => rfl
  | b :: r, k, l, hn, hx => by
    show (timesF (k + 1) r (setAll k b l))[x.toNat]? = _
    rw [timesF_out h0 r _ _ (fun z hz => hn z (List.mem_cons_of_mem _ hz)) (fun z hz => hx z (List.mem_cons_of_mem _ hz)), setAll_out _ h0 b l (hn b List.mem_cons_self) (hx b List.mem_cons_self)]
theorem rng_nodup (n : Int) : (rng n).Nodup := by
  unfold rng
  show List.Pairwise _ _
  rw [List.pairwise_map]
  exact List.Pairwise.imp (fun h => by omega) List.pairwise_lt_range
theorem Rnd.mem {n : Int} {rows : List (List Int)} (R : Rnd n rows) : ∀ r ∈ rows, ∀ j ∈ r, 0 ≤ j := fun r hr j hj => (batB_mem (R.bat r hr) hj).1
theorem Rnd.dis {n : Int} {rows : List (List Int)} (R : Rnd n rows) {i j : Nat} {a b : List Int} (hi : rows[i]? = some a) (hj : rows[j]? = some b) (h : i < j) {x : Int} (ha : x ∈ a) (hb : x ∈ b) : False := by
  have nd : rows.flatten.Nodup := (R.perm.nodup_iff).mpr (rng_nodup n)
  have pw := (List.pairwise_flatten.mp nd).2
  rw [List.pairwise_iff_getElem] at pw
  obtain ⟨l1, e1⟩ := List.getElem?_eq_some_iff.mp hi
  obtain ⟨l2, e2⟩ := List.getElem?_eq_some_iff.mp hj
  have := pw i j l1 l2 h x (by rw [e1]; exact ha) x (by rw [e2]; exact hb)
  exact this rfl
theorem Rnd.spot {n : Int} {rows : List (List Int)} (R : Rnd n rows) {x : Int} (h0 : 0 ≤ x) (hx : x < n) : ∃ t : Nat, t < rows.length ∧ (timesZ n rows)[x.toNat]? = some (t : Int) ∧ ∀ (u : Nat) r, rows[u]? = some r → (x ∈ r ↔ u = t) := by
  have hm : x ∈ rows.flatten := R.perm.mem_iff.mpr (rng_mem.mpr ⟨h0, hx⟩)
  obtain ⟨r, hr, hxr⟩ := List.mem_flatten.mp hm
  obtain ⟨t, ht⟩ := List.getElem?_of_mem hr
  have hu : ∀ (u : Nat) q, rows[u]? = some q → (x ∈ q ↔ u = t) := fun u q hq => by
    constructor
    · intro hxq
      rcases Nat.lt_trichotomy u t with z | z | z
      · exact (R.dis hq ht z hxq hxr).elim
      · exact z
      · exact (R.dis ht hq z hxr hxq).elim
    · intro e
      subst e
      rw [hq] at ht
      cases ht
      exact hxr
  obtain ⟨tl, te⟩ := List.getElem?_eq_some_iff.mp ht
  refine ⟨t, tl, ?_, hu⟩
  have es : rows = rows.take t ++ ([r] ++ rows.drop (t + 1)) := by
    rw [← te, List.singleton_append, ← List.drop_eq_getElem_cons tl, List.take_append_drop]
  unfold timesZ
  rw [es, timesF_app, timesF_app, timesF_out h0]
  · show (setAll _ r _)[x.toNat]? = _
    rw [setAll_in _ h0 r _ (R.mem r hr) hxr (by rw [timesF_len, List.length_replicate]; omega)]
    rw [List.length_take, Nat.min_eq_left (by omega)]
    simp
  · intro q hq
    exact R.mem q (List.mem_of_mem_drop hq)
  · intro q hq hxq
    obtain ⟨u, hu2⟩ := List.getElem?_of_mem hq
    rw [List.getElem?_drop] at hu2
    have := (hu _ q hu2).mp hxq
    omega
theorem timesZ_len (n : Int) (rows : List (List Int)) : (timesZ n rows).length = n.toNat := by unfold timesZ; rw [timesF_len, List.length_replicate]
inductive Pl : Nat → PyData → Prop
  | non {m} : Pl m .none
  | bl {m b} : Pl m (.bool b)
  | int {m i} : Pl m (.int i)
  | list {m xs} : (∀ x ∈ xs, Pl m x) → xs.length < 100000 → Pl (m + 1) (.list xs)
def dTup : D → Bool | .tup _ => true | _ => false
def dStr : D → Bool | .str _ => true | _ => false
theorem kitTu {d t} (h : TyD d t) : kitB t "tuple" = some (dTup d) := by cases h <;> (simp only [dTup]; decide +kernel)
def dDict : D → Bool | .dct _ _ | .dcT _ _ => true | _ => false
theorem kitDi {d t} (h : TyD d t) : kitB t "dict" = some (dDict d) := by cases h <;> (simp only [dDict]; decide +kernel)
theorem noDict {cs : Cs} {d : D} {p : PyData} (h : ToPy cs d p) : dDict d = false := by
  cases d with
  | dct ks xs =>
    cases h with
    | lst h _ => rcases h with h | ⟨_, h, _⟩ | ⟨_, h, _⟩ <;> cases h
  | dcT ks xs =>
    cases h with
    | lst h _ => rcases h with h | ⟨_, h, _⟩ | ⟨_, h, _⟩ <;> cases h
  | _ => rfl
theorem kitSt {d t} (h : TyD d t) : kitB t "str" = some (dStr d) := by cases h <;> (simp only [dStr]; decide +kernel)
theorem toL {cs : Cs} {d : D} {ps : List PyData} (h : ToPy cs d (.list ps)) : ∃ xs, LstD cs d xs ∧ ToPyL cs xs ps ∧ dList d = true := by
  cases h with
  | lst hl l => exact ⟨_, hl, l, by rcases hl with rfl | ⟨k, rfl, _⟩ | ⟨ns, rfl, _⟩ <;> rfl⟩
theorem toPyL_len {cs : Cs} : ∀ {xs : List D} {ps : List PyData}, ToPyL cs xs ps → xs.length = ps.length
  | _, _, .nil => rfl
  | _, _, .cons _ t => by rw [List.length_cons, List.length_cons, toPyL_len t]
theorem toPyL_get {cs : Cs} : ∀ {xs : List D} {ps : List PyData} {i : Nat} {x : D}, ToPyL cs xs ps → xs[i]? = some x → ∃ p, ps[i]? = some p ∧ ToPy cs x p
  | _, _, _, _, .nil, e => by
    simp at e
  | _, _, 0, _, .cons h _, e => by simp at e; subst e; exact ⟨_, rfl, h⟩
  | _, _, i + 1, y, .cons _ t, e => by
    obtain ⟨p, h1, h2⟩ := toPyL_get (i := i) t (by simpa using e)
    exact ⟨p, by simpa using h1, h2⟩
theorem toPyIs {cs : Cs} {d : D} {ns : List Int} (h : LstD cs d (ns.map .int)) : ToPy cs d (pyInts ns) := .lst h (toPyL_ints ns)
theorem toPyRs {cs : Cs} : ∀ {xs : List D} {rows : List (List Int)}, xs.length = rows.length → (∀ (i : Nat) x r, xs[i]? = some x → rows[i]? = some r → LstD cs x (r.map .int) ∧ dList x = true) → ToPyL cs xs (rows.map pyInts)
  | [], [], _, _ => .nil
  | x :: xs, r :: rows, hl, h => .cons (toPyIs (h 0 x r rfl rfl).1) (toPyRs (by simpa using hl) fun i y q hy hq => h (i + 1) y q hy hq)
theorem RowsD.py {cs : Cs} {d : D} {rows : List (List Int)} (h : RowsD cs d rows) : ToPy cs d (pyRows rows) := by
  obtain ⟨xs, hl, _, hlen, hrow⟩ := h
  exact .lst hl (toPyRs hlen hrow)
theorem RowsD.ref {cs : Cs} {d : D} {n : Int} {rows : List (List Int)} (h : RowsD cs d rows) (R : Rnd n rows) : dRef d = true := by
  obtain ⟨xs, hl, hd, hlen, hrow⟩ := h
  rcases hl with e | ⟨k, e, _⟩ | ⟨ns, e, e2⟩
  · rw [e]; rfl
  · rw [e]; rfl
  · exfalso
    have h2 := R.two
    have hx : xs[0]? = some xs[0] := List.getElem?_eq_getElem (by omega)
    have hr : rows[0]? = some rows[0] := List.getElem?_eq_getElem (by omega)
    have := (hrow 0 _ _ hx hr).2
    subst e2
    obtain ⟨a, _, e3⟩ := mapInt_get hx
    rw [e3] at this
    cases this
theorem Rnd.nice {n : Int} {rows : List (List Int)} (R : Rnd n rows) : Nice 2 (rows.length * 4101) (pyRows rows) := nice_rows fun r hr => by
  have h60 := R.hi
  have h1 := len_flat hr
  have h2 := R.flat
  refine ⟨by omega, fun i hi => ?_⟩
  have := batB_mem (R.bat r hr) hi
  omega
def gNeS : GD2 := fun d1 d2 cs P => ∃ s t, d1 = .str s ∧ d2 = .str t ∧ P (.bl (!decide (s = t))) cs
theorem od_neS : OpD rNe gNeS := by
  rintro as hs H x y d1 d2 cs P Q c r1 r2 ⟨s, t, rfl, rfl, hp⟩ qq
  cases r1
  cases r2
  refine ⟨rfl, ?_⟩
  have := qq _ _ _ _ _ (Grow.refl as H) c .bl hp
  simpa using this
section
variable {X : Cx} {ρ : Ro} {cs : Cs} {a b : Expr} {PT' : Bool → Cs → Prop} {pos : Pos}
theorem wt_neS (h : W X a ρ cs fun d1 cs1 => W X b ρ cs1 fun d2 cs2 => ∃ s t, d1 = .str s ∧ d2 = .str t ∧ PT' (!decide (s = t)) cs2) : WT X (.Compare a [.NotEq] [b] pos) ρ cs PT' :=
  wt_cmp op_ne od_neS (nomark _) (h.mono fun _ _ z => W.mono z fun _ _ ⟨s, t, e1, e2, p⟩ => ⟨s, t, e1, e2, _, rfl, p⟩)
end
theorem pl_int {m : Nat} {i : Int} : Pl m (.int i) := .int
theorem pl_ints {m : Nat} {ns : List Int} (h : ns.length < 100000) : Pl (m + 1) (pyInts ns) := .list (fun x hx => by
  obtain ⟨i, _, rfl⟩ := List.mem_map.mp hx
  exact .int) (by rw [List.length_map]; exact h)
theorem pl_two {m : Nat} {p q : PyData} (h1 : Pl m p) (h2 : Pl m q) : Pl (m + 1) (.list [p, q]) := .list (fun x hx => by
  simp only [List.mem_cons, or_false,
    List.not_mem_nil] at hx
  rcases hx with e | e
  · rw [e]; exact h1
  · rw [e]; exact h2) (by simp)
def NotC (ns : List Int) : Prop := ∃ (i j : Nat) (a b : Int), ns[i]? = some a ∧ ns[j]? = some b ∧ a ≠ b
theorem Rnd.rowsN {n rows} (R : Rnd n rows) : (rows.length : Int) ≤ n := by
  have := rows_le R.ne
  have := R.flat
  have := R.lo
  omega
def lastAt (r : List Int) (l : Nat) : Int := if l = 0 then -1 else r[l - 1]?.getD (-1)
theorem lastAt_succ {r : List Int} {l : Nat} {j : Int} (h : r[l]? = some j) : lastAt r (l + 1) = j := by
  unfold lastAt
  rw [if_neg (by omega), Nat.add_sub_cancel, h]; rfl
theorem ascB_at {r : List Int} (h : ascB r = true) {l : Nat} {a b : Int} (ha : r[l]? = some a) (hb : r[l + 1]? = some b) : a < b := by
  unfold ascB at h
  have hz : (r.zip (r.drop 1))[l]? = some (a, b) := by
    rw [List.getElem?_zip_eq_some]
    refine ⟨ha, ?_⟩
    rw [List.getElem?_drop, Nat.add_comm]; exact hb
  have := List.all_eq_true.mp h (a, b) (List.mem_of_getElem? hz)
  exact of_decide_eq_true this
theorem batB_asc {n : Int} {r : List Int} (h : batB n r = true) : ascB r = true := by
  unfold batB at h
  rw [Bool.and_eq_true, Bool.and_eq_true] at h
  exact h.2.2
theorem lastAt_lt {n : Int} {r : List Int} (h : batB n r = true) {l : Nat} {j : Int} (hj : r[l]? = some j) : lastAt r l < j := by
  unfold lastAt
  by_cases e : l = 0
  · rw [if_pos e]
    have := batB_mem h (List.mem_of_getElem? hj)
    omega
  · rw [if_neg e]
    obtain ⟨m, rfl⟩ : ∃ m, l = m + 1 := ⟨l - 1, by omega⟩
    have hm : m < r.length := by have := (List.getElem?_eq_some_iff.mp hj).1; omega
    rw [Nat.add_sub_cancel, List.getElem?_eq_getElem hm]
    exact ascB_at (batB_asc h) (List.getElem?_eq_getElem hm) hj
theorem Rnd.nd {n : Int} {rows : List (List Int)} (R : Rnd n rows) {r : List Int} (h : r ∈ rows) : r.Nodup :=
  (List.pairwise_flatten.mp ((R.perm.nodup_iff).mpr (rng_nodup n))).1 r h
theorem nd_take {r : List Int} (nd : r.Nodup) {l : Nat} {j : Int} (hj : r[l]? = some j) : j ∉ r.take l := fun hm => by
  obtain ⟨i, hi⟩ := List.getElem?_of_mem hm
  have hil : i < l := by
    have hil2 := (List.getElem?_eq_some_iff.mp hi).1
    rw [List.length_take] at hil2; omega
  rw [List.getElem?_take_of_lt hil] at hi
  obtain ⟨a, ha⟩ := List.getElem?_eq_some_iff.mp hi
  obtain ⟨b, hb⟩ := List.getElem?_eq_some_iff.mp hj
  exact (List.pairwise_iff_getElem.mp nd) i l a b hil (by rw [ha, hb])
/-- a server that was not met has no time yet -/
theorem Rnd.fresh {n : Int} {rows : List (List Int)} (R : Rnd n rows) {k l : Nat} {r : List Int} {j : Int} (hr : rows[k]? = some r) (hj : r[l]? = some j) :
    (setAll k (r.take l) (timesF 0 (rows.take k) (List.replicate n.toNat n)))[j.toNat]? = some n := by
  have hm := List.mem_of_getElem? hr
  have hb := batB_mem (R.bat r hm) (List.mem_of_getElem? hj)
  rw [setAll_out _ hb.1 _ _ (fun z hz => R.mem r hm z (List.mem_of_mem_take hz)) (nd_take (R.nd hm) hj), timesF_out hb.1 _ _ _ (fun q hq => R.mem q (List.mem_of_mem_take hq))]
  · rw [List.getElem?_replicate_of_lt (by omega)]
  · intro q hq hx
    obtain ⟨u, hu⟩ := List.getElem?_of_mem hq
    have huk : u < k := by
      have := (List.getElem?_eq_some_iff.mp hu).1
      rw [List.length_take] at this; omega
    rw [List.getElem?_take_of_lt huk] at hu
    exact R.dis hu hr huk hx (List.mem_of_getElem? hj)
theorem Rnd.timeLt {n : Int} {rows : List (List Int)} (R : Rnd n rows) {t : Int} (h : t ∈ timesZ n rows) : 0 ≤ t ∧ t < rows.length := by
  obtain ⟨i, hi⟩ := List.getElem?_of_mem h
  have hil := (List.getElem?_eq_some_iff.mp hi).1
  rw [timesZ_len] at hil
  obtain ⟨u, hu, e, _⟩ := R.spot (x := (i : Int)) (by omega) (by omega)
  rw [Int.toNat_natCast, hi] at e
  cases e
  omega
theorem Rnd.notN {n : Int} {rows : List (List Int)} (R : Rnd n rows) : n ∉ timesZ n rows := fun h => by
  have := R.timeLt h
  have := R.rowsN
  omega
end K
set_option Elab.async false
set_option linter.all false
set_option maxRecDepth 100000
namespace K
open PySem PySem.Spec
open PyProof.Rows L2 Rg
/-! ### around the ring -/
/-- what stands at place p of the line, for any p -/
def wAt (ns : List Int) (p : Int) : Int := ns.getD (p % (ns.length : Int)).toNat 0
theorem mod_lt' {n : Nat} (h : 0 < n) (p : Int) : (p % (n : Int)).toNat < n := by
  have a := Int.emod_lt_of_pos p (show (0 : Int) < n by omega)
  have b := Int.emod_nonneg p (show (n : Int) ≠ 0 by omega)
  omega
theorem modT {n : Nat} (h : 0 < n) (p : Int) : (((p % (n : Int)).toNat : Nat) : Int) = p % n := by
  have b := Int.emod_nonneg p (show (n : Int) ≠ 0 by omega)
  omega
theorem wAt_get {ns : List Int} (h : 0 < ns.length) (p : Int) : ns[(p % (ns.length : Int)).toNat]? = some (wAt ns p) := by
  have hl := mod_lt' h p
  unfold wAt
  rw [List.getD_eq_getElem?_getD, (List.getElem?_eq_getElem hl)]; rfl
theorem wAt_nat {ns : List Int} {i : Nat} (h : i < ns.length) : ns[i]? = some (wAt ns i) := by
  have e : ((i : Int) % (ns.length : Int)).toNat = i := by
    rw [Int.emod_eq_of_lt (by omega) (by omega)]; simp
  have := wAt_get (ns := ns) (by omega) (i : Int)
  rw [e] at this; exact this
theorem wAt_mod (ns : List Int) (p : Int) : wAt ns (p % (ns.length : Int)) = wAt ns p := by
  unfold wAt; rw [Int.emod_emod]
theorem wAt_add (ns : List Int) (p q : Int) : wAt ns (p % (ns.length : Int) + q) = wAt ns (p + q) := by
  unfold wAt; rw [Int.emod_add_emod]
theorem wAt_sub (ns : List Int) (p q : Int) : wAt ns (p % (ns.length : Int) - q) = wAt ns (p - q) := by
  unfold wAt; rw [Int.emod_sub_emod]
theorem ixN_mod {n : Nat} {j : Int} (h0 : -(n : Int) ≤ j) (h1 : j < n) : ixN n j = some (j % (n : Int)).toNat := by
  unfold ixN
  by_cases h : 0 ≤ j
  · rw [if_pos h, if_pos h1, Int.emod_eq_of_lt h h1]
  · rw [if_neg h]
    have e : j % (n : Int) = j + n := by
      rw [← Int.add_emod_right (a := j) (b := (n : Int))]
      exact Int.emod_eq_of_lt (by omega) (by omega)
    rw [e]
    split
    · congr 1
    · omega
theorem atI_w {ns : List Int} {j : Int} (h0 : -(ns.length : Int) ≤ j) (h1 : j < ns.length) : atI (ns.map D.int) j = some (.int (wAt ns j)) := by
  unfold atI
  rw [List.length_map, ixN_mod h0 h1]
  show (ns.map D.int)[(j % (ns.length : Int)).toNat]? = _
  rw [List.getElem?_map, wAt_get (by omega) j]; rfl
/-- a drop: a smaller number than the one in front -/
def drp (ns : List Int) (p : Int) : Bool := decide (wAt ns p < wAt ns (p - 1))
theorem drp_mod (ns : List Int) (p : Int) : drp ns (p % (ns.length : Int)) = drp ns p := by
  unfold drp; rw [wAt_mod, wAt_sub]
theorem mono_up {ns : List Int} (h : ∀ i : Nat, i < ns.length → wAt ns ((i : Int) - 1) ≤ wAt ns i) : ∀ (d i : Nat), i + d < ns.length → wAt ns i ≤ wAt ns ((i + d : Nat) : Int)
  | 0, i, _ => Int.le_refl _
  | d + 1, i, hi => by
    have a := mono_up h d i (by omega)
    have b := h (i + (d + 1)) hi
    rw [show (((i + (d + 1) : Nat) : Int) - 1) = ((i + d : Nat) : Int) by omega] at b
    omega
/-- numbers that are not all equal fall somewhere -/
theorem drp_ex {ns : List Int} (hc : NotC ns) : ∃ i : Nat, i < ns.length ∧ drp ns i = true := by
  obtain ⟨i, j, a, b, ha, hb, ne⟩ := hc
  have hi := (List.getElem?_eq_some_iff.mp ha).1
  have hj := (List.getElem?_eq_some_iff.mp hb).1
  rw [wAt_nat hi] at ha
  rw [wAt_nat hj] at hb
  cases ha; cases hb
  refine Classical.byContradiction fun hn => ne ?_
  have h : ∀ i : Nat, i < ns.length → wAt ns ((i : Int) - 1) ≤ wAt ns i := fun i hi => by
    have : ¬ drp ns i = true := fun z => hn ⟨i, hi, z⟩
    unfold drp at this
    simp only [decide_eq_true_eq] at this
    omega
  have h0 := h 0 (by omega)
  have e : wAt ns (((0 : Nat) : Int) - 1) = wAt ns ((ns.length - 1 : Nat) : Int) := by
    rw [← wAt_mod ns (((0 : Nat) : Int) - 1), ← wAt_mod ns ((ns.length - 1 : Nat) : Int)]
    congr 1
    rw [show ((0 : Nat) : Int) - 1 = ((ns.length - 1 : Nat) : Int) + (ns.length : Int) * (-1) by omega, Int.add_mul_emod_self_left]
  rw [e] at h0
  have key : ∀ i : Nat, i < ns.length → wAt ns i = wAt ns (0 : Nat) := fun i hi => by
    have a := mono_up h i 0 (by omega)
    have b := mono_up h (ns.length - 1 - i) i (by omega)
    rw [Nat.zero_add] at a
    rw [show i + (ns.length - 1 - i) = ns.length - 1 by omega] at b
    omega
  rw [key i hi, key j hj]
/-- the places after k batches, by the server behind -/
structure IsPl (ns : List Int) (k : Int) (l : List Int) : Prop where
  len : l.length = ns.length
  at_ : ∀ i : Nat, i < ns.length → wAt l i = if k ≤ wAt ns i then (i : Int) else if drp ns ((i : Int) + 1) = true then ((i : Int) + 1) % (ns.length : Int) else wAt l ((i : Int) + 1)
/-- .. after all -/
structure IsE (n : Nat) (dr : Int → Bool) (l : List Int) : Prop where
  len : l.length = n
  at_ : ∀ i : Nat, i < n → wAt l i = if dr (((i : Int) + 1) % (n : Int)) = true then ((i : Int) + 1) % (n : Int) else wAt l ((i : Int) + 1)
theorem ext_wAt {l m : List Int} (h : l.length = m.length) (e : ∀ i : Nat, i < l.length → wAt l i = wAt m i) : l = m := by
  apply List.ext_getElem?
  intro i
  by_cases hi : i < l.length
  · rw [wAt_nat hi, wAt_nat (by omega), e i hi]
  · rw [List.getElem?_eq_none (by omega), List.getElem?_eq_none (by omega)]
/-- from a drop d backwards, whatever holds in front of it holds everywhere -/
theorem back_ind {n : Nat} (hn : 0 < n) (d : Nat) {Q : Nat → Prop} (h0 : Q ((((d : Int) - 1) % (n : Int)).toNat)) (hs : ∀ i : Nat, i < n → Q ((((i : Int) + 1) % (n : Int)).toNat) → Q i) : ∀ i : Nat, i < n → Q i := by
  have key : ∀ s : Nat, Q ((((d : Int) - 1 - s) % (n : Int)).toNat) := fun s => by
    induction s with
    | zero => simpa using h0
    | succ s ih =>
      apply hs _ (mod_lt' hn _)
      rw [modT hn, Int.emod_add_emod, show (d : Int) - 1 - ((s + 1 : Nat) : Int) + 1 = (d : Int) - 1 - s by omega]
      exact ih
  intro i hi
  have a := Int.emod_nonneg ((d : Int) - 1 - i) (show (n : Int) ≠ 0 by omega)
  have b := Int.mul_ediv_add_emod ((d : Int) - 1 - i) n
  have := key (((d : Int) - 1 - i) % (n : Int)).toNat
  rw [modT hn, show (d : Int) - 1 - ((d : Int) - 1 - i) % (n : Int) = (i : Int) + n * (((d : Int) - 1 - i) / n) by omega, Int.add_mul_emod_self_left, Int.emod_eq_of_lt (by omega) (by omega)] at this
  simpa using this
theorem toNat_back {n d : Nat} (hn : 0 < n) (hd : d < n) : (((((d : Int) - 1) % (n : Int)).toNat : Nat) : Int) + 1 = ((d : Int) - 1) % (n : Int) + 1 ∧ ((((d : Int) - 1) % (n : Int)) + 1) % (n : Int) = d := by
  refine ⟨by rw [modT hn], ?_⟩
  rw [Int.emod_add_emod, show (d : Int) - 1 + 1 = d by omega]
  exact Int.emod_eq_of_lt (by omega) (by omega)
theorem IsE.uniq {n : Nat} {dr : Int → Bool} {l m : List Int} (hl : IsE n dr l) (hm : IsE n dr m) {d : Nat} (hd : d < n) (hdr : dr d = true) : l = m := by
  have hn : 0 < n := by omega
  refine ext_wAt (by rw [hl.len, hm.len]) fun i hi => ?_
  rw [hl.len] at hi
  refine back_ind (Q := fun i => wAt l i = wAt m i) hn d ?_ ?_ i hi
  · have b := toNat_back hn hd
    have hlt := mod_lt' hn ((d : Int) - 1)
    rw [hl.at_ _ hlt, hm.at_ _ hlt, b.1, b.2, if_pos hdr, if_pos hdr]
  · intro i hi h
    have e1 := wAt_mod l ((i : Int) + 1)
    have e2 := wAt_mod m ((i : Int) + 1)
    rw [hl.len] at e1
    rw [hm.len] at e2
    rw [modT hn, e1, e2] at h
    rw [hl.at_ i hi, hm.at_ i hi, h]
theorem IsPl.uniq {ns : List Int} {k : Int} {l m : List Int} (hl : IsPl ns k l) (hm : IsPl ns k m) (hc : NotC ns) : l = m := by
  obtain ⟨d, hd, hdr⟩ := drp_ex hc
  have hn : 0 < ns.length := by omega
  refine ext_wAt (by rw [hl.len, hm.len]) fun i hi => ?_
  rw [hl.len] at hi
  refine back_ind (Q := fun i => wAt l i = wAt m i) hn d ?_ ?_ i hi
  · have b := toNat_back hn hd
    have hlt := mod_lt' hn ((d : Int) - 1)
    have e : drp ns (((((d : Int) - 1) % (ns.length : Int)).toNat : Nat) + 1) = true := by
      rw [← drp_mod, b.1, b.2]; exact hdr
    rw [hl.at_ _ hlt, hm.at_ _ hlt, if_pos e, if_pos e]
  · intro i hi h
    have e1 := wAt_mod l ((i : Int) + 1)
    have e2 := wAt_mod m ((i : Int) + 1)
    rw [hl.len] at e1
    rw [hm.len] at e2
    rw [modT hn, e1, e2] at h
    rw [hl.at_ i hi, hm.at_ i hi, h]
/-- after all batches -/
theorem IsPl.ends {ns : List Int} {k : Int} {l : List Int} (h : IsPl ns k l) (hk : ∀ t ∈ ns, t < k) : IsE ns.length (drp ns) l :=
  ⟨h.len, fun i hi => by
    have hm := List.mem_of_getElem? (wAt_nat hi)
    have := hk _ hm
    rw [h.at_ i hi, if_neg (by omega), drp_mod]⟩
theorem IsE.congr {n : Nat} {dr ds : Int → Bool} {l : List Int} (h : IsE n dr l) (e : ∀ i : Nat, i < n → dr i = ds i) : IsE n ds l :=
  ⟨h.len, fun i hi => by
    have hn : 0 < n := by omega
    have := e _ (mod_lt' hn ((i : Int) + 1))
    rw [modT hn] at this
    rw [← this]
    exact h.at_ i hi⟩
/-- what ends are: the drops -/
theorem IsE.mem {n : Nat} {dr : Int → Bool} {l : List Int} (h : IsE n dr l) {d : Nat} (hd : d < n) (hdr : dr d = true) : ∀ v, v ∈ l ↔ (0 ≤ v ∧ v < n ∧ dr v = true) := by
  have hn : 0 < n := by omega
  have all : ∀ i : Nat, i < n → 0 ≤ wAt l i ∧ wAt l i < n ∧ dr (wAt l i) = true := by
    intro i hi
    refine back_ind (Q := fun i => 0 ≤ wAt l i ∧ wAt l i < n ∧ dr (wAt l i) = true) hn d ?_ ?_ i hi
    · have b := toNat_back hn hd
      have hlt := mod_lt' hn ((d : Int) - 1)
      rw [h.at_ _ hlt, b.1, b.2, if_pos hdr]
      exact ⟨by omega, by omega, hdr⟩
    · intro i hi q
      have e1 := wAt_mod l ((i : Int) + 1)
      rw [h.len] at e1
      rw [modT hn, e1] at q
      rw [h.at_ i hi]
      by_cases z : dr (((i : Int) + 1) % (n : Int)) = true
      · rw [if_pos z]
        exact ⟨Int.emod_nonneg _ (by omega), Int.emod_lt_of_pos _ (by omega), z⟩
      · rw [if_neg z]; exact q
  intro v
  constructor
  · intro hv
    obtain ⟨i, hi⟩ := List.getElem?_of_mem hv
    have hil := (List.getElem?_eq_some_iff.mp hi).1
    rw [wAt_nat hil] at hi
    cases hi
    exact all i (by rw [← h.len]; exact hil)
  · rintro ⟨h0, h1, h2⟩
    have b := toNat_back (n := n) (d := v.toNat) hn (by omega)
    have hlt := mod_lt' hn ((v.toNat : Int) - 1)
    have e := h.at_ _ hlt
    rw [b.1, b.2, if_pos (by rw [show ((v.toNat : Nat) : Int) = v by omega]; exact h2)] at e
    have hm := List.mem_of_getElem? (wAt_nat (ns := l) (by rw [h.len]; exact hlt))
    rw [e] at hm
    rw [show v = ((v.toNat : Nat) : Int) by omega]
    exact hm
/-- the first drop behind i -/
def First (n : Nat) (dr : Int → Bool) (i v : Int) : Prop := ∃ far : Nat, 1 ≤ far ∧ v = (i + far) % (n : Int) ∧ dr v = true ∧ ∀ f : Nat, 1 ≤ f → f < far → dr ((i + f) % (n : Int)) = false
theorem First.uniq {n : Nat} {dr : Int → Bool} {i v u : Int} (h : First n dr i v) (h' : First n dr i u) : v = u := by
  obtain ⟨f, a1, e1, d1, m1⟩ := h
  obtain ⟨g, a2, e2, d2, m2⟩ := h'
  rcases Nat.lt_trichotomy f g with z | z | z
  · have := m2 f a1 z
    rw [← e1, d1] at this; cases this
  · rw [e1, e2, z]
  · have := m1 g a2 z
    rw [← e2, d2] at this; cases this
theorem First.all {n : Nat} {dr : Int → Bool} {l : List Int} (hl : l.length = n) (h : ∀ i : Nat, i < n → First n dr i (wAt l i)) : IsE n dr l :=
  ⟨hl, fun i hi => by
    have hn : 0 < n := by omega
    obtain ⟨f, a, e, d, m⟩ := h i hi
    by_cases z : dr (((i : Int) + 1) % (n : Int)) = true
    · rw [if_pos z]
      have : f = 1 := by
        rcases Nat.lt_or_eq_of_le a with q | q
        · have := m 1 (Nat.le_refl _) q
          rw [show ((1 : Nat) : Int) = 1 from rfl, z] at this; cases this
        · exact q.symm
      rw [e, this]; rfl
    · rw [if_neg z]
      have hlt := mod_lt' hn ((i : Int) + 1)
      have q := h _ hlt
      have e1 := wAt_mod l ((i : Int) + 1)
      rw [hl] at e1
      rw [modT hn, e1] at q
      have f2 : 2 ≤ f := by
        rcases Nat.lt_or_eq_of_le a with q | q
        · exact q
        · exfalso
          rw [← q] at e
          rw [e] at d
          exact z d
      refine First.uniq ⟨f - 1, by omega, ?_, d, fun g g1 g2 => ?_⟩ q
      · rw [e, Int.emod_add_emod]
        congr 1
        omega
      · rw [Int.emod_add_emod]
        have := m (g + 1) (by omega) (by omega)
        rw [← this]
        congr 2
        omega⟩
def dropsL (ns : List Int) : List Int := ((List.range ns.length).filter fun i : Nat => drp ns (i : Int)).map fun i : Nat => (i : Int)
theorem dropsL_mem {ns : List Int} {v : Int} : v ∈ dropsL ns ↔ 0 ≤ v ∧ v < ns.length ∧ drp ns v = true := by
  unfold dropsL
  rw [List.mem_map]
  constructor
  · rintro ⟨i, hi, rfl⟩
    rw [List.mem_filter, List.mem_range] at hi
    exact ⟨by omega, by omega, hi.2⟩
  · rintro ⟨h0, h1, h2⟩
    refine ⟨v.toNat, ?_, by omega⟩
    rw [List.mem_filter, List.mem_range]
    exact ⟨by omega, by rw [show ((v.toNat : Nat) : Int) = v by omega]; exact h2⟩
theorem dropsL_asc (ns : List Int) : (dropsL ns).Pairwise (· < ·) := by
  unfold dropsL
  rw [List.pairwise_map]
  exact List.Pairwise.imp (fun h => by omega) (List.Pairwise.filter _ List.pairwise_lt_range)
/-- ascending lists with the same members -/
theorem asc_eq {xs ys : List Int} (hx : xs.Pairwise (· < ·)) (hy : ys.Pairwise (· < ·)) (h : ∀ v, v ∈ xs ↔ v ∈ ys) : xs = ys := by
  have nx : xs.Nodup := List.Pairwise.imp (fun h => by omega) hx
  have ny : ys.Nodup := List.Pairwise.imp (fun h => by omega) hy
  exact sorted_eq ((List.perm_ext_iff_of_nodup nx ny).mpr h) (List.Pairwise.imp (fun h => by omega) hx) (List.Pairwise.imp (fun h => by omega) hy)
theorem wAt_eq {ns : List Int} {p q : Int} (h : p % (ns.length : Int) = q % (ns.length : Int)) : wAt ns p = wAt ns q := by
  unfold wAt; rw [h]
theorem mod_ne {n p q : Int} (h0 : 0 < p - q) (h1 : p - q < n) : p % n ≠ q % n := fun e => by
  have := (Int.emod_eq_emod_iff_emod_sub_eq_zero).mp e
  rw [Int.emod_eq_of_lt (by omega) h1] at this
  omega
theorem wAt_set {l : List Int} (hn : 0 < l.length) (p q v : Int) : wAt (l.set (p % (l.length : Int)).toNat v) q = if q % (l.length : Int) = p % (l.length : Int) then v else wAt l q := by
  have hp := mod_lt' hn p
  have hq := mod_lt' hn q
  have cp := modT hn p
  have cq := modT hn q
  unfold wAt
  rw [List.length_set, List.getD_eq_getElem?_getD]
  by_cases e : q % (l.length : Int) = p % (l.length : Int)
  · rw [if_pos e, e, List.getElem?_set_self hp]; rfl
  · rw [if_neg e, List.getElem?_set_ne (by omega), ← List.getD_eq_getElem?_getD]
/-- the place, s servers in front of the drop d -/
def valP (ns : List Int) (k : Int) (d : Int) : Nat → Int
  | 0 => d
  | s + 1 => if k ≤ wAt ns (d - 1 - s) then (d - 1 - s) % (ns.length : Int) else if wAt ns (d - s) < wAt ns (d - 1 - s) then (d - s) % (ns.length : Int) else valP ns k d s
theorem places_fin {ns L : List Int} {k : Int} {d : Nat} (hd : d < ns.length) (hdr : drp ns d = true) (hL : L.length = ns.length) (h : ∀ s : Nat, 1 ≤ s → s ≤ ns.length → wAt L ((d : Int) - s) = valP ns k d s) : IsPl ns k L := by
  have hn : 0 < ns.length := by omega
  refine ⟨hL, fun i hi => ?_⟩
  have a := Int.emod_nonneg ((d : Int) - 1 - i) (show (ns.length : Int) ≠ 0 by omega)
  have a2 := Int.emod_lt_of_pos ((d : Int) - 1 - i) (show (0 : Int) < ns.length by omega)
  have b := Int.mul_ediv_add_emod ((d : Int) - 1 - i) ns.length
  generalize hs : (((d : Int) - 1 - i) % (ns.length : Int)).toNat = s at *
  have hs' : ((d : Int) - 1 - i) % (ns.length : Int) = (s : Int) := by omega
  rw [hs'] at b
  have mi : ∀ c : Int, ((d : Int) - 1 - s + c) % (ns.length : Int) = ((i : Int) + c) % (ns.length : Int) := fun c => by
    rw [show (d : Int) - 1 - s + c = (i + c) + (ns.length : Int) * (((d : Int) - 1 - i) / ns.length) by omega, Int.add_mul_emod_self_left]
  have m0 := mi 0
  rw [Int.add_zero, Int.add_zero] at m0
  have m1 := mi 1
  rw [show (d : Int) - 1 - s + 1 = (d : Int) - s by omega] at m1
  have hv := h (s + 1) (by omega) (by omega)
  rw [show (d : Int) - ((s + 1 : Nat) : Int) = (d : Int) - 1 - s by omega] at hv
  rw [wAt_eq (q := (i : Int)) (by rw [hL]; exact m0)] at hv
  rw [hv]
  show (if k ≤ wAt ns ((d : Int) - 1 - s) then _ else _) = _
  rw [wAt_eq (q := (i : Int)) m0, m0, Int.emod_eq_of_lt (show (0 : Int) ≤ i by omega) (by omega)]
  by_cases z : k ≤ wAt ns i
  · rw [if_pos z, if_pos z]
  · rw [if_neg z, if_neg z, wAt_eq m1, m1]
    unfold drp
    rw [show (i : Int) + 1 - 1 = i by omega]
    by_cases y : wAt ns ((i : Int) + 1) < wAt ns i
    · rw [if_pos y, if_pos (decide_eq_true y)]
    · rw [if_neg y, if_neg (by simpa using y)]
      have s0 : 1 ≤ s := by
        rcases Nat.eq_zero_or_pos s with q | q
        · exfalso
          subst q
          apply y
          unfold drp at hdr
          have hdr := of_decide_eq_true hdr
          have e1 : wAt ns ((i : Int) + 1) = wAt ns (d : Int) := (wAt_eq (by simpa using m1)).symm
          have e2 : wAt ns (i : Int) = wAt ns ((d : Int) - 1) := (wAt_eq (by simpa using m0)).symm
          rw [e1, e2]
          exact hdr
        · exact q
      rw [← h s s0 (by omega)]
      exact wAt_eq (by rw [hL]; exact m1)
/-- a round's times are not all equal -/
theorem Rnd.notC {n : Int} {rows : List (List Int)} (R : Rnd n rows) : NotC (timesZ n rows) := by
  have h2 := R.two
  have one : ∀ t : Nat, t < 2 → ∃ i : Nat, (timesZ n rows)[i]? = some (t : Int) := fun t ht => by
    have hr : rows[t]? = some rows[t] := List.getElem?_eq_getElem (by omega)
    have hm : rows[t] ∈ rows := List.getElem_mem (by omega)
    obtain ⟨x, r, e⟩ : ∃ x r, rows[t] = x :: r := by
      cases q : rows[t] with
      | nil => exact absurd q (R.ne _ hm)
      | cons y t => exact ⟨y, t, rfl⟩
    have hx : x ∈ rows[t] := by rw [e]; exact List.mem_cons_self
    have hb := batB_mem (R.bat _ hm) hx
    obtain ⟨u, hu, e2, h3⟩ := R.spot hb.1 hb.2
    have := (h3 t _ hr).mp hx
    exact ⟨x.toNat, by rw [e2, this]⟩
  obtain ⟨i, hi⟩ := one 0 (by omega)
  obtain ⟨j, hj⟩ := one 1 (by omega)
  exact ⟨i, j, _, _, hi, hj, by decide⟩
theorem ascB_pw {r : List Int} : ascB r = true ↔ r.Pairwise (· < ·) := by
  constructor
  · intro h
    rw [(List.pairwise_iff_getElem)]
    have key : ∀ (d i : Nat) (a : i < r.length) (b : i + d + 1 < r.length), r[i] < r[i + d + 1] := fun d => by
      induction d with
      | zero =>
        intro i a b
        exact ascB_at h (List.getElem?_eq_getElem a) (List.getElem?_eq_getElem b)
      | succ d ih =>
        intro i a b
        have q1 := ih i a (by omega)
        have q2 := ascB_at h (List.getElem?_eq_getElem (show i + d + 1 < r.length by omega)) (List.getElem?_eq_getElem b)
        exact Int.lt_trans q1 q2
    intro i j hi hj hij
    have := key (j - i - 1) i hi (by omega)
    have e : i + (j - i - 1) + 1 = j := by omega
    simp only [e] at this
    exact this
  · intro h
    unfold ascB
    rw [List.all_eq_true]
    rintro ⟨a, b⟩ hm
    obtain ⟨i, hi⟩ := List.getElem?_of_mem hm
    rw [List.getElem?_zip_eq_some, List.getElem?_drop] at hi
    obtain ⟨h1, e1⟩ := List.getElem?_eq_some_iff.mp hi.1
    obtain ⟨h2, e2⟩ := List.getElem?_eq_some_iff.mp hi.2
    have := (List.pairwise_iff_getElem.mp h) i (1 + i) h1 h2 (by omega)
    rw [e1, e2] at this
    exact decide_eq_true this
/-- ascending servers, not none and not all -/
structure Drps (n : Int) (fs : List Int) : Prop where
  bat : batB n fs = true
  few : (fs.length : Int) < n
theorem batB_of {n : Int} {fs : List Int} (h : ∀ v ∈ fs, 0 ≤ v ∧ v < n) (ne : fs ≠ []) (pw : fs.Pairwise (· < ·)) : batB n fs = true := by
  unfold batB
  rw [Bool.and_eq_true, (Bool.and_eq_true)]
  refine ⟨List.all_eq_true.mpr fun v hv => ?_, decide_eq_true ?_, ascB_pw.mpr pw⟩
  · have := h v hv
    simp [this.1, this.2]
  · have := List.length_pos_iff.mpr ne
    omega
theorem Drps.pw {n : Int} {fs : List Int} (h : Drps n fs) : fs.Pairwise (· < ·) := ascB_pw.mp (batB_asc h.bat)
theorem Drps.pos {n : Int} {fs : List Int} (h : Drps n fs) : 0 < fs.length := by
  have := h.bat
  unfold batB at this
  rw [Bool.and_eq_true, Bool.and_eq_true] at this
  have := of_decide_eq_true this.2.1
  omega
theorem drops_drps {ns : List Int} (hc : NotC ns) : Drps ns.length (dropsL ns) := by
  obtain ⟨d, hd, hdr⟩ := drp_ex hc
  refine ⟨batB_of (fun v hv => ?_) (fun z => ?_) (dropsL_asc ns), ?_⟩
  · have := dropsL_mem.mp hv
    exact ⟨this.1, this.2.1⟩
  · have : (d : Int) ∈ dropsL ns := dropsL_mem.mpr ⟨by omega, by omega, hdr⟩
    rw [z] at this; cases this
  · have hle : (dropsL ns).length ≤ ns.length := by
      unfold dropsL
      rw [List.length_map]
      have := List.length_filter_le (fun i : Nat => drp ns (i : Int)) (List.range ns.length)
      rw [List.length_range] at this
      exact this
    rcases Nat.lt_or_eq_of_le hle with z | z
    · omega
    · exfalso
      have e : ((List.range ns.length).filter fun i : Nat => drp ns (i : Int)) = List.range ns.length := by
        have h1 : ((List.range ns.length).filter fun i : Nat => drp ns (i : Int)).length = (List.range ns.length).length := by
          unfold dropsL at z
          rw [List.length_map] at z
          rw [z, List.length_range]
        exact List.Sublist.eq_of_length List.filter_sublist h1
      have all : ∀ i : Nat, i < ns.length → wAt ns i < wAt ns ((i : Int) - 1) := fun i hi => by
        have := List.filter_eq_self.mp e i (List.mem_range.mpr hi)
        exact of_decide_eq_true this
      have neg : ∀ i : Nat, i < ns.length → wAt (ns.map fun x => -x) ((i : Int) - 1) ≤ wAt (ns.map fun x => -x) i := fun i hi => by
        have m : ∀ p, wAt (ns.map fun x => -x) p = - wAt ns p := fun p => by
          unfold wAt
          rw [List.length_map, List.getD_eq_getElem?_getD, List.getElem?_map, List.getD_eq_getElem?_getD]
          cases ns[(p % (ns.length : Int)).toNat]? <;> simp
        rw [m, m]
        have := all i hi
        omega
      have hc2 : NotC (ns.map fun x => -x) := by
        obtain ⟨i, j, a, b, ha, hb, ne⟩ := hc
        exact ⟨i, j, -a, -b, by rw [List.getElem?_map, ha]; rfl, by rw [List.getElem?_map, hb]; rfl, by omega⟩
      obtain ⟨i, hi, hdi⟩ := drp_ex hc2
      rw [List.length_map] at hi
      have := neg i hi
      unfold drp at hdi
      have := of_decide_eq_true hdi
      omega
/-- v is the first of fs behind i on the line -/
def Nxt (fs : List Int) (i v : Int) : Prop := v ∈ fs ∧ i < v ∧ ∀ u ∈ fs, u < v → u ≤ i
theorem ends_fin {n : Nat} {fs L : List Int} {f0 fl : Int} (hn : 0 < n) (D : Drps n fs) (h0 : fs[0]? = some f0) (hlast : fs[fs.length - 1]? = some fl) (hL : (L.length : Int) = fl) (h : ∀ i : Nat, i < L.length → Nxt fs i (wAt L i)) :
    IsE n (fun j => decide (j ∈ fs)) (L ++ List.replicate (n - L.length) f0) := by
  have hflm := List.mem_of_getElem? hlast
  have hf0m := List.mem_of_getElem? h0
  have hfl := batB_mem D.bat hflm
  have hLn : L.length < n := by omega
  have hlen : (L ++ List.replicate (n - L.length) f0).length = n := by
    rw [List.length_append, List.length_replicate]; omega
  have pw := D.pw
  have le_last : ∀ u ∈ fs, u ≤ fl := fun u hu => by
    obtain ⟨i, hi⟩ := List.getElem?_of_mem hu
    obtain ⟨a, ha⟩ := List.getElem?_eq_some_iff.mp hi
    obtain ⟨b, hb⟩ := List.getElem?_eq_some_iff.mp hlast
    rcases Nat.lt_or_ge i (fs.length - 1) with z | z
    · have := (List.pairwise_iff_getElem.mp pw) i (fs.length - 1) a b z
      rw [ha, hb] at this; omega
    · have e : i = fs.length - 1 := by omega
      subst e
      rw [hb] at ha; omega
  have ge_first : ∀ u ∈ fs, f0 ≤ u := fun u hu => by
    obtain ⟨i, hi⟩ := List.getElem?_of_mem hu
    obtain ⟨a, ha⟩ := List.getElem?_eq_some_iff.mp hi
    obtain ⟨b, hb⟩ := List.getElem?_eq_some_iff.mp h0
    rcases (Nat.eq_zero_or_pos i) with z | z
    · subst z
      rw [hb] at ha; omega
    · have := (List.pairwise_iff_getElem.mp pw) 0 i b a z
      rw [ha, hb] at this; omega
  have lo : ∀ i : Nat, i < L.length → wAt (L ++ List.replicate (n - L.length) f0) i = wAt L i := fun i hi => by
    have a := wAt_nat (ns := L ++ List.replicate (n - L.length) f0) (i := i) (by omega)
    rw [List.getElem?_append_left hi, wAt_nat hi] at a
    exact (Option.some.inj a).symm
  have hi_ : ∀ i : Nat, L.length ≤ i → i < n → wAt (L ++ List.replicate (n - L.length) f0) i = f0 := fun i h1 h2 => by
    have a := wAt_nat (ns := L ++ List.replicate (n - L.length) f0) (i := i) (by omega)
    rw [List.getElem?_append_right h1, List.getElem?_replicate_of_lt (by omega)] at a
    exact (Option.some.inj a).symm
  refine ⟨hlen, fun i hi => ?_⟩
  by_cases hw : i + 1 < n
  · have em : ((i : Int) + 1) % (n : Int) = (i : Int) + 1 := Int.emod_eq_of_lt (by omega) (by omega)
    rw [em]
    by_cases z : (i : Int) + 1 ∈ fs
    · rw [if_pos (decide_eq_true z)]
      have hil : i < L.length := by have := le_last _ z; omega
      rw [lo i hil]
      obtain ⟨v1, v2, v3⟩ := h i hil
      rcases Int.lt_or_eq_of_le (show (i : Int) + 1 ≤ wAt L i by omega) with q | q
      · have := v3 _ z q; omega
      · exact q.symm
    · rw [if_neg (by simpa using z)]
      rw [show (i : Int) + 1 = ((i + 1 : Nat) : Int) by omega] at z ⊢
      by_cases hil : i < L.length
      · have hil2 : i + 1 < L.length := by
          rcases Nat.lt_or_ge (i + 1) L.length with q | q
          · exact q
          · exfalso
            apply z
            rw [show ((i + 1 : Nat) : Int) = fl by omega]
            exact hflm
        rw [lo i hil, lo (i + 1) hil2]
        obtain ⟨a1, a2, a3⟩ := h i hil
        obtain ⟨b1, b2, b3⟩ := h (i + 1) hil2
        have ne : wAt L i ≠ ((i + 1 : Nat) : Int) := fun q => z (q ▸ a1)
        rcases Int.lt_trichotomy (wAt L i) (wAt L ((i + 1 : Nat) : Int)) with q | q | q
        · have := b3 _ a1 q; omega
        · exact q
        · have := a3 _ b1 q; omega
      · rw [hi_ i (by omega) hi, hi_ (i + 1) (by omega) hw]
  · have ei : i = n - 1 := by omega
    have em : ((i : Int) + 1) % (n : Int) = 0 := by
      rw [show (i : Int) + 1 = n by omega]; exact Int.emod_self
    rw [em, hi_ i (by omega) hi]
    by_cases z : (0 : Int) ∈ fs
    · rw [if_pos (decide_eq_true z)]
      have := ge_first 0 z
      have := batB_mem D.bat hf0m
      omega
    · rw [if_neg (by simpa using z)]
      have e0 : wAt (L ++ List.replicate (n - L.length) f0) ((i : Int) + 1) = wAt (L ++ List.replicate (n - L.length) f0) ((0 : Nat) : Int) := wAt_eq (by rw [hlen, em]; simp)
      have hpos : 0 < L.length := by
        rcases Nat.eq_zero_or_pos L.length with q | q
        · exfalso
          apply z
          rw [show (0 : Int) = fl by omega]; exact hflm
        · exact q
      rw [e0, lo 0 hpos]
      obtain ⟨a1, a2, a3⟩ := h 0 hpos
      rcases Int.lt_or_eq_of_le (ge_first _ a1) with q | q
      · have h3 := a3 _ hf0m q
        have h4 := batB_mem D.bat hf0m
        exfalso
        apply z
        rw [show (0 : Int) = f0 by omega]; exact hf0m
      · exact q
end K
set_option Elab.async false
set_option linter.all false
set_option maxRecDepth 100000
namespace K
open PySem PySem.Spec
open PyProof.Rows L2 Rg
/-! ### a group's way -/
/-- q is the first server behind p with another time -/
def Nd (ns : List Int) (p q : Int) : Prop := ∃ m : Nat, 1 ≤ m ∧ q = (p + m) % (ns.length : Int) ∧ wAt ns q ≠ wAt ns p ∧ ∀ f : Nat, 1 ≤ f → f < m → wAt ns (p + f) = wAt ns p
theorem Nd.uniq {ns : List Int} {p q r : Int} (h : Nd ns p q) (h' : Nd ns p r) : q = r := by
  obtain ⟨f, a1, e1, d1, m1⟩ := h
  obtain ⟨g, a2, e2, d2, m2⟩ := h'
  rcases Nat.lt_trichotomy f g with z | z | z
  · exact absurd (by rw [e1, wAt_mod]; exact m2 f a1 z) d1
  · rw [e1, e2, z]
  · exact absurd (by rw [e2, wAt_mod]; exact m1 g a2 z) d2
inductive Mv (ns : List Int) : Int → List Int → Prop
  | stop {p q} : Nd ns p q → wAt ns q < wAt ns p → Mv ns p [p, q]
  | go {p q l} : Nd ns p q → wAt ns p < wAt ns q → Mv ns q l → Mv ns p (p :: l)
theorem Mv.uniq {ns : List Int} {p : Int} {l m : List Int} (h : Mv ns p l) : Mv ns p m → l = m := by
  induction h generalizing m with
  | stop a b =>
    intro h'
    cases h' with
    | stop a' b' => rw [a.uniq a']
    | go a' b' _ =>
      rw [a.uniq a'] at b
      omega
  | go a b c ih =>
    intro h'
    cases h' with
    | stop a' b' =>
      rw [a.uniq a'] at b
      omega
    | go a' b' c' =>
      have e := a.uniq a'
      subst e
      rw [ih c']
theorem Mv.ne {ns : List Int} {p : Int} {l : List Int} (h : Mv ns p l) : l ≠ [] := by cases h <;> simp
/-- a way ends where the group ends -/
theorem Mv.last {ns : List Int} {p : Int} {L l : List Int} (h : Mv ns p L) (hpos : 0 < ns.length) (E : IsE ns.length (drp ns) l) : ∃ v, L[L.length - 1]? = some v ∧ v = wAt l p := by
  -- the same end all along servers of one time
  have along : ∀ (m : Nat) (p : Int), (∀ f : Nat, 1 ≤ f → f ≤ m → drp ns (p + f) = false) → wAt l p = wAt l (p + m) := fun m => by
    induction m with
    | zero => intro p _; simp
    | succ m ih =>
      intro p hf
      have i1 := ih p fun f a b => hf f a (by omega)
      have hm := mod_lt' hpos (p + m)
      have cm := modT hpos (p + m)
      have e := E.at_ _ hm
      rw [cm] at e
      have ew := wAt_mod l (p + m)
      rw [E.len] at ew
      rw [ew] at e
      have em : ((p + m) % (ns.length : Int) + 1) % (ns.length : Int) = (p + m + 1) % (ns.length : Int) := by rw [Int.emod_add_emod]
      rw [em, drp_mod] at e
      have hd := hf (m + 1) (by omega) (by omega)
      rw [show p + ((m + 1 : Nat) : Int) = p + m + 1 by omega] at hd ⊢
      rw [hd, if_neg (by decide)] at e
      have ea := wAt_add l (p + m) 1
      rw [E.len] at ea
      rw [i1, e, ea]
  have flat : ∀ {p q : Int}, Nd ns p q → ∃ m : Nat, 1 ≤ m ∧ q = (p + m) % (ns.length : Int) ∧ (∀ f : Nat, 1 ≤ f → f < m → drp ns (p + f) = false) ∧ drp ns (p + m) = decide (wAt ns q < wAt ns p) := fun {p q} ⟨m, m1, e, ne, hf⟩ => by
    have pre : ∀ f : Nat, f < m → wAt ns (p + f) = wAt ns p := fun f a => by
      rcases Nat.eq_zero_or_pos f with z | z
      · rw [z]; simp
      · exact hf f z a
    refine ⟨m, m1, e, fun f a b => ?_, ?_⟩
    · unfold drp
      rw [pre f b, show p + (f : Int) - 1 = p + ((f - 1 : Nat) : Int) by omega, pre (f - 1) (by omega)]
      exact (decide_eq_false (by omega))
    · unfold drp
      rw [show p + (m : Int) - 1 = p + ((m - 1 : Nat) : Int) by omega, pre (m - 1) (by omega), e, wAt_mod]
  induction h with
  | @stop p q a b =>
    obtain ⟨m, m1, e, hf, hd⟩ := flat a
    refine ⟨q, rfl, ?_⟩
    have h1 := along (m - 1) p fun f a b => hf f a (by omega)
    have hm := mod_lt' hpos (p + (m - 1 : Nat))
    have cm := modT hpos (p + (m - 1 : Nat))
    have e2 := E.at_ _ hm
    rw [cm] at e2
    have ew := wAt_mod l (p + (m - 1 : Nat))
    rw [E.len] at ew
    rw [ew, Int.emod_add_emod, drp_mod, show p + ((m - 1 : Nat) : Int) + 1 = p + m by omega, hd, if_pos (decide_eq_true b)] at e2
    rw [h1, e2, e]
  | @go p q t a b c ih =>
    obtain ⟨v, hv, ev⟩ := ih
    obtain ⟨m, m1, e, hf, hd⟩ := flat a
    have h1 := along m p fun f a b => by
      rcases Nat.lt_or_eq_of_le b with z | z
      · exact hf f a z
      · rw [z, hd]; exact (decide_eq_false (by omega))
    have ne : 0 < t.length := List.length_pos_iff.mpr c.ne
    refine ⟨v, ?_, ?_⟩
    · rw [List.length_cons, Nat.add_sub_cancel, List.getElem?_cons]
      rw [if_neg (by omega)]
      exact hv
    · have ew := wAt_mod l (p + m)
      rw [E.len] at ew
      rw [ev, e, ew, h1]
theorem atI_last {α : Type} {xs : List α} {y : α} : atI (xs ++ [y]) (-1) = some y := by
  have e : ixN (xs ++ [y]).length (-1) = some xs.length := by
    unfold ixN
    rw [if_neg (by decide), if_pos (by simp; omega), List.length_append]
    show some (-1 + ((xs.length + 1 : Nat) : Int)).toNat = _
    congr 1; omega
  unfold atI
  rw [e]
  show (xs ++ [y])[xs.length]? = some y
  simp
end K
namespace K
open PySem PySem.Spec
open PyProof.Rows L2 Rg
/-- who is in a batch -/
theorem Rnd.inB {n : Int} {rows : List (List Int)} (R : Rnd n rows) {k : Nat} {r : List Int} (hr : rows[k]? = some r) {x : Int} (h0 : 0 ≤ x) (hx : x < n) : x ∈ r ↔ wAt (timesZ n rows) x = (k : Int) := by
  obtain ⟨t, ht, e, h⟩ := R.spot h0 hx
  have hl := timesZ_len n rows
  rw [wAt_nat (ns := timesZ n rows) (i := x.toNat) (by omega), show ((x.toNat : Nat) : Int) = x by omega] at e
  have e' := Option.some.inj e
  rw [h k r hr, e']
  omega
theorem notAll {ns : List Int} (hc : NotC ns) (p : Int) : ∃ m : Nat, 1 ≤ m ∧ m < ns.length ∧ wAt ns (p + m) ≠ wAt ns p ∧ ∀ f : Nat, 1 ≤ f → f < m → wAt ns (p + f) = wAt ns p := by
  obtain ⟨e, he, hde⟩ := drp_ex hc
  have hn : 0 < ns.length := by omega
  have ex : ∃ f : Nat, f < ns.length ∧ wAt ns (p + f) ≠ wAt ns p := by
    refine Classical.byContradiction fun hno => ?_
    have all : ∀ x : Int, wAt ns x = wAt ns p := fun x => by
      refine Classical.byContradiction fun z => hno ⟨((x - p) % (ns.length : Int)).toNat, mod_lt' hn _, ?_⟩
      rw [modT hn]
      have bq := Int.mul_ediv_add_emod (x - p) ns.length
      have e0 : x = (p + (x - p) % (ns.length : Int)) + ns.length * ((x - p) / ns.length) := by omega
      have e1 : wAt ns x = wAt ns (p + (x - p) % (ns.length : Int)) := wAt_eq (by
        generalize (x - p) % (ns.length : Int) = y at e0 ⊢
        generalize (x - p) / (ns.length : Int) = t at e0
        rw [e0, Int.add_mul_emod_self_left])
      rw [← e1]; exact z
    unfold drp at hde
    have := of_decide_eq_true hde
    rw [all e, all (e - 1)] at this
    omega
  obtain ⟨f, hf, hne⟩ := ex
  -- the least one
  have least : ∀ (m : Nat), (∃ f : Nat, f ≤ m ∧ wAt ns (p + f) ≠ wAt ns p) → ∃ f : Nat, f ≤ m ∧ wAt ns (p + f) ≠ wAt ns p ∧ ∀ g : Nat, g < f → wAt ns (p + g) = wAt ns p := fun m => by
    induction m with
    | zero =>
      rintro ⟨f, h1, h2⟩
      exact ⟨f, h1, h2, fun g hg => by omega⟩
    | succ m ih =>
      rintro ⟨f, h1, h2⟩
      by_cases z : ∃ f : Nat, f ≤ m ∧ wAt ns (p + f) ≠ wAt ns p
      · obtain ⟨g, a, b, c⟩ := ih z
        exact ⟨g, by omega, b, c⟩
      · refine ⟨f, h1, h2, fun g hg => ?_⟩
        refine Classical.byContradiction fun q => z ⟨g, by omega, q⟩
  obtain ⟨m, h1, h2, h3⟩ := least f ⟨f, Nat.le_refl _, hne⟩
  refine ⟨m, ?_, by omega, h2, fun g _ hg => h3 g hg⟩
  rcases Nat.eq_zero_or_pos m with z | z
  · subst z
    exact absurd (by simp) h2
  · exact z
theorem atI_neg1 {xs : List Int} {v : Int} (h : xs[xs.length - 1]? = some v) : atI (xs.map D.int) (-1) = some (.int v) := by
  have hl := (List.getElem?_eq_some_iff.mp h).1
  have e : xs.map D.int = (xs.dropLast).map D.int ++ [D.int v] := by
    have hd : xs = xs.dropLast ++ [v] := by
      have hne : xs ≠ [] := fun z => by rw [z] at hl; simp at hl
      have := List.dropLast_concat_getLast hne
      rw [List.getLast_eq_getElem] at this
      have e2 := (List.getElem?_eq_some_iff.mp h).2
      rw [e2] at this
      exact this.symm
    rw [hd]; simp
  rw [e]
  exact atI_last
end K
set_option Elab.async false
set_option linter.all false
set_option maxRecDepth 100000
namespace K
open PySem PySem.Spec
open PyProof.Rows L2 Rg
theorem wAt_modN {ns : List Int} {n : Int} (h : (ns.length : Int) = n) (p : Int) : wAt ns (p % n) = wAt ns p := by rw [← h]; exact wAt_mod ns p
/-- one more batch -/
theorem IsPl.step {ns : List Int} {k : Int} {l m : List Int} (hl : IsPl ns k l) (hm : IsPl ns (k + 1) m) (hc : NotC ns) : ∀ i : Nat, i < ns.length → (wAt ns (wAt l i) = k → Nd ns (wAt l i) (wAt m i)) ∧ (wAt ns (wAt l i) ≠ k → wAt m i = wAt l i) := by
  obtain ⟨d, hd, hdr⟩ := drp_ex hc
  have hn : 0 < ns.length := by omega
  -- what holds if the server behind is a drop
  have atDrop : ∀ i : Nat, i < ns.length → drp ns ((i : Int) + 1) = true → (wAt ns (wAt l i) = k → Nd ns (wAt l i) (wAt m i)) ∧ (wAt ns (wAt l i) ≠ k → wAt m i = wAt l i) := fun i hi hz => by
    have e1 := hl.at_ i hi
    have e2 := hm.at_ i hi
    rw [if_pos hz] at e1 e2
    have hlt : wAt ns ((i : Int) + 1) < wAt ns i := by
      unfold drp at hz
      have := of_decide_eq_true hz
      rw [show (i : Int) + 1 - 1 = i by omega] at this
      exact this
    by_cases a : k + 1 ≤ wAt ns i
    · rw [if_pos (by omega)] at e1
      rw [if_pos a] at e2
      rw [e1, e2]
      exact ⟨fun z => by omega, fun _ => rfl⟩
    · rw [if_neg a] at e2
      by_cases b : k ≤ wAt ns i
      · rw [if_pos b] at e1
        rw [e1, e2]
        refine ⟨fun z => ⟨1, Nat.le_refl _, by simp, by rw [wAt_mod]; omega, fun f f1 f2 => by omega⟩, fun z => by omega⟩
      · rw [if_neg b] at e1
        rw [e1, e2, wAt_mod]
        exact ⟨fun z => by omega, fun _ => rfl⟩
  intro i hi
  refine back_ind (Q := fun i => (wAt ns (wAt l i) = k → Nd ns (wAt l i) (wAt m i)) ∧ (wAt ns (wAt l i) ≠ k → wAt m i = wAt l i)) hn d ?_ ?_ i hi
  · have b := toNat_back hn hd
    have hlt := mod_lt' hn ((d : Int) - 1)
    refine atDrop _ hlt ?_
    rw [← drp_mod, b.1, b.2]
    exact hdr
  · intro i hi q
    by_cases z : drp ns ((i : Int) + 1) = true
    · exact atDrop i hi z
    rw [modT hn] at q
    have el := wAt_modN (n := (ns.length : Int)) (by rw [hl.len]) ((i : Int) + 1)
    have em := wAt_modN (n := (ns.length : Int)) (by rw [hm.len]) ((i : Int) + 1)
    rw [el, em] at q
    have e1 := hl.at_ i hi
    have e2 := hm.at_ i hi
    rw [if_neg z] at e1 e2
    have hge : wAt ns i ≤ wAt ns ((i : Int) + 1) := by
      unfold drp at z
      rw [show (i : Int) + 1 - 1 = i by omega] at z
      simpa using z
    by_cases a : k + 1 ≤ wAt ns i
    · rw [if_pos (by omega)] at e1
      rw [if_pos a] at e2
      rw [e1, e2]
      exact ⟨fun z => by omega, fun _ => rfl⟩
    rw [if_neg a] at e2
    by_cases b : k ≤ wAt ns i
    · rw [if_pos b] at e1
      -- the server behind
      have hj := mod_lt' hn ((i : Int) + 1)
      have cj := modT hn ((i : Int) + 1)
      have f1 := hl.at_ _ hj
      have f2 := hm.at_ _ hj
      rw [cj, el, wAt_mod] at f1
      rw [cj, em, wAt_mod] at f2
      rw [e1, e2]
      refine ⟨fun wk => ?_, fun wk => by omega⟩
      by_cases c : k + 1 ≤ wAt ns ((i : Int) + 1)
      · rw [if_pos c] at f2
        rw [f2]
        exact ⟨1, Nat.le_refl _, by simp, by rw [wAt_mod]; omega, fun f a1 a2 => by omega⟩
      · rw [if_pos (by omega)] at f1
        rw [f1] at q
        obtain ⟨x, x1, x2, x3, x4⟩ := q.1 (by rw [wAt_mod]; omega)
        refine ⟨x + 1, by omega, ?_, ?_, fun f a1 a2 => ?_⟩
        · rw [x2, Int.emod_add_emod]; congr 1; omega
        · rw [wAt_mod] at x3
          omega
        · rcases Nat.lt_or_ge 1 f with y | y
          · have := x4 (f - 1) (by omega) (by omega)
            rw [wAt_mod, wAt_add] at this
            rw [show (i : Int) + (f : Int) = (i : Int) + 1 + ((f - 1 : Nat) : Int) by omega, this]
            omega
          · rw [show f = 1 by omega, show (i : Int) + ((1 : Nat) : Int) = (i : Int) + 1 by omega]
            omega
    · rw [if_neg b] at e1
      rw [e1, e2]
      exact q
theorem IsPl.zero {ns l : List Int} (h : IsPl ns 0 l) (hw : ∀ t ∈ ns, 0 ≤ t) : ∀ i : Nat, i < ns.length → wAt l i = i := fun i hi => by
  rw [h.at_ i hi, if_pos (hw _ (List.mem_of_getElem? (wAt_nat hi)))]
theorem IsPl.range {ns l : List Int} {k : Int} (h : IsPl ns k l) (hc : NotC ns) : ∀ i : Nat, i < ns.length → 0 ≤ wAt l i ∧ wAt l i < ns.length := by
  obtain ⟨d, hd, hdr⟩ := drp_ex hc
  have hn : 0 < ns.length := by omega
  have md : ∀ x : Int, 0 ≤ x % (ns.length : Int) ∧ x % (ns.length : Int) < ns.length := fun x => ⟨Int.emod_nonneg _ (by omega), Int.emod_lt_of_pos _ (by omega)⟩
  intro i hi
  refine back_ind (Q := fun i => 0 ≤ wAt l i ∧ wAt l i < ns.length) hn d ?_ ?_ i hi
  · have b := toNat_back hn hd
    have hlt := mod_lt' hn ((d : Int) - 1)
    rw [h.at_ _ hlt, if_pos (show drp ns _ = true by rw [← drp_mod, b.1, b.2]; exact hdr)]
    split
    · omega
    · exact md _
  · intro i hi q
    rw [modT hn, wAt_modN (by rw [h.len])] at q
    rw [h.at_ i hi]
    split
    · omega
    · split
      · exact md _
      · exact q
/-- places after k batches exist -/
theorem IsPl.ex {ns : List Int} (k : Int) (hc : NotC ns) : ∃ l, IsPl ns k l := by
  obtain ⟨d, hd, hdr⟩ := drp_ex hc
  have hn : 0 < ns.length := by omega
  refine ⟨(List.range ns.length).map fun i : Nat => valP ns k d ((((d : Int) - 1 - i) % (ns.length : Int)).toNat + 1), places_fin hd hdr (by simp) fun s s1 s2 => ?_⟩
  have hm := mod_lt' hn ((d : Int) - s)
  have cm := modT hn ((d : Int) - s)
  have hl : ((List.range ns.length).map fun i : Nat => valP ns k d ((((d : Int) - 1 - i) % (ns.length : Int)).toNat + 1)).length = ns.length := by simp
  have e := wAt_nat (ns := (List.range ns.length).map fun i : Nat => valP ns k d ((((d : Int) - 1 - i) % (ns.length : Int)).toNat + 1)) (i := (((d : Int) - s) % (ns.length : Int)).toNat) (by rw [hl]; exact hm)
  rw [List.getElem?_map, List.getElem?_range hm, cm, wAt_modN (by rw [hl])] at e
  rw [← Option.some.inj e]
  show valP ns k d ((((d : Int) - 1 - (((((d : Int) - s) % (ns.length : Int)).toNat : Nat) : Int)) % (ns.length : Int)).toNat + 1) = valP ns k d s
  rw [cm]
  congr 1
  have : ((d : Int) - 1 - ((d : Int) - s) % (ns.length : Int)) % (ns.length : Int) = ((s : Int) - 1) := by
    rw [Int.sub_emod_emod, show (d : Int) - 1 - ((d : Int) - s) = (s : Int) - 1 by omega]
    exact Int.emod_eq_of_lt (by omega) (by omega)
  rw [this]; omega
end K
set_option Elab.async false
set_option linter.all false
set_option maxRecDepth 100000
namespace K
open PySem PySem.Spec
open PyProof.Rows L2 Rg
theorem IsPl.all {ns l : List Int} {k : Int} (h : IsPl ns k l) (hn : 0 < ns.length) (p : Int) : wAt l p = if k ≤ wAt ns p then p % (ns.length : Int) else if drp ns (p + 1) = true then (p + 1) % (ns.length : Int) else wAt l (p + 1) := by
  have hm := mod_lt' hn p
  have cm := modT hn p
  have e := h.at_ _ hm
  have hl : (l.length : Int) = ns.length := by rw [h.len]
  rw [cm, wAt_modN hl, wAt_mod] at e
  have ed : drp ns (p % (ns.length : Int) + 1) = drp ns (p + 1) := by
    rw [← drp_mod, Int.emod_add_emod, drp_mod]
  have ew : wAt l (p % (ns.length : Int) + 1) = wAt l (p + 1) := by
    rw [← wAt_modN hl, Int.emod_add_emod, wAt_modN hl]
  rw [ed, ew, Int.emod_add_emod] at e
  exact e
/-- a list by a rule for every place -/
theorem wAt_map {n : Nat} (hn : 0 < n) {g : Int → Int} (hg : ∀ p, g (p % (n : Int)) = g p) (p : Int) : wAt ((List.range n).map fun i : Nat => g i) p = g p := by
  have hl : ((List.range n).map fun i : Nat => g i).length = n := by simp
  have hm := mod_lt' hn p
  have cm := modT hn p
  have e := wAt_nat (ns := (List.range n).map fun i : Nat => g i) (i := (p % (n : Int)).toNat) (by rw [hl]; exact hm)
  rw [List.getElem?_map, List.getElem?_range hm, cm, wAt_modN (by rw [hl])] at e
  have e2 : g (((p % (n : Int)).toNat : Nat) : Int) = wAt ((List.range n).map fun i : Nat => g i) p := Option.some.inj e
  rw [← e2, cm, hg]
/-- the ring turned -/
theorem IsPl.turn {ns ms l : List Int} {k sh : Int} (h : IsPl ns k l) (hn : 0 < ns.length) (hlen : ms.length = ns.length) (hw : ∀ p, wAt ms (p + sh) = wAt ns p) :
    IsPl ms k ((List.range ns.length).map fun i : Nat => (wAt l ((i : Int) - sh) + sh) % (ns.length : Int)) := by
  have hl : (l.length : Int) = ns.length := by rw [h.len]
  have key : ∀ p : Int, wAt ((List.range ns.length).map fun i : Nat => (wAt l ((i : Int) - sh) + sh) % (ns.length : Int)) p = (wAt l (p - sh) + sh) % (ns.length : Int) := wAt_map (g := fun p => (wAt l (p - sh) + sh) % (ns.length : Int)) hn fun p => by
    show (wAt l (p % (ns.length : Int) - sh) + sh) % _ = _
    rw [← wAt_modN hl (p % (ns.length : Int) - sh), Int.emod_sub_emod, wAt_modN hl]
  refine ⟨by simp [hlen], fun i hi => ?_⟩
  have e := h.all hn ((i : Int) - sh)
  have w0 := hw ((i : Int) - sh)
  have w1 := hw ((i : Int) - sh + 1)
  rw [show (i : Int) - sh + sh = i by omega] at w0
  rw [show (i : Int) - sh + 1 + sh = i + 1 by omega] at w1
  have ed : drp ms ((i : Int) + 1) = drp ns ((i : Int) - sh + 1) := by
    unfold drp
    rw [w1, show (i : Int) + 1 - 1 = i by omega, w0, show (i : Int) - sh + 1 - 1 = (i : Int) - sh by omega]
  rw [key, key, w0, ed, hlen, e, show (i : Int) + 1 - sh = (i : Int) - sh + 1 by omega]
  by_cases a : k ≤ wAt ns ((i : Int) - sh)
  · rw [if_pos a, if_pos a, Int.emod_add_emod, show (i : Int) - sh + sh = i by omega]
    exact Int.emod_eq_of_lt (by omega) (by omega)
  · rw [if_neg a, if_neg a]
    by_cases b : drp ns ((i : Int) - sh + 1) = true
    · rw [if_pos b, if_pos b, Int.emod_add_emod, show (i : Int) - sh + 1 + sh = i + 1 by omega]
    · rw [if_neg b, if_neg b]
theorem IsE.all {n : Nat} {dr : Int → Bool} {l : List Int} (h : IsE n dr l) (hn : 0 < n) (p : Int) : wAt l p = if dr ((p + 1) % (n : Int)) = true then (p + 1) % (n : Int) else wAt l (p + 1) := by
  have hm := mod_lt' hn p
  have cm := modT hn p
  have e := h.at_ _ hm
  have hl : (l.length : Int) = n := by rw [h.len]
  rw [cm, wAt_modN hl, Int.emod_add_emod] at e
  have ew : wAt l (p % (n : Int) + 1) = wAt l (p + 1) := by
    rw [← wAt_modN hl, Int.emod_add_emod, wAt_modN hl]
  rw [ew] at e
  exact e
/-- where a server stands once another one is put in behind t -/
def emb (t v : Int) : Int := v + (if t < v then 1 else 0)
/-- a list with its entry at t twice -/
def dbl (l : List Int) (t : Nat) : List Int := l.take (t + 1) ++ ([wAt l t] ++ l.drop (t + 1))
theorem dbl_len {l : List Int} {t : Nat} (h : t < l.length) : (dbl l t).length = l.length + 1 := by
  unfold dbl
  simp; omega
theorem dbl_lo {l : List Int} {t i : Nat} (h : t < l.length) (hi : i ≤ t) : wAt (dbl l t) i = wAt l i := by
  have a := wAt_nat (ns := dbl l t) (i := i) (by rw [dbl_len h]; omega)
  unfold dbl at a
  rw [List.getElem?_append_left (by simp; omega), List.getElem?_take_of_lt (by omega), wAt_nat (by omega)] at a
  exact (Option.some.inj a).symm
theorem dbl_hi {l : List Int} {t i : Nat} (h : t < l.length) (hi : t ≤ i) (hil : i < l.length) : wAt (dbl l t) ((i + 1 : Nat) : Int) = wAt l i := by
  have a := wAt_nat (ns := dbl l t) (i := i + 1) (by rw [dbl_len h]; omega)
  unfold dbl at a
  rw [List.getElem?_append_right (by simp; omega)] at a
  have e : i + 1 - (l.take (t + 1)).length = i - t := by simp; omega
  rw [e] at a
  rcases Nat.lt_or_eq_of_le hi with z | z
  · rw [List.getElem?_append_right (by simp; omega), List.getElem?_drop] at a
    rw [show t + 1 + (i - t - [wAt l t].length) = i by simp; omega, wAt_nat hil] at a
    exact (Option.some.inj a).symm
  · subst z
    rw [Nat.sub_self] at a
    exact (Option.some.inj a).symm
theorem dbl_emb {l : List Int} {t i : Nat} (h : t < l.length) (hi : i < l.length) : wAt (dbl l t) (emb t i) = wAt l i := by
  unfold emb
  by_cases z : t < i
  · rw [if_pos (by omega)]
    exact dbl_hi h (by omega) hi
  · rw [if_neg (by omega), Int.add_zero]
    exact dbl_lo h (by omega)
theorem emb_lt {n t v : Int} (h0 : 0 ≤ v) (h1 : v < n) : 0 ≤ emb t v ∧ emb t v < n + 1 := by
  unfold emb
  split <;> omega
/-- one server more, with the number of the one in front of it -/
theorem IsE.widen {ns l : List Int} {t : Nat} (ht : t < ns.length) (h : IsE ns.length (drp ns) l) (hr : ∀ i : Nat, i < ns.length → 0 ≤ wAt l i ∧ wAt l i < ns.length) :
    IsE (ns.length + 1) (drp (dbl ns t)) (dbl (l.map (emb t)) t) := by
  have hn : 0 < ns.length := by omega
  have hl := h.len
  have hml : (l.map (emb t)).length = ns.length := by rw [List.length_map, hl]
  have hd := dbl_len ht
  have hX : (dbl (l.map (emb t)) t).length = ns.length + 1 := by rw [dbl_len (by omega), hml]
  have wm : ∀ i : Nat, i < ns.length → wAt (l.map (emb t)) i = emb t (wAt l i) := fun i hi => by
    have a := wAt_nat (ns := l.map (emb t)) (i := i) (by omega)
    rw [List.getElem?_map, wAt_nat (by omega)] at a
    exact (Option.some.inj a).symm
  -- the place in front of the next old server
  have step : ∀ (i p : Nat), i < ns.length → p < ns.length + 1 → wAt (dbl (l.map (emb t)) t) p = emb t (wAt l i) → wAt (dbl ns t) p = wAt ns i → ((p : Int) + 1) % ((ns.length + 1 : Nat) : Int) = emb t (((i : Int) + 1) % (ns.length : Int)) →
      wAt (dbl (l.map (emb t)) t) p = if drp (dbl ns t) (((p : Int) + 1) % ((ns.length + 1 : Nat) : Int)) = true then ((p : Int) + 1) % ((ns.length + 1 : Nat) : Int) else wAt (dbl (l.map (emb t)) t) ((p : Int) + 1) := by
    intro i p hi hp hx hw hnx
    have hm := mod_lt' hn ((i : Int) + 1)
    have cm := modT hn ((i : Int) + 1)
    have eo := h.at_ i hi
    have dX : drp (dbl ns t) (((p : Int) + 1) % ((ns.length + 1 : Nat) : Int)) = drp ns (((i : Int) + 1) % (ns.length : Int)) := by
      rw [drp_mod, ← hd, drp_mod]
      unfold drp
      have a1 : wAt (dbl ns t) ((p : Int) + 1) = wAt ns ((i : Int) + 1) := by
        rw [← wAt_modN (n := ((ns.length + 1 : Nat) : Int)) (by rw [hd]) ((p : Int) + 1), hnx, ← cm, dbl_emb ht hm, cm, wAt_mod]
      rw [a1, show (p : Int) + 1 - 1 = p by omega, hw, show (i : Int) + 1 - 1 = i by omega]
    rw [dX, hx, eo]
    by_cases z : drp ns (((i : Int) + 1) % (ns.length : Int)) = true
    · rw [if_pos z, if_pos z, hnx]
    · rw [if_neg z, if_neg z, ← wAt_modN (n := ((ns.length + 1 : Nat) : Int)) (by rw [hX]) ((p : Int) + 1), hnx, ← cm, dbl_emb (by omega) (by omega), wm _ hm, cm]
      congr 1
      rw [wAt_modN (by rw [hl])]
  refine ⟨hX, fun p hp => ?_⟩
  rcases Nat.lt_trichotomy p t with z | z | z
  · have em : ((p : Int) + 1) % (ns.length : Int) = p + 1 := Int.emod_eq_of_lt (by omega) (by omega)
    have em2 : ((p : Int) + 1) % ((ns.length + 1 : Nat) : Int) = p + 1 := Int.emod_eq_of_lt (by omega) (by omega)
    refine step p p (by omega) hp ?_ (dbl_lo ht (by omega)) ?_
    · rw [dbl_lo (by omega) (by omega), wm p (by omega)]
    · rw [em, em2]
      unfold emb
      rw [if_neg (by omega)]; omega
  · subst z
    have em2 : ((p : Int) + 1) % ((ns.length + 1 : Nat) : Int) = p + 1 := Int.emod_eq_of_lt (by omega) (by omega)
    have nd : drp (dbl ns p) ((p : Int) + 1) = false := by
      unfold drp
      have a := dbl_hi ht (Nat.le_refl _) ht
      rw [show ((p + 1 : Nat) : Int) = (p : Int) + 1 by omega] at a
      rw [a, show (p : Int) + 1 - 1 = p by omega, dbl_lo ht (Nat.le_refl _)]
      exact (decide_eq_false (by omega))
    rw [em2, nd, if_neg (by decide)]
    have b := dbl_hi (l := l.map (emb p)) (t := p) (i := p) (by omega) (Nat.le_refl _) (by omega)
    rw [show ((p + 1 : Nat) : Int) = (p : Int) + 1 by omega] at b
    rw [b, dbl_lo (by omega) (Nat.le_refl _)]
  · obtain ⟨i, rfl⟩ : ∃ i, p = i + 1 := ⟨p - 1, by omega⟩
    refine step i (i + 1) (by omega) hp ?_ (dbl_hi ht (by omega) (by omega)) ?_
    · rw [dbl_hi (by omega) (by omega) (by omega), wm i (by omega)]
    · rcases Nat.lt_or_ge (i + 1) ns.length with y | y
      · have em : ((i : Int) + 1) % (ns.length : Int) = i + 1 := Int.emod_eq_of_lt (by omega) (by omega)
        have em2 : (((i + 1 : Nat) : Int) + 1) % ((ns.length + 1 : Nat) : Int) = i + 2 := by
          rw [Int.emod_eq_of_lt (by omega) (by omega)]; omega
        rw [em, em2]
        unfold emb
        rw [if_pos (by omega)]; omega
      · have em : ((i : Int) + 1) % (ns.length : Int) = 0 := by rw [show (i : Int) + 1 = ns.length by omega, Int.emod_self]
        have em2 : (((i + 1 : Nat) : Int) + 1) % ((ns.length + 1 : Nat) : Int) = 0 := by rw [show ((i + 1 : Nat) : Int) + 1 = ((ns.length + 1 : Nat) : Int) by omega, Int.emod_self]
        rw [em, em2]
        unfold emb
        rw [if_neg (by omega)]; omega
end K
set_option Elab.async false
set_option linter.all false
set_option maxRecDepth 100000
set_option maxHeartbeats 4100000
namespace K
open PySem PySem.Spec
open PyProof.Rows L2 Rg
def topS (i : Nat) : Stmt := PySem.Challenge.pw_ringrestart_k15_certificates_judged.main.body.getD i (.Pass ⟨0, 0, 0, 0⟩)
section
variable {P : Program} {w : World} {K : PySem.W.Frag} {mg : Str → Option Value}
variable {base : Heap} {f : Addr} {fd : FuncData}
abbrev s_is_ring : Stmt := topS 8
abbrev n_is_ring : List Str := ["thing"]
theorem c_is_ring : FnScope n_is_ring ["thing"] (defScope s_is_ring) := ⟨rfl, rfl, rfl, by decide +kernel, rfl, by decide +kernel, by decide +kernel⟩
def g_is_ring : GD := fun ds cs P => ∃ d t, ds = [d] ∧ TyD d t ∧ P (.bl (ringB d)) cs
theorem ok_is_ring (M : Bl mg) (hF : ∃ t, mg "FEWEST_SERVERS" = some (.int 2 t)) (hM : ∃ t, mg "MOST_SERVERS" = some (.int 60 t)) (F : FnP K "is_ring" s_is_ring f fd) : FnG P w K mg base CX0 1 f fd ["thing"] (spD g_is_ring) := by
  obtain ⟨t2, hF⟩ := hF
  obtain ⟨t60, hM⟩ := hM
  refine fnD F c_is_ring (fun ds cs P ⟨d, t, e, _⟩ => by rw [e]; rfl) fun cdv A outer s H E hr ds cs P' ⟨d, t, e, ht, hp⟩ hb => ?_
  subst e
  refine wss_one (ws_ret (w_and (w_isi M.isinstance (wa_cons ?_))))
  (first | refine w_nm 0 ?_ | refine w_nm 1 ?_ | refine w_nm 2 ?_ | refine w_nm 3 ?_ | refine w_nm 4 ?_ | refine w_nm 5 ?_ | refine w_nm 6 ?_ | refine w_nm 7 ?_ | refine w_nm 8 ?_ | refine w_nm 9 ?_ | refine w_nm 10 ?_ | refine w_nm 11 ?_ | refine w_nm 12 ?_ | refine w_nm 13 ?_)
  refine wa_cons (w_gty M.int (by decide +kernel) (wa_nil ⟨_, _, t, _, rfl, ht, kitI ht, _, rfl, iteq _ (fun h => ?_) fun h => ?_⟩))
  · refine w_and (w_not (w_isi M.isinstance (wa_cons ?_)))
    (first | refine w_nm 0 ?_ | refine w_nm 1 ?_ | refine w_nm 2 ?_ | refine w_nm 3 ?_ | refine w_nm 4 ?_ | refine w_nm 5 ?_ | refine w_nm 6 ?_ | refine w_nm 7 ?_ | refine w_nm 8 ?_ | refine w_nm 9 ?_ | refine w_nm 10 ?_ | refine w_nm 11 ?_ | refine w_nm 12 ?_ | refine w_nm 13 ?_)
    refine wa_cons (w_gty M.bool (by decide +kernel) (wa_nil ⟨_, _, t, _, rfl, ht, kitBo ht, _, rfl, _, rfl, iteq _ (fun h' => ?_) fun h' => ?_⟩))
    · obtain ⟨i, rfl⟩ : ∃ i, d = .int i := by cases d <;> simp_all [dInt, dBool]
      refine w_one (w_chain op_le op_le od_B0 od_B0 ?_)
      refine w_gint (i := 2) hF ⟨t2, rfl⟩ ?_
      (first | refine w_nm 0 ?_ | refine w_nm 1 ?_ | refine w_nm 2 ?_ | refine w_nm 3 ?_ | refine w_nm 4 ?_ | refine w_nm 5 ?_ | refine w_nm 6 ?_ | refine w_nm 7 ?_ | refine w_nm 8 ?_ | refine w_nm 9 ?_ | refine w_nm 10 ?_ | refine w_nm 11 ?_ | refine w_nm 12 ?_ | refine w_nm 13 ?_)
      refine ⟨_, _, rfl, rfl, _, rfl, iteq _ (fun h1 => ?_) fun h1 => ?_⟩
      · refine w_gint (i := 60) hM ⟨t60, rfl⟩ ⟨_, _, rfl, rfl, .inl ⟨rfl, ?_⟩⟩
        have e : decide (i ≤ 60) = ringB (.int i) := by
          show decide (i ≤ 60) = (decide (2 ≤ i) && decide (i ≤ 60))
          rw [h1]; rfl
        rw [e]; exact hp
      · have e : false = ringB (.int i) := by
          show false = (decide (2 ≤ i) && decide (i ≤ 60))
          rw [h1]; rfl
        rw [e]; exact .inl ⟨rfl, hp⟩
    · have e : false = ringB d := by cases d <;> simp_all [dInt, dBool, ringB]
      rw [e]; exact .inl ⟨rfl, hp⟩
  · have e : false = ringB d := by cases d <;> simp_all [dInt, ringB]
    rw [e]; exact .inl ⟨rfl, hp⟩
abbrev s_need_ring : Stmt := topS 13
abbrev n_need_ring : List Str := ["n"]
theorem c_need_ring : FnScope n_need_ring ["n"] (defScope s_need_ring) := ⟨rfl, rfl, rfl, by decide +kernel, rfl, by decide +kernel, by decide +kernel⟩
def g_need_ring : GD := fun ds cs P => ∃ n : Int, ds = [.int n] ∧ 2 ≤ n ∧ n ≤ 60 ∧ P .non cs
theorem ok_need_ring (GR : FnD P w K mg base 1 "is_ring" ["thing"] (spD g_is_ring)) (F : FnP K "need_ring" s_need_ring f fd) : FnG P w K mg base CX0 2 f fd ["n"] (spD g_need_ring) := by
  refine fnD F c_need_ring (fun ds cs P ⟨n, e, _⟩ => by rw [e]; rfl) fun cdv A outer s H E hr ds cs P' ⟨n, e, h1, h2, hp⟩ hb => ?_
  subst e
  refine wss_one (ws_if (wt_not (wt_val (w_call GR hr (wa_cons ?_)))))
  (first | refine w_nm 0 ?_ | refine w_nm 1 ?_ | refine w_nm 2 ?_ | refine w_nm 3 ?_ | refine w_nm 4 ?_ | refine w_nm 5 ?_ | refine w_nm 6 ?_ | refine w_nm 7 ?_ | refine w_nm 8 ?_ | refine w_nm 9 ?_ | refine w_nm 10 ?_ | refine w_nm 11 ?_ | refine w_nm 12 ?_ | refine w_nm 13 ?_)
  refine wa_nil ⟨_, _, rfl, .int, _, rfl, ?_⟩
  rw [show ringB (.int n) = true by simp [ringB, h1, h2]]
  exact wss_nil (.inl ⟨rfl, hp⟩)
/-- the servers of one number -/
def idx (ns : List Int) (l : Int) : List Int := ((List.range ns.length).filter fun i => decide (ns[i]? = some l)).map fun i : Nat => (i : Int)
def groups (ns lv : List Int) : List (List Int) := lv.map (idx ns)
abbrev rowsL (rows : List (List Int)) : List D := rows.map fun r => .lst (r.map .int)
theorem groups_app (ns a b : List Int) : groups ns (a ++ b) = groups ns a ++ groups ns b := List.map_append
theorem resL_rows {cs : Cs} {n m : Nat} : ∀ rows : List (List Int), ResL cs n m (rowsL rows) (rowsL rows)
  | [] => .nil
  | r :: t => .cons (.lst (resL_ints r)) (resL_rows t)
theorem idx_take (ns : List Int) (l : Int) (j : Nat) (hj : j < ns.length) :
    ((List.range (j + 1)).filter fun i => decide (ns[i]? = some l)) = ((List.range j).filter fun i => decide (ns[i]? = some l)) ++ (if ns[j]? = some l then [j] else []) := by
  rw [List.range_succ, List.filter_append]
  congr 1
  by_cases h : ns[j]? = some l <;> simp [h]
theorem pair_len {lv ns : List Int} (h : lv.Pairwise (· < ·)) (m : ∀ k, k ∈ lv ↔ k ∈ ns) : lv.length ≤ ns.length := by
  have nd : lv.Nodup := List.Pairwise.imp (fun h => by omega) h
  exact nd.length_le_of_subset fun k hk => (m k).mp hk
/-! ### the rounds that the law draws are rounds -/
theorem ascB_of : ∀ {ns : List Int}, ns.Pairwise (· < ·) → ascB ns = true := fun {ns} h => by
  unfold ascB
  rw [List.all_eq_true]
  intro p hp
  obtain ⟨i, hi⟩ := List.getElem?_of_mem hp
  rw [List.getElem?_zip_eq_some] at hi
  obtain ⟨h1, h2⟩ := hi
  rw [List.getElem?_drop] at h2
  obtain ⟨l1, e1⟩ := List.getElem?_eq_some_iff.mp h1
  obtain ⟨l2, e2⟩ := List.getElem?_eq_some_iff.mp h2
  rw [ List.pairwise_iff_getElem ]
    at h
  have := h i (1 + i) l1 l2 (by omega)
  rw [e1, e2] at this
  exact decide_eq_true this
theorem idx_asc (ns : List Int) (l : Int) : (idx ns l).Pairwise (· < ·) := by
  unfold idx
  rw [List.pairwise_map]
  exact List.Pairwise.imp (fun h => by omega) (List.Pairwise.filter _ List.pairwise_lt_range)
theorem idx_mem {ns : List Int} {l i : Int} : i ∈ idx ns l ↔ 0 ≤ i ∧ ns[i.toNat]? = some l := by
  unfold idx
  rw [List.mem_map]
  constructor
  · rintro ⟨k, hk, rfl⟩
    rw [List.mem_filter] at hk
    exact ⟨by omega, by simpa using hk.2⟩
  · rintro ⟨h0, h⟩
    refine ⟨i.toNat, ?_, by omega⟩
    rw [List.mem_filter, List.mem_range]
    exact ⟨(List.getElem?_eq_some_iff.mp h).1, decide_eq_true h⟩
theorem filt_perm {ns : List Int} (R : List Nat) : ∀ {lv : List Int}, lv.Nodup → ((lv.map fun l => R.filter fun i => decide (ns[i]? = some l)).flatten).Perm (R.filter fun i => decide (∃ l ∈ lv, ns[i]? = some l))
  | [], _ => by simp
  | l :: t, nd => by
    have nd' := List.nodup_cons.mp nd
    rw [List.map_cons, List.flatten_cons]
    refine List.Perm.trans (List.Perm.append_left _ (filt_perm R nd'.2)) ?_
    have h := List.filter_append_perm (fun i => decide (ns[i]? = some l)) (R.filter fun i => decide (∃ x ∈ l :: t, ns[i]? = some x))
    refine List.Perm.trans (List.Perm.of_eq ?_) h
    rw [List.filter_filter, List.filter_filter]
    congr 1
    · apply List.filter_congr
      intro i _
      by_cases e : ns[i]? = some l <;> simp [e]
    · apply List.filter_congr
      intro i _
      by_cases e : ns[i]? = some l
      · have : ¬ ∃ x ∈ t, ns[i]? = some x := fun ⟨x, hx, e2⟩ => nd'.1 (by rw [e] at e2; cases e2; exact hx)
        simp [e] at this ⊢
        exact this
      · simp [e]
theorem rnd_groups {n : Int} {ns lv : List Int} (h2 : 2 ≤ n) (h60 : n ≤ 60) (hl : ns.length = n.toNat) (hc : NotC ns) (pw : lv.Pairwise (· < ·)) (mem : ∀ k, k ∈ lv ↔ k ∈ ns) : Rnd n (groups ns lv) := by
  have nd : lv.Nodup := List.Pairwise.imp (fun h => by omega) pw
  refine ⟨h2, h60, ?_, fun r hr => ?_, ?_⟩
  · obtain ⟨i, j, a, b, ha, hb, ne⟩ := hc
    have ma := (mem a).mpr (List.mem_of_getElem? ha)
    have mb := (mem b).mpr (List.mem_of_getElem? hb)
    show 2 ≤ (lv.map (idx ns)).length
    rw [List.length_map]
    cases lv with
    | nil => cases ma
    | cons x t =>
      cases t with
      | nil =>
        rw [List.mem_singleton] at ma mb
        exact absurd (ma.trans mb.symm) ne
      | cons y t => simp
  · obtain ⟨l, hlm, rfl⟩ := List.mem_map.mp hr
    obtain ⟨i, hi⟩ := List.getElem?_of_mem ((mem l).mp hlm)
    have him : (i : Int) ∈ idx ns l := idx_mem.mpr ⟨by omega, by simpa using hi⟩
    unfold batB
    rw [ascB_of (idx_asc ns l)]
    have h1 : ((idx ns l).all fun i => decide (0 ≤ i) && decide (i < n)) = true := by
      rw [List.all_eq_true]
      intro k hk
      obtain ⟨h0, h1⟩ := idx_mem.mp hk
      have := (List.getElem?_eq_some_iff.mp h1).1
      simp only [decide_eq_true_eq,
      Bool.and_eq_true]
      exact ⟨h0, by omega⟩
    rw [h1]
    have : 0 < (idx ns l).length := List.length_pos_iff.mpr (fun e => by rw [e] at him; cases him)
    simp; omega
  · have hp := filt_perm (ns := ns) (List.range ns.length) nd
    have e1 : (groups ns lv).flatten = ((lv.map fun l => (List.range ns.length).filter fun i => decide (ns[i]? = some l)).flatten).map fun i : Nat => (i : Int) := by
      unfold groups
      rw [List.map_flatten, List.map_map]
      rfl
    have e2 : ((List.range ns.length).filter fun i => decide (∃ l ∈ lv, ns[i]? = some l)) = List.range ns.length := by
      rw [List.filter_eq_self]
      intro i hi
      rw [List.mem_range] at hi
      have hx : ns[i]? = some ns[i] := List.getElem?_eq_getElem hi
      exact decide_eq_true ⟨ns[i], (mem _).mpr (List.mem_of_getElem? hx), hx⟩
    rw [e1]
    rw [e2] at hp
    unfold rng
    rw [← hl]
    exact hp.map _
theorem isE_to {n : Nat} {dr : Int → Bool} {l : List Int} (h : IsE n dr l) (hn : 0 < n) : ∀ (far : Nat) (p : Int), 1 ≤ far → dr ((p + far) % (n : Int)) = true → (∀ f : Nat, 1 ≤ f → f < far → dr ((p + f) % (n : Int)) = false) → wAt l p = (p + far) % (n : Int)
  | 0, p, h1, _, _ => by omega
  | far + 1, p, h1, hd, mid => by
    rw [h.all hn p]
    by_cases z : far = 0
    · subst z
      rw [show ((0 + 1 : Nat) : Int) = 1 by omega] at hd ⊢
      rw [if_pos hd]
    · have m1 := mid 1 (Nat.le_refl _) (by omega)
      rw [show ((1 : Nat) : Int) = 1 by omega] at m1
      rw [if_neg (by rw [m1]; decide)]
      have e : ∀ f : Nat, p + 1 + (f : Int) = p + ((f + 1 : Nat) : Int) := fun f => by omega
      have q := isE_to h hn far (p + 1) (by omega) (by rw [e]; exact hd) fun f h1 h2 => by rw [e]; exact mid (f + 1) (by omega) (by omega)
      rw [q, e]
theorem bat_first {n : Int} {fs js : List Int} (B : batB n fs = true) (hpos : 0 < fs.length) (pw0 : fs.Pairwise (· < ·)) (hn : 0 < n) (h : IsE n.toNat (fun j => decide (j ∈ fs)) js) : fs[0]? = some (wAt js (-1)) := by
  have e0 : fs[0]? = some fs[0] := List.getElem?_eq_getElem hpos
  have r := batB_mem B (List.mem_of_getElem? e0)
  have hN : ((n.toNat : Nat) : Int) = n := by omega
  have q := isE_to h (by omega) (fs[0].toNat + 1) (-1) (by omega) (by
    rw [hN, show (-1 : Int) + ((fs[0].toNat + 1 : Nat) : Int) = fs[0] by omega, Int.emod_eq_of_lt r.1 r.2]
    exact decide_eq_true (List.mem_of_getElem? e0)) fun f h1 h2 => by
      rw [hN, Int.emod_eq_of_lt (by omega) (by omega)]
      refine decide_eq_false fun m => ?_
      obtain ⟨p, hp⟩ := List.getElem?_of_mem m
      obtain ⟨p1, p2⟩ := List.getElem?_eq_some_iff.mp hp
      rcases Nat.eq_zero_or_pos p with z | z
      · subst z; omega
      · have := (List.pairwise_iff_getElem.mp pw0) 0 p hpos p1 z
        omega
  rw [q, hN, show (-1 : Int) + ((fs[0].toNat + 1 : Nat) : Int) = fs[0] by omega, Int.emod_eq_of_lt r.1 r.2]
  exact e0
theorem bat_next {n : Int} {fs js : List Int} (B : batB n fs = true) (hpos : 0 < fs.length) (pw0 : fs.Pairwise (· < ·)) (hn : 0 < n) (h : IsE n.toNat (fun j => decide (j ∈ fs)) js) {a : Nat} {x : Int} (ha : fs[a]? = some x) : fs[(a + 1) % fs.length]? = some (wAt js x) := by
  have hN : ((n.toNat : Nat) : Int) = n := by omega
  obtain ⟨al, ax⟩ := List.getElem?_eq_some_iff.mp ha
  have rx := batB_mem B (List.mem_of_getElem? ha)
  have pw := List.pairwise_iff_getElem.mp pw0
  have pos : ∀ u, u ∈ fs → (u ≤ x → ∃ p : Nat, p ≤ a ∧ fs[p]? = some u) ∧ (x < u → ∃ p : Nat, a < p ∧ fs[p]? = some u) := fun u hu => by
    obtain ⟨p, hp⟩ := List.getElem?_of_mem hu
    obtain ⟨p1, p2⟩ := List.getElem?_eq_some_iff.mp hp
    refine ⟨fun z => ⟨p, ?_, hp⟩, fun z => ⟨p, ?_, hp⟩⟩
    · rcases Nat.lt_or_ge a p with y | y
      · have := pw a p al p1 y; omega
      · exact y
    · rcases Nat.lt_or_ge a p with y | y
      · exact y
      · rcases Nat.lt_or_eq_of_le y with y | y
        · have := pw p a p1 al y; omega
        · subst y; omega
  by_cases z : a + 1 < fs.length
  · rw [Nat.mod_eq_of_lt z]
    have e1 : fs[a + 1]? = some fs[a + 1] := List.getElem?_eq_getElem z
    have r1 := batB_mem B (List.mem_of_getElem? e1)
    have lt := pw a (a + 1) al z (by omega)
    have q := isE_to h (by omega) (fs[a + 1] - x).toNat x (by omega) (by
      rw [hN, show x + (((fs[a + 1] - x).toNat : Nat) : Int) = fs[a + 1] by omega, Int.emod_eq_of_lt r1.1 r1.2]
      exact decide_eq_true (List.mem_of_getElem? e1)) fun f h1 h2 => by
        rw [hN, Int.emod_eq_of_lt (by omega) (by omega)]
        refine decide_eq_false fun m => ?_
        obtain ⟨p, hp, hp2⟩ := (pos _ m).2 (by omega)
        obtain ⟨p1, p2⟩ := List.getElem?_eq_some_iff.mp hp2
        rcases Nat.lt_or_eq_of_le (show a + 1 ≤ p by omega) with y | y
        · have := pw (a + 1) p z p1 y; omega
        · subst y; omega
    rw [q, hN, show x + (((fs[a + 1] - x).toNat : Nat) : Int) = fs[a + 1] by omega, Int.emod_eq_of_lt r1.1 r1.2]
    exact e1
  · rw [show a + 1 = fs.length by omega, Nat.mod_self]
    have e1 : fs[0]? = some fs[0] := List.getElem?_eq_getElem hpos
    have r1 := batB_mem B (List.mem_of_getElem? e1)
    have le : fs[0] ≤ x := by
      rcases Nat.eq_zero_or_pos a with y | y
      · subst y; omega
      · have := pw 0 a hpos al y; omega
    have ef : x + (((n - x + fs[0]).toNat : Nat) : Int) = fs[0] + n := by omega
    have em : (fs[0] + n) % n = fs[0] := by rw [Int.add_emod_right, Int.emod_eq_of_lt r1.1 r1.2]
    have q := isE_to h (by omega) (n - x + fs[0]).toNat x (by omega) (by
      rw [hN, ef, em]
      exact decide_eq_true (List.mem_of_getElem? e1)) fun f h1 h2 => by
        rw [hN]
        refine decide_eq_false fun m => ?_
        by_cases y : x + (f : Int) < n
        · rw [Int.emod_eq_of_lt (by omega) y] at m
          obtain ⟨p, hp, hp2⟩ := (pos _ m).2 (by omega)
          have := (List.getElem?_eq_some_iff.mp hp2).1
          omega
        · have e2 : (x + (f : Int)) % n = x + f - n := by rw [← Int.sub_emod_right, Int.emod_eq_of_lt (by omega) (by omega)]
          rw [e2] at m
          obtain ⟨p, hp⟩ := List.getElem?_of_mem m
          obtain ⟨p1, p2⟩ := List.getElem?_eq_some_iff.mp hp
          rcases Nat.eq_zero_or_pos p with y | y
          · subst y; omega
          · have := pw 0 p hpos p1 y; omega
    rw [q, hN, ef, em]
    exact e1
abbrev s_assignment_ok : Stmt := topS 10
abbrev n_assignment_ok : List Str := ["n", "thing", "j"]
theorem c_assignment_ok : FnScope n_assignment_ok ["n", "thing"] (defScope s_assignment_ok) := ⟨rfl, rfl, rfl, by decide +kernel, rfl, by decide +kernel, by decide +kernel⟩
def g_assign_ok : GD := fun ds cs P => ∃ (n : Int) (d : D) (js : List Int), ds = [.int n, d] ∧ LstD cs d (js.map .int) ∧ dList d = true ∧ js.length = n.toNat ∧ 2 ≤ n ∧ n ≤ 60 ∧ (∀ j ∈ js, 0 ≤ j ∧ j < n) ∧ P (.bl true) cs
theorem ok_assign_ok (M : Bl mg) (F : FnP K "assignment_ok" s_assignment_ok f fd) : FnG P w K mg base CX0 1 f fd ["n", "thing"] (spD g_assign_ok) := by
  refine fnD F c_assignment_ok (fun ds cs P ⟨n, d, js, e, _⟩ => by rw [e]; rfl) fun cdv A outer s0 H E hr ds cs P' ⟨n, d, js, e, hl, hd, hlen, h2, h60, hin, hp⟩ hb => ?_
  subst e
  refine wss_cons (ws_if (wt_bool (ww_or (wt_not (wt_val (w_isi M.isinstance (wa_cons ?_)))))))
  (first | refine w_nm 0 ?_ | refine w_nm 1 ?_ | refine w_nm 2 ?_ | refine w_nm 3 ?_ | refine w_nm 4 ?_ | refine w_nm 5 ?_ | refine w_nm 6 ?_ | refine w_nm 7 ?_ | refine w_nm 8 ?_ | refine w_nm 9 ?_ | refine w_nm 10 ?_ | refine w_nm 11 ?_ | refine w_nm 12 ?_ | refine w_nm 13 ?_)
  refine wa_cons (w_gty M.list (by decide +kernel) (wa_nil ⟨_, _, _, _, rfl, tyL hd, kitLi (tyL hd), _, rfl, ?_⟩))
  rw [hd]
  refine ww_or1 (wt_ne hr.units (w_len M.len (wa_cons ?_)))
  (first | refine w_nm 0 ?_ | refine w_nm 1 ?_ | refine w_nm 2 ?_ | refine w_nm 3 ?_ | refine w_nm 4 ?_ | refine w_nm 5 ?_ | refine w_nm 6 ?_ | refine w_nm 7 ?_ | refine w_nm 8 ?_ | refine w_nm 9 ?_ | refine w_nm 10 ?_ | refine w_nm 11 ?_ | refine w_nm 12 ?_ | refine w_nm 13 ?_)
  refine wa_nil ⟨_, _, rfl, hl, ?_⟩
  (first | refine w_nm 0 ?_ | refine w_nm 1 ?_ | refine w_nm 2 ?_ | refine w_nm 3 ?_ | refine w_nm 4 ?_ | refine w_nm 5 ?_ | refine w_nm 6 ?_ | refine w_nm 7 ?_ | refine w_nm 8 ?_ | refine w_nm 9 ?_ | refine w_nm 10 ?_ | refine w_nm 11 ?_ | refine w_nm 12 ?_ | refine w_nm 13 ?_)
  refine ⟨_, eqd_int, ?_⟩
  rw [List.length_map, decide_eq_true (show (js.length : Int) = n by omega)]
  refine wss_nil (wss_cons (ws_for (hp := PassesOwn.never) 2 rfl c_assignment_ok.nd ?_))
  (first | refine w_nm 0 ?_ | refine w_nm 1 ?_ | refine w_nm 2 ?_ | refine w_nm 3 ?_ | refine w_nm 4 ?_ | refine w_nm 5 ?_ | refine w_nm 6 ?_ | refine w_nm 7 ?_ | refine w_nm 8 ?_ | refine w_nm 9 ?_ | refine w_nm 10 ?_ | refine w_nm 11 ?_ | refine w_nm 12 ?_ | refine w_nm 13 ?_)
  refine ⟨js.map D.int, fun l ρ' cs' => (∃ e, ρ' = [some (.int n), some d, e]) ∧ cs' = cs, ⟨⟨none, rfl⟩, rfl⟩, fun l ρ' cs' ⟨_, e⟩ => by rw [e]; exact hl, fun l y ρ' cs' hy ⟨⟨_, eρ⟩, e⟩ => ?_, fun ρ' cs' ⟨⟨_, eρ⟩, e⟩ => ?_⟩
  · obtain ⟨j, hj, rfl⟩ := mapInt_get hy
    have hjr := hin j (List.mem_of_getElem? hj)
    subst eρ e
    refine wss_one (ws_if (wt_bool (ww_or (wt_not (wt_val (w_isi M.isinstance (wa_cons ?_)))))))
    (first | refine w_nm 0 ?_ | refine w_nm 1 ?_ | refine w_nm 2 ?_ | refine w_nm 3 ?_ | refine w_nm 4 ?_ | refine w_nm 5 ?_ | refine w_nm 6 ?_ | refine w_nm 7 ?_ | refine w_nm 8 ?_ | refine w_nm 9 ?_ | refine w_nm 10 ?_ | refine w_nm 11 ?_ | refine w_nm 12 ?_ | refine w_nm 13 ?_)
    refine wa_cons (w_gty M.int (by decide +kernel) (wa_nil ⟨_, _, _, _, rfl, .int, kitI (d := .int j) .int, _, rfl, ?_⟩))
    refine ww_or (wt_val (w_isi M.isinstance (wa_cons ?_)))
    (first | refine w_nm 0 ?_ | refine w_nm 1 ?_ | refine w_nm 2 ?_ | refine w_nm 3 ?_ | refine w_nm 4 ?_ | refine w_nm 5 ?_ | refine w_nm 6 ?_ | refine w_nm 7 ?_ | refine w_nm 8 ?_ | refine w_nm 9 ?_ | refine w_nm 10 ?_ | refine w_nm 11 ?_ | refine w_nm 12 ?_ | refine w_nm 13 ?_)
    refine wa_cons (w_gty M.bool (by decide +kernel) (wa_nil ⟨_, _, _, _, rfl, .int, kitBo (d := .int j) .int, _, rfl, ?_⟩))
    refine ww_or (wt_lt ?_)
    (first | refine w_nm 0 ?_ | refine w_nm 1 ?_ | refine w_nm 2 ?_ | refine w_nm 3 ?_ | refine w_nm 4 ?_ | refine w_nm 5 ?_ | refine w_nm 6 ?_ | refine w_nm 7 ?_ | refine w_nm 8 ?_ | refine w_nm 9 ?_ | refine w_nm 10 ?_ | refine w_nm 11 ?_ | refine w_nm 12 ?_ | refine w_nm 13 ?_)
    refine w_int ⟨_, _, rfl, rfl, ?_⟩
    rw [show decide (j < 0) = false from decide_eq_false (by omega)]
    refine ww_or1 (wt_ge ?_)
    (first | refine w_nm 0 ?_ | refine w_nm 1 ?_ | refine w_nm 2 ?_ | refine w_nm 3 ?_ | refine w_nm 4 ?_ | refine w_nm 5 ?_ | refine w_nm 6 ?_ | refine w_nm 7 ?_ | refine w_nm 8 ?_ | refine w_nm 9 ?_ | refine w_nm 10 ?_ | refine w_nm 11 ?_ | refine w_nm 12 ?_ | refine w_nm 13 ?_); (first | refine w_nm 0 ?_ | refine w_nm 1 ?_ | refine w_nm 2 ?_ | refine w_nm 3 ?_ | refine w_nm 4 ?_ | refine w_nm 5 ?_ | refine w_nm 6 ?_ | refine w_nm 7 ?_ | refine w_nm 8 ?_ | refine w_nm 9 ?_ | refine w_nm 10 ?_ | refine w_nm 11 ?_ | refine w_nm 12 ?_ | refine w_nm 13 ?_)
    refine ⟨_, _, rfl, rfl, ?_⟩
    rw [show decide (n ≤ j) = false from decide_eq_false (by omega)]
    exact wss_nil ⟨⟨_, rfl⟩, rfl⟩
  · subst eρ e
    exact wss_one (ws_ret (w_bl (.inl ⟨rfl, hp⟩)))
abbrev s_need_assignment : Stmt := topS 14
abbrev n_need_assignment : List Str := ["n", "assignment"]
theorem c_need_assignment : FnScope n_need_assignment ["n", "assignment"] (defScope s_need_assignment) := ⟨rfl, rfl, rfl, by decide +kernel, rfl, by decide +kernel, by decide +kernel⟩
theorem ok_need_assignment (GR : FnD P w K mg base 1 "assignment_ok" ["n", "thing"] (spD g_assign_ok)) (F : FnP K "need_assignment" s_need_assignment f fd) : FnG P w K mg base CX0 2 f fd ["n", "assignment"] (spD fun ds cs P => g_assign_ok ds cs fun _ => P .non) := by
  refine fnD F c_need_assignment (fun ds cs P ⟨n, d, ns, e, _⟩ => by rw [e]; rfl) fun cdv A outer s H E hr ds cs P' ⟨n, d, js, e, hl, hd, hlen, h2, h60, hin, hp⟩ hb => ?_
  subst e
  refine wss_one (ws_if (wt_not (wt_val (w_call GR hr (wa_cons ?_)))))
  (first | refine w_nm 0 ?_ | refine w_nm 1 ?_ | refine w_nm 2 ?_ | refine w_nm 3 ?_ | refine w_nm 4 ?_ | refine w_nm 5 ?_ | refine w_nm 6 ?_ | refine w_nm 7 ?_ | refine w_nm 8 ?_ | refine w_nm 9 ?_ | refine w_nm 10 ?_ | refine w_nm 11 ?_ | refine w_nm 12 ?_ | refine w_nm 13 ?_)
  refine wa_cons ?_
  (first | refine w_nm 0 ?_ | refine w_nm 1 ?_ | refine w_nm 2 ?_ | refine w_nm 3 ?_ | refine w_nm 4 ?_ | refine w_nm 5 ?_ | refine w_nm 6 ?_ | refine w_nm 7 ?_ | refine w_nm 8 ?_ | refine w_nm 9 ?_ | refine w_nm 10 ?_ | refine w_nm 11 ?_ | refine w_nm 12 ?_ | refine w_nm 13 ?_)
  exact wa_nil ⟨n, d, js, rfl, hl, hd, hlen, h2, h60, hin, _, rfl, wss_nil (.inl ⟨rfl, hp⟩)⟩
abbrev s_gap : Stmt := topS 17
abbrev n_gap : List Str := ["n", "i", "j"]
theorem c_gap : FnScope n_gap ["n", "i", "j"] (defScope s_gap) := ⟨rfl, rfl, rfl, by decide +kernel, rfl, by decide +kernel, by decide +kernel⟩
def gapZ (n i j : Int) : Int := (j - i - 1) % n + 1
def g_gap : GD := fun ds cs P => ∃ n i j : Int, ds = [.int n, .int i, .int j] ∧ 0 < n ∧ P (.int (gapZ n i j)) cs
theorem ok_gap (F : FnP K "gap" s_gap f fd) : FnG P w K mg base CX0 1 f fd ["n", "i", "j"] (spD g_gap) := by
  refine fnD F c_gap (fun ds cs P ⟨n, i, j, e, _⟩ => by rw [e]; rfl) fun cdv A outer s H E hr ds cs P' ⟨n, i, j, e, hn, hp⟩ hb => ?_
  subst e
  refine wss_one (ws_ret (w_add (w_mod (w_sub (w_sub ?_)))))
  (first | refine w_nm 0 ?_ | refine w_nm 1 ?_ | refine w_nm 2 ?_ | refine w_nm 3 ?_ | refine w_nm 4 ?_ | refine w_nm 5 ?_ | refine w_nm 6 ?_ | refine w_nm 7 ?_ | refine w_nm 8 ?_ | refine w_nm 9 ?_ | refine w_nm 10 ?_ | refine w_nm 11 ?_ | refine w_nm 12 ?_ | refine w_nm 13 ?_); (first | refine w_nm 0 ?_ | refine w_nm 1 ?_ | refine w_nm 2 ?_ | refine w_nm 3 ?_ | refine w_nm 4 ?_ | refine w_nm 5 ?_ | refine w_nm 6 ?_ | refine w_nm 7 ?_ | refine w_nm 8 ?_ | refine w_nm 9 ?_ | refine w_nm 10 ?_ | refine w_nm 11 ?_ | refine w_nm 12 ?_ | refine w_nm 13 ?_); refine ⟨_, _, rfl, rfl, ?_⟩
  refine w_int ?_
  refine ⟨_, _, rfl, rfl, ?_⟩; (first | refine w_nm 0 ?_ | refine w_nm 1 ?_ | refine w_nm 2 ?_ | refine w_nm 3 ?_ | refine w_nm 4 ?_ | refine w_nm 5 ?_ | refine w_nm 6 ?_ | refine w_nm 7 ?_ | refine w_nm 8 ?_ | refine w_nm 9 ?_ | refine w_nm 10 ?_ | refine w_nm 11 ?_ | refine w_nm 12 ?_ | refine w_nm 13 ?_)
  exact ⟨_, _, rfl, rfl, hn, w_int ⟨_, _, rfl, rfl, .inl ⟨rfl, hp⟩⟩⟩
abbrev s_is_server : Stmt := topS 9
abbrev n_is_server : List Str := ["n", "thing"]
theorem c_is_server : FnScope n_is_server ["n", "thing"] (defScope s_is_server) := ⟨rfl, rfl, rfl, by decide +kernel, rfl, by decide +kernel, by decide +kernel⟩
def g_is_server : GD := fun ds cs P => ∃ n d t, ds = [.int n, d] ∧ TyD d t ∧ P (.bl (srvB n d)) cs
theorem ok_is_server (M : Bl mg) (F : FnP K "is_server" s_is_server f fd) : FnG P w K mg base CX0 1 f fd ["n", "thing"] (spD g_is_server) := by
  refine fnD F c_is_server (fun ds cs P ⟨n, d, t, e, _⟩ => by rw [e]; rfl) fun cdv A outer s H E hr ds cs P' ⟨n, d, t, e, ht, hp⟩ hb => ?_
  subst e
  refine wss_one (ws_ret (w_and (w_isi M.isinstance (wa_cons ?_))))
  (first | refine w_nm 0 ?_ | refine w_nm 1 ?_ | refine w_nm 2 ?_ | refine w_nm 3 ?_ | refine w_nm 4 ?_ | refine w_nm 5 ?_ | refine w_nm 6 ?_ | refine w_nm 7 ?_ | refine w_nm 8 ?_ | refine w_nm 9 ?_ | refine w_nm 10 ?_ | refine w_nm 11 ?_ | refine w_nm 12 ?_ | refine w_nm 13 ?_)
  refine wa_cons (w_gty M.int (by decide +kernel) (wa_nil ⟨_, _, t, _, rfl, ht, kitI ht, _, rfl, iteq _ (fun h => ?_) fun h => ?_⟩))
  · refine w_and (w_not (w_isi M.isinstance (wa_cons ?_)))
    (first | refine w_nm 0 ?_ | refine w_nm 1 ?_ | refine w_nm 2 ?_ | refine w_nm 3 ?_ | refine w_nm 4 ?_ | refine w_nm 5 ?_ | refine w_nm 6 ?_ | refine w_nm 7 ?_ | refine w_nm 8 ?_ | refine w_nm 9 ?_ | refine w_nm 10 ?_ | refine w_nm 11 ?_ | refine w_nm 12 ?_ | refine w_nm 13 ?_)
    refine wa_cons (w_gty M.bool (by decide +kernel) (wa_nil ⟨_, _, t, _, rfl, ht, kitBo ht, _, rfl, _, rfl, iteq _ (fun h' => ?_) fun h' => ?_⟩))
    · obtain ⟨i, rfl⟩ : ∃ i, d = .int i := by cases d <;> simp_all [dInt, dBool]
      refine w_one (w_chain op_le op_lt od_B0 od_B0 (w_int ?_))
      (first | refine w_nm 0 ?_ | refine w_nm 1 ?_ | refine w_nm 2 ?_ | refine w_nm 3 ?_ | refine w_nm 4 ?_ | refine w_nm 5 ?_ | refine w_nm 6 ?_ | refine w_nm 7 ?_ | refine w_nm 8 ?_ | refine w_nm 9 ?_ | refine w_nm 10 ?_ | refine w_nm 11 ?_ | refine w_nm 12 ?_ | refine w_nm 13 ?_)
      refine ⟨_, _, rfl, rfl, _, rfl, iteq _ (fun h1 => ?_) fun h1 => ?_⟩
      · (first | refine w_nm 0 ?_ | refine w_nm 1 ?_ | refine w_nm 2 ?_ | refine w_nm 3 ?_ | refine w_nm 4 ?_ | refine w_nm 5 ?_ | refine w_nm 6 ?_ | refine w_nm 7 ?_ | refine w_nm 8 ?_ | refine w_nm 9 ?_ | refine w_nm 10 ?_ | refine w_nm 11 ?_ | refine w_nm 12 ?_ | refine w_nm 13 ?_)
        refine ⟨_, _, rfl, rfl, .inl ⟨rfl, ?_⟩⟩
        have e : decide (i < n) = srvB n (.int i) := by
          show decide (i < n) = (decide (0 ≤ i) && decide (i < n))
          rw [h1]; rfl
        rw [e]; exact hp
      · have e : false = srvB n (.int i) := by
          show false = (decide (0 ≤ i) && decide (i < n))
          rw [h1]; rfl
        rw [e]; exact .inl ⟨rfl, hp⟩
    · have e : false = srvB n d := by cases d <;> simp_all [dInt, dBool, srvB]
      rw [e]; exact .inl ⟨rfl, hp⟩
  · have e : false = srvB n d := by cases d <;> simp_all [dInt, srvB]
    rw [e]; exact .inl ⟨rfl, hp⟩
/-! ### what is seen: servers, or nothing -/
def optD : Option Int → D
  | some v => .int v
  | none => .non
abbrev seenD (o : List (Option Int)) : List D := o.map optD
theorem seen_some (js : List Int) : seenD (js.map some) = js.map .int := by rw [seenD, List.map_map]; rfl
structure Obs (n : Int) (o : List (Option Int)) : Prop where
  lo : 2 ≤ n
  hi : n ≤ 60
  len : o.length = n.toNat
  in_ : ∀ v, some v ∈ o → 0 ≤ v ∧ v < n
theorem obs_some {n : Int} {js : List Int} (h2 : 2 ≤ n) (h60 : n ≤ 60) (hl : js.length = n.toNat) (h : ∀ v ∈ js, 0 ≤ v ∧ v < n) : Obs n (js.map some) := ⟨h2, h60, by rw [List.length_map]; exact hl, fun v hv => by
  obtain ⟨w, hw, e⟩ := List.mem_map.mp hv
  cases e
  exact h _ hw⟩
theorem seen_get {o : List (Option Int)} {i : Nat} {x : D} (h : (seenD o)[i]? = some x) : ∃ z, o[i]? = some z ∧ x = optD z := by
  rw [List.getElem?_map] at h
  obtain ⟨z, hz, rfl⟩ := Option.map_eq_some_iff.mp h
  exact ⟨z, hz, rfl⟩
theorem opt_ty (z : Option Int) : ∃ t, TyD (optD z) t := by cases z <;> exact ⟨_, by constructor⟩
theorem opt_non {z : Option Int} : optD z = .non ↔ z = none := by cases z <;> simp [optD]
abbrev s_observation_ok : Stmt := topS 11
abbrev n_observation_ok : List Str := ["n", "thing", "j"]
theorem c_observation_ok : FnScope n_observation_ok ["n", "thing"] (defScope s_observation_ok) := ⟨rfl, rfl, rfl, by decide +kernel, rfl, by decide +kernel, by decide +kernel⟩
def g_obs_ok : GD := fun ds cs P => ∃ (n : Int) (d : D) (o : List (Option Int)), ds = [.int n, d] ∧ LstD cs d (seenD o) ∧ dList d = true ∧ Obs n o ∧ P (.bl true) cs
theorem ok_obs_ok (M : Bl mg) (F : FnP K "observation_ok" s_observation_ok f fd) : FnG P w K mg base CX0 1 f fd ["n", "thing"] (spD g_obs_ok) := by
  refine fnD F c_observation_ok (fun ds cs P ⟨n, d, o, e, _⟩ => by rw [e]; rfl) fun cdv A outer s0 H E hr ds cs P' ⟨n, d, o, e, hl, hd, ob, hp⟩ hb => ?_
  subst e
  have h2 := ob.lo
  have hlen := ob.len
  refine wss_cons (ws_if (wt_bool (ww_or (wt_not (wt_val (w_isi M.isinstance (wa_cons ?_)))))))
  (first | refine w_nm 0 ?_ | refine w_nm 1 ?_ | refine w_nm 2 ?_ | refine w_nm 3 ?_ | refine w_nm 4 ?_ | refine w_nm 5 ?_ | refine w_nm 6 ?_ | refine w_nm 7 ?_ | refine w_nm 8 ?_ | refine w_nm 9 ?_ | refine w_nm 10 ?_ | refine w_nm 11 ?_ | refine w_nm 12 ?_ | refine w_nm 13 ?_)
  refine wa_cons (w_gty M.list (by decide +kernel) (wa_nil ⟨_, _, _, true, rfl, tyL hd, kit_list_list, _, rfl, ?_⟩))
  refine ww_or1 (wt_ne hr.units (w_len M.len (wa_cons ?_)))
  (first | refine w_nm 0 ?_ | refine w_nm 1 ?_ | refine w_nm 2 ?_ | refine w_nm 3 ?_ | refine w_nm 4 ?_ | refine w_nm 5 ?_ | refine w_nm 6 ?_ | refine w_nm 7 ?_ | refine w_nm 8 ?_ | refine w_nm 9 ?_ | refine w_nm 10 ?_ | refine w_nm 11 ?_ | refine w_nm 12 ?_ | refine w_nm 13 ?_)
  refine wa_nil ⟨_, _, rfl, hl, ?_⟩
  (first | refine w_nm 0 ?_ | refine w_nm 1 ?_ | refine w_nm 2 ?_ | refine w_nm 3 ?_ | refine w_nm 4 ?_ | refine w_nm 5 ?_ | refine w_nm 6 ?_ | refine w_nm 7 ?_ | refine w_nm 8 ?_ | refine w_nm 9 ?_ | refine w_nm 10 ?_ | refine w_nm 11 ?_ | refine w_nm 12 ?_ | refine w_nm 13 ?_)
  refine ⟨_, eqd_int, ?_⟩
  rw [List.length_map, decide_eq_true (show (o.length : Int) = n by omega)]
  refine wss_nil (wss_cons (ws_for (hp := PassesOwn.never) 2 rfl c_observation_ok.nd ?_))
  (first | refine w_nm 0 ?_ | refine w_nm 1 ?_ | refine w_nm 2 ?_ | refine w_nm 3 ?_ | refine w_nm 4 ?_ | refine w_nm 5 ?_ | refine w_nm 6 ?_ | refine w_nm 7 ?_ | refine w_nm 8 ?_ | refine w_nm 9 ?_ | refine w_nm 10 ?_ | refine w_nm 11 ?_ | refine w_nm 12 ?_ | refine w_nm 13 ?_)
  refine ⟨seenD o, fun l ρ' cs' => (∃ e, ρ' = [some (.int n), some d, e]) ∧ cs' = cs, ⟨⟨none, rfl⟩, rfl⟩, fun l ρ' cs' ⟨_, e⟩ => by rw [e]; exact hl, fun l y ρ' cs' hy ⟨⟨_, eρ⟩, e⟩ => ?_, fun ρ' cs' ⟨⟨_, eρ⟩, e⟩ => ?_⟩
  · subst eρ e
    obtain ⟨z, hz, rfl⟩ := seen_get hy
    refine wss_one (ws_if (wt_bool (ww_and (wt_isNN ?_))))
    (first | refine w_nm 0 ?_ | refine w_nm 1 ?_ | refine w_nm 2 ?_ | refine w_nm 3 ?_ | refine w_nm 4 ?_ | refine w_nm 5 ?_ | refine w_nm 6 ?_ | refine w_nm 7 ?_ | refine w_nm 8 ?_ | refine w_nm 9 ?_ | refine w_nm 10 ?_ | refine w_nm 11 ?_ | refine w_nm 12 ?_ | refine w_nm 13 ?_)
    cases z with
    | none =>
      refine ⟨true, by simp [optD], ?_⟩
      exact wss_nil ⟨⟨_, rfl⟩, rfl⟩
    | some j =>
      have hjr := ob.in_ j (List.mem_of_getElem? hz)
      refine ⟨false, by simp [optD], ?_⟩
      refine ww_and1 (wt_bool (ww_or (wt_not (wt_val (w_isi M.isinstance (wa_cons ?_))))))
      (first | refine w_nm 0 ?_ | refine w_nm 1 ?_ | refine w_nm 2 ?_ | refine w_nm 3 ?_ | refine w_nm 4 ?_ | refine w_nm 5 ?_ | refine w_nm 6 ?_ | refine w_nm 7 ?_ | refine w_nm 8 ?_ | refine w_nm 9 ?_ | refine w_nm 10 ?_ | refine w_nm 11 ?_ | refine w_nm 12 ?_ | refine w_nm 13 ?_)
      refine wa_cons (w_gty M.int (by decide +kernel) (wa_nil ⟨_, _, _, _, rfl, .int, kitI (d := .int j) .int, _, rfl, ?_⟩))
      refine ww_or (wt_val (w_isi M.isinstance (wa_cons ?_)))
      (first | refine w_nm 0 ?_ | refine w_nm 1 ?_ | refine w_nm 2 ?_ | refine w_nm 3 ?_ | refine w_nm 4 ?_ | refine w_nm 5 ?_ | refine w_nm 6 ?_ | refine w_nm 7 ?_ | refine w_nm 8 ?_ | refine w_nm 9 ?_ | refine w_nm 10 ?_ | refine w_nm 11 ?_ | refine w_nm 12 ?_ | refine w_nm 13 ?_)
      refine wa_cons (w_gty M.bool (by decide +kernel) (wa_nil ⟨_, _, _, _, rfl, .int, kitBo (d := .int j) .int, _, rfl, ?_⟩))
      refine ww_or (wt_lt ?_)
      (first | refine w_nm 0 ?_ | refine w_nm 1 ?_ | refine w_nm 2 ?_ | refine w_nm 3 ?_ | refine w_nm 4 ?_ | refine w_nm 5 ?_ | refine w_nm 6 ?_ | refine w_nm 7 ?_ | refine w_nm 8 ?_ | refine w_nm 9 ?_ | refine w_nm 10 ?_ | refine w_nm 11 ?_ | refine w_nm 12 ?_ | refine w_nm 13 ?_)
      refine w_int ⟨_, _, rfl, rfl, ?_⟩
      rw [show decide (j < 0) = false from decide_eq_false (by omega)]
      refine ww_or1 (wt_ge ?_)
      (first | refine w_nm 0 ?_ | refine w_nm 1 ?_ | refine w_nm 2 ?_ | refine w_nm 3 ?_ | refine w_nm 4 ?_ | refine w_nm 5 ?_ | refine w_nm 6 ?_ | refine w_nm 7 ?_ | refine w_nm 8 ?_ | refine w_nm 9 ?_ | refine w_nm 10 ?_ | refine w_nm 11 ?_ | refine w_nm 12 ?_ | refine w_nm 13 ?_); (first | refine w_nm 0 ?_ | refine w_nm 1 ?_ | refine w_nm 2 ?_ | refine w_nm 3 ?_ | refine w_nm 4 ?_ | refine w_nm 5 ?_ | refine w_nm 6 ?_ | refine w_nm 7 ?_ | refine w_nm 8 ?_ | refine w_nm 9 ?_ | refine w_nm 10 ?_ | refine w_nm 11 ?_ | refine w_nm 12 ?_ | refine w_nm 13 ?_)
      refine ⟨_, _, rfl, rfl, ?_⟩
      rw [show decide (n ≤ j) = false from decide_eq_false (by omega)]
      exact wss_nil ⟨⟨_, rfl⟩, rfl⟩
  · subst eρ e
    exact wss_one (ws_ret (w_bl (.inl ⟨rfl, hp⟩)))
abbrev s_need_observation : Stmt := topS 15
abbrev n_need_observation : List Str := ["n", "seen"]
theorem c_need_observation : FnScope n_need_observation ["n", "seen"] (defScope s_need_observation) := ⟨rfl, rfl, rfl, by decide +kernel, rfl, by decide +kernel, by decide +kernel⟩
def g_need_obs : GD := fun ds cs P => g_obs_ok ds cs fun _ => P .non
theorem ok_need_obs (GR : FnD P w K mg base 1 "observation_ok" ["n", "thing"] (spD g_obs_ok)) (F : FnP K "need_observation" s_need_observation f fd) : FnG P w K mg base CX0 2 f fd ["n", "seen"] (spD g_need_obs) := by
  refine fnD F c_need_observation (fun ds cs P ⟨n, d, o, e, _⟩ => by rw [e]; rfl) fun cdv A outer s H E hr ds cs P' ⟨n, d, o, e, hl, hd, ob, hp⟩ hb => ?_
  subst e
  refine wss_one (ws_if (wt_not (wt_val (w_call GR hr (wa_cons ?_)))))
  (first | refine w_nm 0 ?_ | refine w_nm 1 ?_ | refine w_nm 2 ?_ | refine w_nm 3 ?_ | refine w_nm 4 ?_ | refine w_nm 5 ?_ | refine w_nm 6 ?_ | refine w_nm 7 ?_ | refine w_nm 8 ?_ | refine w_nm 9 ?_ | refine w_nm 10 ?_ | refine w_nm 11 ?_ | refine w_nm 12 ?_ | refine w_nm 13 ?_)
  refine wa_cons ?_
  (first | refine w_nm 0 ?_ | refine w_nm 1 ?_ | refine w_nm 2 ?_ | refine w_nm 3 ?_ | refine w_nm 4 ?_ | refine w_nm 5 ?_ | refine w_nm 6 ?_ | refine w_nm 7 ?_ | refine w_nm 8 ?_ | refine w_nm 9 ?_ | refine w_nm 10 ?_ | refine w_nm 11 ?_ | refine w_nm 12 ?_ | refine w_nm 13 ?_)
  exact wa_nil ⟨n, d, o, rfl, hl, hd, ob, _, rfl, wss_nil (.inl ⟨rfl, hp⟩)⟩
/-! ### which group passes which, as far as they are seen -/
def pasB (n : Int) (o : List (Option Int)) (i k : Nat) : Bool :=
  match o[i]?, o[k]? with
  | some (some a), some (some b) => decide (gapZ n i b < gapZ n i a)
  | _, _ => false
theorem obs_at {n : Int} {o : List (Option Int)} (ob : Obs n o) {i : Nat} (hi : i < n.toNat) : ∃ z, o[i]? = some z := ⟨_, List.getElem?_eq_getElem (by rw [ob.len]; exact hi)⟩
abbrev s__passes : Stmt := topS 20
abbrev n__passes : List Str := ["n", "seen", "i", "k"]
theorem c__passes : FnScope n__passes ["n", "seen", "i", "k"] (defScope s__passes) := ⟨rfl, rfl, rfl, by decide +kernel, rfl, by decide +kernel, by decide +kernel⟩
def g_passO : GD := fun ds cs P => ∃ (n : Int) (d : D) (o : List (Option Int)) (i k : Nat), ds = [.int n, d, .int (i : Nat), .int (k : Nat)] ∧ LstD cs d (seenD o) ∧ Obs n o ∧ i < n.toNat ∧ k < n.toNat ∧ P (.bl (pasB n o i k)) cs
theorem ok_passO (GG : FnD P w K mg base 1 "gap" ["n", "i", "j"] (spD g_gap)) (F : FnP K "_passes" s__passes f fd) : FnG P w K mg base CX0 2 f fd ["n", "seen", "i", "k"] (spD g_passO) := by
  refine fnD F c__passes (fun ds cs P ⟨n, d, o, i, k, e, _⟩ => by rw [e]; rfl) fun cdv A outer s0 H E hr ds cs P' ⟨n, d, o, i, k, e, hl, ob, hi, hk, hp⟩ hb => ?_
  subst e
  have h2 := ob.lo
  obtain ⟨zi, hzi⟩ := obs_at ob hi
  obtain ⟨zk, hzk⟩ := obs_at ob hk
  have gi : (seenD o)[i]? = some (optD zi) := by rw [List.getElem?_map, hzi]; rfl
  have gk : (seenD o)[k]? = some (optD zk) := by rw [List.getElem?_map, hzk]; rfl
  refine wss_cons (ws_if (wt_bool (ww_or (wt_isN (w_at ?_)))))
  (first | refine w_nm 0 ?_ | refine w_nm 1 ?_ | refine w_nm 2 ?_ | refine w_nm 3 ?_ | refine w_nm 4 ?_ | refine w_nm 5 ?_ | refine w_nm 6 ?_ | refine w_nm 7 ?_ | refine w_nm 8 ?_ | refine w_nm 9 ?_ | refine w_nm 10 ?_ | refine w_nm 11 ?_ | refine w_nm 12 ?_ | refine w_nm 13 ?_); (first | refine w_nm 0 ?_ | refine w_nm 1 ?_ | refine w_nm 2 ?_ | refine w_nm 3 ?_ | refine w_nm 4 ?_ | refine w_nm 5 ?_ | refine w_nm 6 ?_ | refine w_nm 7 ?_ | refine w_nm 8 ?_ | refine w_nm 9 ?_ | refine w_nm 10 ?_ | refine w_nm 11 ?_ | refine w_nm 12 ?_ | refine w_nm 13 ?_)
  refine ⟨_, i, _, hl, rfl, atI_nat gi, ?_⟩
  cases zi with
  | none =>
    refine ⟨true, by simp [optD], ?_⟩
    have e : pasB n o i k = false := by unfold pasB; rw [hzi]
    rw [e] at hp
    exact wss_one (ws_ret (w_bl (.inl ⟨rfl, hp⟩)))
  | some a =>
    refine ⟨false, by simp [optD], ?_⟩
    refine ww_or1 (wt_isN (w_at ?_))
    (first | refine w_nm 0 ?_ | refine w_nm 1 ?_ | refine w_nm 2 ?_ | refine w_nm 3 ?_ | refine w_nm 4 ?_ | refine w_nm 5 ?_ | refine w_nm 6 ?_ | refine w_nm 7 ?_ | refine w_nm 8 ?_ | refine w_nm 9 ?_ | refine w_nm 10 ?_ | refine w_nm 11 ?_ | refine w_nm 12 ?_ | refine w_nm 13 ?_); (first | refine w_nm 0 ?_ | refine w_nm 1 ?_ | refine w_nm 2 ?_ | refine w_nm 3 ?_ | refine w_nm 4 ?_ | refine w_nm 5 ?_ | refine w_nm 6 ?_ | refine w_nm 7 ?_ | refine w_nm 8 ?_ | refine w_nm 9 ?_ | refine w_nm 10 ?_ | refine w_nm 11 ?_ | refine w_nm 12 ?_ | refine w_nm 13 ?_)
    refine ⟨_, k, _, hl, rfl, atI_nat gk, ?_⟩
    cases zk with
    | none =>
      refine ⟨true, by simp [optD], ?_⟩
      have e : pasB n o i k = false := by unfold pasB; rw [hzi, hzk]
      rw [e] at hp
      exact wss_one (ws_ret (w_bl (.inl ⟨rfl, hp⟩)))
    | some b =>
      refine ⟨false, by simp [optD], ?_⟩
      have e : pasB n o i k = decide (gapZ n i b < gapZ n i a) := by unfold pasB; rw [hzi, hzk]
      rw [e] at hp
      refine wss_nil (wss_one (ws_ret (w_lt (w_call GG hr (wa_cons ?_)))))
      (first | refine w_nm 0 ?_ | refine w_nm 1 ?_ | refine w_nm 2 ?_ | refine w_nm 3 ?_ | refine w_nm 4 ?_ | refine w_nm 5 ?_ | refine w_nm 6 ?_ | refine w_nm 7 ?_ | refine w_nm 8 ?_ | refine w_nm 9 ?_ | refine w_nm 10 ?_ | refine w_nm 11 ?_ | refine w_nm 12 ?_ | refine w_nm 13 ?_)
      refine wa_cons ?_
      (first | refine w_nm 0 ?_ | refine w_nm 1 ?_ | refine w_nm 2 ?_ | refine w_nm 3 ?_ | refine w_nm 4 ?_ | refine w_nm 5 ?_ | refine w_nm 6 ?_ | refine w_nm 7 ?_ | refine w_nm 8 ?_ | refine w_nm 9 ?_ | refine w_nm 10 ?_ | refine w_nm 11 ?_ | refine w_nm 12 ?_ | refine w_nm 13 ?_)
      refine wa_cons (w_at ?_)
      (first | refine w_nm 0 ?_ | refine w_nm 1 ?_ | refine w_nm 2 ?_ | refine w_nm 3 ?_ | refine w_nm 4 ?_ | refine w_nm 5 ?_ | refine w_nm 6 ?_ | refine w_nm 7 ?_ | refine w_nm 8 ?_ | refine w_nm 9 ?_ | refine w_nm 10 ?_ | refine w_nm 11 ?_ | refine w_nm 12 ?_ | refine w_nm 13 ?_); (first | refine w_nm 0 ?_ | refine w_nm 1 ?_ | refine w_nm 2 ?_ | refine w_nm 3 ?_ | refine w_nm 4 ?_ | refine w_nm 5 ?_ | refine w_nm 6 ?_ | refine w_nm 7 ?_ | refine w_nm 8 ?_ | refine w_nm 9 ?_ | refine w_nm 10 ?_ | refine w_nm 11 ?_ | refine w_nm 12 ?_ | refine w_nm 13 ?_)
      refine ⟨_, k, _, hl, rfl, atI_nat gk, wa_nil ⟨n, _, b, rfl, by omega, w_call GG hr (wa_cons ?_)⟩⟩
      (first | refine w_nm 0 ?_ | refine w_nm 1 ?_ | refine w_nm 2 ?_ | refine w_nm 3 ?_ | refine w_nm 4 ?_ | refine w_nm 5 ?_ | refine w_nm 6 ?_ | refine w_nm 7 ?_ | refine w_nm 8 ?_ | refine w_nm 9 ?_ | refine w_nm 10 ?_ | refine w_nm 11 ?_ | refine w_nm 12 ?_ | refine w_nm 13 ?_)
      refine wa_cons ?_
      (first | refine w_nm 0 ?_ | refine w_nm 1 ?_ | refine w_nm 2 ?_ | refine w_nm 3 ?_ | refine w_nm 4 ?_ | refine w_nm 5 ?_ | refine w_nm 6 ?_ | refine w_nm 7 ?_ | refine w_nm 8 ?_ | refine w_nm 9 ?_ | refine w_nm 10 ?_ | refine w_nm 11 ?_ | refine w_nm 12 ?_ | refine w_nm 13 ?_)
      refine wa_cons (w_at ?_)
      (first | refine w_nm 0 ?_ | refine w_nm 1 ?_ | refine w_nm 2 ?_ | refine w_nm 3 ?_ | refine w_nm 4 ?_ | refine w_nm 5 ?_ | refine w_nm 6 ?_ | refine w_nm 7 ?_ | refine w_nm 8 ?_ | refine w_nm 9 ?_ | refine w_nm 10 ?_ | refine w_nm 11 ?_ | refine w_nm 12 ?_ | refine w_nm 13 ?_); (first | refine w_nm 0 ?_ | refine w_nm 1 ?_ | refine w_nm 2 ?_ | refine w_nm 3 ?_ | refine w_nm 4 ?_ | refine w_nm 5 ?_ | refine w_nm 6 ?_ | refine w_nm 7 ?_ | refine w_nm 8 ?_ | refine w_nm 9 ?_ | refine w_nm 10 ?_ | refine w_nm 11 ?_ | refine w_nm 12 ?_ | refine w_nm 13 ?_)
      exact ⟨_, i, _, hl, rfl, atI_nat gi, wa_nil ⟨n, _, a, rfl, by omega, _, _, rfl, rfl, .inl ⟨rfl, hp⟩⟩⟩
end
end K
set_option Elab.async false
set_option linter.all false
set_option maxRecDepth 100000
set_option maxHeartbeats 4100000
namespace K
open PySem PySem.Spec
open PyProof.Rows L2 Rg
section
variable {P : Program} {w : World} {K : PySem.W.Frag} {mg : Str → Option Value}
variable {base : Heap} {f : Addr} {fd : FuncData}
/-! ### the law's own source of numbers -/
/-- the source's three numbers, its counter at most c -/
def Src (c : Nat) (s : List D) : Prop := ∃ a b z : Int, s = [.int a, .int b, .int z] ∧ 0 ≤ a ∧ 0 ≤ b ∧ b < 2 ^ 140 ∧ 0 ≤ z ∧ z ≤ c
theorem Src.mono {c e : Nat} {s : List D} (h : Src c s) (le : c ≤ e) : Src e s := by
  obtain ⟨a, b, z, h1, h2, h3, h4, h5, h6⟩ := h
  exact ⟨a, b, z, h1, h2, h3, h4, h5, by omega⟩
theorem powOk {i j : Int} {k : Nat} (h0 : 0 ≤ j) (hj : j ≤ 40) (hi : i.natAbs < 2 ^ k) (hk : 0 < k) (h : k ≤ 1000) : CPowW i j := by
  have h1 : i.natAbs.log2 < k := PySem.Flt.log2_lt_of hk hi
  refine ⟨h0, ?_⟩
  have h2 : (i.natAbs.log2 + 1 : Int) * j ≤ 1000 * 40 := Int.mul_le_mul (by omega) hj h0 (by decide)
  exact Int.le_trans h2 (by decide)
theorem natAbs_lt {i : Int} {k : Nat} (h0 : 0 ≤ i) (h : i < 2 ^ k) : i.natAbs < 2 ^ k := by
  have e : ((i.natAbs : Nat) : Int) = i := Int.natAbs_of_nonneg h0
  have : ((i.natAbs : Nat) : Int) < ((2 ^ k : Nat) : Int) := by rw [e]; simpa using h
  exact Int.ofNat_lt.mp this
theorem set_at {cs : Cs} {k : Nat} {s t : List D} (h : cs[k]? = some s) : (cs.set k t)[k]? = some t := List.getElem?_set_self (List.getElem?_eq_some_iff.mp h).1
/-! ### the other source of the law's numbers -/
theorem mulOk {i j : Int} {k l : Nat} (hi : i.natAbs < 2 ^ k) (hj : j.natAbs < 2 ^ l) (hk : 0 < k) (hl : 0 < l) (h : k + l ≤ 1000000) : CMulW i j := by
  have h1 : i.natAbs.log2 < k := PySem.Flt.log2_lt_of hk hi
  have h2 : j.natAbs.log2 < l := PySem.Flt.log2_lt_of hl hj
  show i.natAbs.log2 + j.natAbs.log2 < 1000000
  omega
abbrev s__law_pick : Stmt := topS 27
abbrev n__law_pick : List Str := ["feed", "wide", "digit", "mixed"]
theorem c__law_pick : FnScope n__law_pick ["feed", "wide"] (defScope s__law_pick) := ⟨rfl, rfl, rfl, by decide +kernel, rfl, by decide +kernel, by decide +kernel⟩
def g_pick : GD := fun ds cs P => ∃ (k : Nat) (n : Int) (s : List D) (c : Nat), ds = [.own k, .int n] ∧ cs[k]? = some s ∧ Src c s ∧ c < 1000000000 ∧ 0 < n ∧ n ≤ 1000000 ∧ ∀ (r : Int) s', 0 ≤ r → r < n → Src (c + 1) s' → P (.int r) (cs.set k s')
theorem ok_fpick (F : FnP K "_law_pick" s__law_pick f fd) : FnG P w K mg base CX0 1 f fd ["feed", "wide"] (spD g_pick) := by
  refine fnD F c__law_pick (fun ds cs P ⟨k, n, s, c, e, _⟩ => by rw [e]; rfl) fun cdv A outer s0 H E hr ds cs P' ⟨k, n, s, c, e, hs, ⟨a, b, z, es, ha, hb, hb2, hz, hzc⟩, hc, hn, hn2, hp⟩ hbase => ?_
  subst e es
  refine wss_cons (ws_if (wt_gt (w_at ?_)))
  (first | refine w_nm 0 ?_ | refine w_nm 1 ?_ | refine w_nm 2 ?_ | refine w_nm 3 ?_ | refine w_nm 4 ?_ | refine w_nm 5 ?_ | refine w_nm 6 ?_ | refine w_nm 7 ?_ | refine w_nm 8 ?_ | refine w_nm 9 ?_ | refine w_nm 10 ?_ | refine w_nm 11 ?_ | refine w_nm 12 ?_ | refine w_nm 13 ?_)
  refine w_int ⟨_, 0, .int a, .o hs, rfl, rfl, w_int ⟨_, _, rfl, rfl, iteq _ (fun h => ?_) fun h => ?_⟩⟩
  · refine wss_cons (ws_set 2 (w_mod (w_at ?_)) c__law_pick.nd)
    (first | refine w_nm 0 ?_ | refine w_nm 1 ?_ | refine w_nm 2 ?_ | refine w_nm 3 ?_ | refine w_nm 4 ?_ | refine w_nm 5 ?_ | refine w_nm 6 ?_ | refine w_nm 7 ?_ | refine w_nm 8 ?_ | refine w_nm 9 ?_ | refine w_nm 10 ?_ | refine w_nm 11 ?_ | refine w_nm 12 ?_ | refine w_nm 13 ?_)
    refine w_int ⟨_, 0, .int a, .o hs, rfl, rfl, ?_⟩
    (first | refine w_nm 0 ?_ | refine w_nm 1 ?_ | refine w_nm 2 ?_ | refine w_nm 3 ?_ | refine w_nm 4 ?_ | refine w_nm 5 ?_ | refine w_nm 6 ?_ | refine w_nm 7 ?_ | refine w_nm 8 ?_ | refine w_nm 9 ?_ | refine w_nm 10 ?_ | refine w_nm 11 ?_ | refine w_nm 12 ?_ | refine w_nm 13 ?_)
    refine ⟨_, _, rfl, rfl, hn, wss_cons (ws_put (w_div (w_at ?_)))⟩
    (first | refine w_nm 0 ?_ | refine w_nm 1 ?_ | refine w_nm 2 ?_ | refine w_nm 3 ?_ | refine w_nm 4 ?_ | refine w_nm 5 ?_ | refine w_nm 6 ?_ | refine w_nm 7 ?_ | refine w_nm 8 ?_ | refine w_nm 9 ?_ | refine w_nm 10 ?_ | refine w_nm 11 ?_ | refine w_nm 12 ?_ | refine w_nm 13 ?_)
    refine w_int ⟨_, 0, .int a, .o hs, rfl, rfl, ?_⟩
    (first | refine w_nm 0 ?_ | refine w_nm 1 ?_ | refine w_nm 2 ?_ | refine w_nm 3 ?_ | refine w_nm 4 ?_ | refine w_nm 5 ?_ | refine w_nm 6 ?_ | refine w_nm 7 ?_ | refine w_nm 8 ?_ | refine w_nm 9 ?_ | refine w_nm 10 ?_ | refine w_nm 11 ?_ | refine w_nm 12 ?_ | refine w_nm 13 ?_)
    refine ⟨_, _, rfl, rfl, ⟨hn, by omega⟩, ?_⟩
    (first | refine w_nm 0 ?_ | refine w_nm 1 ?_ | refine w_nm 2 ?_ | refine w_nm 3 ?_ | refine w_nm 4 ?_ | refine w_nm 5 ?_ | refine w_nm 6 ?_ | refine w_nm 7 ?_ | refine w_nm 8 ?_ | refine w_nm 9 ?_ | refine w_nm 10 ?_ | refine w_nm 11 ?_ | refine w_nm 12 ?_ | refine w_nm 13 ?_)
    refine ⟨k, rfl, w_int ⟨0, _, 0, rfl, hs, rfl, wss_one (ws_ret ?_)⟩⟩
    (first | refine w_nm 0 ?_ | refine w_nm 1 ?_ | refine w_nm 2 ?_ | refine w_nm 3 ?_ | refine w_nm 4 ?_ | refine w_nm 5 ?_ | refine w_nm 6 ?_ | refine w_nm 7 ?_ | refine w_nm 8 ?_ | refine w_nm 9 ?_ | refine w_nm 10 ?_ | refine w_nm 11 ?_ | refine w_nm 12 ?_ | refine w_nm 13 ?_)
    refine .inl ⟨by simp, hp _ _ (Int.emod_nonneg _ (by omega)) (Int.emod_lt_of_pos _ hn) ⟨a / n, b, z, rfl, Int.ediv_nonneg ha (by omega), hb, hb2, hz, by omega⟩⟩
  · refine wss_nil (wss_cons (ws_put (w_add (w_at ?_))))
    (first | refine w_nm 0 ?_ | refine w_nm 1 ?_ | refine w_nm 2 ?_ | refine w_nm 3 ?_ | refine w_nm 4 ?_ | refine w_nm 5 ?_ | refine w_nm 6 ?_ | refine w_nm 7 ?_ | refine w_nm 8 ?_ | refine w_nm 9 ?_ | refine w_nm 10 ?_ | refine w_nm 11 ?_ | refine w_nm 12 ?_ | refine w_nm 13 ?_)
    refine w_int ⟨_, 2, .int z, .o hs, rfl, rfl, w_int ⟨_, _, rfl, rfl, ?_⟩⟩
    (first | refine w_nm 0 ?_ | refine w_nm 1 ?_ | refine w_nm 2 ?_ | refine w_nm 3 ?_ | refine w_nm 4 ?_ | refine w_nm 5 ?_ | refine w_nm 6 ?_ | refine w_nm 7 ?_ | refine w_nm 8 ?_ | refine w_nm 9 ?_ | refine w_nm 10 ?_ | refine w_nm 11 ?_ | refine w_nm 12 ?_ | refine w_nm 13 ?_)
    refine ⟨k, rfl, w_int ⟨2, _, 2, rfl, hs, rfl, ?_⟩⟩
    have hs2 : (cs.set k [.int a, .int b, .int (z + 1)])[k]? = some [.int a, .int b, .int (z + 1)] := set_at hs
    have hz2 : (z + 1).natAbs < 2 ^ 40 := natAbs_lt (k := 40) (by omega) (by omega)
    refine wss_cons (ws_set 3 (w_mod (w_add (w_at ?_))) c__law_pick.nd)
    (first | refine w_nm 0 ?_ | refine w_nm 1 ?_ | refine w_nm 2 ?_ | refine w_nm 3 ?_ | refine w_nm 4 ?_ | refine w_nm 5 ?_ | refine w_nm 6 ?_ | refine w_nm 7 ?_ | refine w_nm 8 ?_ | refine w_nm 9 ?_ | refine w_nm 10 ?_ | refine w_nm 11 ?_ | refine w_nm 12 ?_ | refine w_nm 13 ?_)
    refine w_int ⟨_, 1, .int b, .o hs2, rfl, rfl, w_mulW (w_int (w_at ?_))⟩
    (first | refine w_nm 0 ?_ | refine w_nm 1 ?_ | refine w_nm 2 ?_ | refine w_nm 3 ?_ | refine w_nm 4 ?_ | refine w_nm 5 ?_ | refine w_nm 6 ?_ | refine w_nm 7 ?_ | refine w_nm 8 ?_ | refine w_nm 9 ?_ | refine w_nm 10 ?_ | refine w_nm 11 ?_ | refine w_nm 12 ?_ | refine w_nm 13 ?_)
    refine w_int ⟨_, 2, .int (z + 1), .o hs2, rfl, rfl, _, _, rfl, rfl, mulOk (k := 60) (l := 40) (by decide) hz2 (by decide) (by decide) (by decide), _, _, rfl, rfl, w_int ⟨_, _, rfl, rfl, by decide, ?_⟩⟩
    generalize hm1 : (b + 151007 * (z + 1)) % 2305843009213693951 = m1
    have hm1a : 0 ≤ m1 := by rw [← hm1]; exact Int.emod_nonneg _ (by decide)
    have hm1b : m1 < 2305843009213693951 := by rw [← hm1]; exact Int.emod_lt_of_pos _ (by decide)
    have hm1c : m1.natAbs < 2 ^ 62 := natAbs_lt (k := 62) hm1a (by omega)
    refine wss_cons (ws_set 3 (w_mod (w_add (w_add (w_mulW ?_)))) c__law_pick.nd)
    (first | refine w_nm 0 ?_ | refine w_nm 1 ?_ | refine w_nm 2 ?_ | refine w_nm 3 ?_ | refine w_nm 4 ?_ | refine w_nm 5 ?_ | refine w_nm 6 ?_ | refine w_nm 7 ?_ | refine w_nm 8 ?_ | refine w_nm 9 ?_ | refine w_nm 10 ?_ | refine w_nm 11 ?_ | refine w_nm 12 ?_ | refine w_nm 13 ?_); (first | refine w_nm 0 ?_ | refine w_nm 1 ?_ | refine w_nm 2 ?_ | refine w_nm 3 ?_ | refine w_nm 4 ?_ | refine w_nm 5 ?_ | refine w_nm 6 ?_ | refine w_nm 7 ?_ | refine w_nm 8 ?_ | refine w_nm 9 ?_ | refine w_nm 10 ?_ | refine w_nm 11 ?_ | refine w_nm 12 ?_ | refine w_nm 13 ?_)
    refine ⟨_, _, rfl, rfl, mulOk hm1c hm1c (by decide) (by decide) (by decide), w_mulW (w_mulW (w_int (w_at ?_)))⟩
    (first | refine w_nm 0 ?_ | refine w_nm 1 ?_ | refine w_nm 2 ?_ | refine w_nm 3 ?_ | refine w_nm 4 ?_ | refine w_nm 5 ?_ | refine w_nm 6 ?_ | refine w_nm 7 ?_ | refine w_nm 8 ?_ | refine w_nm 9 ?_ | refine w_nm 10 ?_ | refine w_nm 11 ?_ | refine w_nm 12 ?_ | refine w_nm 13 ?_)
    refine w_int ⟨_, 2, .int (z + 1), .o hs2, rfl, rfl, _, _, rfl, rfl, mulOk (k := 60) (l := 40) (by decide) hz2 (by decide) (by decide) (by decide), ?_⟩
    (first | refine w_nm 0 ?_ | refine w_nm 1 ?_ | refine w_nm 2 ?_ | refine w_nm 3 ?_ | refine w_nm 4 ?_ | refine w_nm 5 ?_ | refine w_nm 6 ?_ | refine w_nm 7 ?_ | refine w_nm 8 ?_ | refine w_nm 9 ?_ | refine w_nm 10 ?_ | refine w_nm 11 ?_ | refine w_nm 12 ?_ | refine w_nm 13 ?_)
    refine ⟨_, _, rfl, rfl, mulOk (k := 100) (l := 62) (natAbs_lt (k := 100) (by omega) (by omega)) hm1c (by decide) (by decide) (by decide), _, _, rfl, rfl, w_int ⟨_, _, rfl, rfl, w_int ⟨_, _, rfl, rfl, by decide, ?_⟩⟩⟩
    generalize hm2 : (m1 * m1 + 57731 * (z + 1) * m1 + 53) % 2305843009213693951 = m2
    have hm2a : 0 ≤ m2 := by rw [← hm2]; exact Int.emod_nonneg _ (by decide)
    have hm2b : m2 < 2305843009213693951 := by rw [← hm2]; exact Int.emod_lt_of_pos _ (by decide)
    refine wss_cons (ws_set 3 (w_mod (w_add (w_add (w_pow ?_)))) c__law_pick.nd)
    (first | refine w_nm 0 ?_ | refine w_nm 1 ?_ | refine w_nm 2 ?_ | refine w_nm 3 ?_ | refine w_nm 4 ?_ | refine w_nm 5 ?_ | refine w_nm 6 ?_ | refine w_nm 7 ?_ | refine w_nm 8 ?_ | refine w_nm 9 ?_ | refine w_nm 10 ?_ | refine w_nm 11 ?_ | refine w_nm 12 ?_ | refine w_nm 13 ?_)
    refine w_int ⟨_, 3, rfl, rfl, powOk (k := 62) (by decide) (by decide) (natAbs_lt hm2a (by omega)) (by decide) (by decide), w_at ?_⟩
    (first | refine w_nm 0 ?_ | refine w_nm 1 ?_ | refine w_nm 2 ?_ | refine w_nm 3 ?_ | refine w_nm 4 ?_ | refine w_nm 5 ?_ | refine w_nm 6 ?_ | refine w_nm 7 ?_ | refine w_nm 8 ?_ | refine w_nm 9 ?_ | refine w_nm 10 ?_ | refine w_nm 11 ?_ | refine w_nm 12 ?_ | refine w_nm 13 ?_)
    refine w_int ⟨_, 1, .int b, .o hs2, rfl, rfl, _, _, rfl, rfl, w_mulW (w_int (w_at ?_))⟩
    (first | refine w_nm 0 ?_ | refine w_nm 1 ?_ | refine w_nm 2 ?_ | refine w_nm 3 ?_ | refine w_nm 4 ?_ | refine w_nm 5 ?_ | refine w_nm 6 ?_ | refine w_nm 7 ?_ | refine w_nm 8 ?_ | refine w_nm 9 ?_ | refine w_nm 10 ?_ | refine w_nm 11 ?_ | refine w_nm 12 ?_ | refine w_nm 13 ?_)
    refine w_int ⟨_, 2, .int (z + 1), .o hs2, rfl, rfl, _, _, rfl, rfl, mulOk (k := 60) (l := 40) (by decide) hz2 (by decide) (by decide) (by decide), _, _, rfl, rfl, w_int ⟨_, _, rfl, rfl, by decide, ?_⟩⟩
    refine wss_one (ws_ret (w_mod (w_div ?_)))
    (first | refine w_nm 0 ?_ | refine w_nm 1 ?_ | refine w_nm 2 ?_ | refine w_nm 3 ?_ | refine w_nm 4 ?_ | refine w_nm 5 ?_ | refine w_nm 6 ?_ | refine w_nm 7 ?_ | refine w_nm 8 ?_ | refine w_nm 9 ?_ | refine w_nm 10 ?_ | refine w_nm 11 ?_ | refine w_nm 12 ?_ | refine w_nm 13 ?_)
    refine w_int ⟨_, _, rfl, rfl, ⟨by decide, by decide⟩, ?_⟩
    (first | refine w_nm 0 ?_ | refine w_nm 1 ?_ | refine w_nm 2 ?_ | refine w_nm 3 ?_ | refine w_nm 4 ?_ | refine w_nm 5 ?_ | refine w_nm 6 ?_ | refine w_nm 7 ?_ | refine w_nm 8 ?_ | refine w_nm 9 ?_ | refine w_nm 10 ?_ | refine w_nm 11 ?_ | refine w_nm 12 ?_ | refine w_nm 13 ?_)
    refine ⟨_, _, rfl, rfl, hn, .inl ⟨by simp, hp _ _ (Int.emod_nonneg _ (by omega)) (Int.emod_lt_of_pos _ hn) ⟨a, b, z + 1, rfl, ha, hb, hb2, by omega, by omega⟩⟩⟩
theorem Src.res {c : Nat} {s : List D} (h : Src c s) (cs : Cs) (n m : Nat) : ResL cs n m s s := by
  obtain ⟨a, b, z, rfl, _⟩ := h
  exact .cons .int (.cons .int (.cons .int .nil))
theorem _root_.Rg.BaseOk.lowSet {cs : Cs} {ds : List D} {more : Cs} {k m c : Nat} {s : List D} (b : BaseOk cs ds) (h : Src c s) : Low (cs.set k s ++ more) cs.length m := fun j xs hj hx => by
  rw [List.getElem?_append_left (by simpa using hj)] at hx
  by_cases e : k = j
  · subst e
    rw [List.getElem?_set_self hj] at hx
    cases hx
    exact h.res _ _ _
  · rw [List.getElem?_set_ne e] at hx
    exact b.low j xs hx _ _
theorem set_app_at {cs : Cs} {k : Nat} {s t : List D} {more : Cs} (h : cs[k]? = some t) : (cs.set k s ++ more)[k]? = some s := by
  rw [List.getElem?_append_left (by simpa using (List.getElem?_eq_some_iff.mp h).1)]; exact set_at h
theorem set_app_set {cs : Cs} {k : Nat} {s t u : List D} {more : Cs} (h : cs[k]? = some t) : (cs.set k s ++ more).set k u = cs.set k u ++ more := by
  rw [List.set_append_left _ _ (by simpa using (List.getElem?_eq_some_iff.mp h).1), List.set_set]
theorem app_at1 {cs : Cs} {k : Nat} {s x : List D} {more : Cs} : (cs.set k s ++ x :: more)[cs.length]? = some x := by
  rw [List.getElem?_append_right (by simp)]; simp
theorem app_set1 {cs : Cs} {k : Nat} {s x y : List D} {more : Cs} : (cs.set k s ++ x :: more).set cs.length y = cs.set k s ++ y :: more := by
  rw [List.set_append_right _ _ (by simp)]; simp
theorem take_set {cs : Cs} {k : Nat} {s : List D} {more : Cs} : (cs.set k s ++ more).take cs.length = cs.set k s := List.take_left' (by simp)
theorem set_none {cs : Cs} {k : Nat} {s : List D} (h : cs[k]? = some s) : cs.set k s = cs := by
  apply List.ext_getElem?
  intro i
  by_cases e : k = i
  · subst e; rw [set_at h, h]
  · rw [List.getElem?_set_ne e]
theorem perm_erase {lf acc ns : List Int} {i : Nat} {y : Int} (h : lf[i]? = some y) (p : (acc ++ lf).Perm ns) : ((acc ++ [y]) ++ lf.eraseIdx i).Perm ns := by
  refine List.Perm.trans ?_ p
  rw [List.append_assoc]
  refine List.Perm.append_left acc ?_
  obtain ⟨hi, e⟩ :=
        List.getElem?_eq_some_iff.mp h
  have h1 : lf = lf.take i ++ y :: lf.drop (i + 1) := by rw [← e, List.getElem_cons_drop, List.take_append_drop]
  have h2 : lf.eraseIdx i = lf.take i ++ lf.drop (i + 1) := List.eraseIdx_eq_take_drop_succ _ _
  rw [h2]
  conv => rhs; rw [h1]
  show (y :: (List.take i lf ++ List.drop (i + 1) lf)).Perm (List.take i lf ++ y :: List.drop (i + 1) lf)
  exact List.perm_middle.symm
theorem erase_map : ∀ (l : List Int) (i : Nat), (l.map D.int).eraseIdx i = (l.eraseIdx i).map D.int
  | [], _ => rfl
  | _ :: _, 0 => rfl
  | a :: r, i + 1 => by
    show D.int a :: (r.map D.int).eraseIdx i = D.int a :: (r.eraseIdx i).map D.int
    rw [erase_map r i]
abbrev s__law_shuffle : Stmt := topS 28
abbrev n__law_shuffle : List Str := ["feed", "values", "left", "k"]
theorem c__law_shuffle : FnScope n__law_shuffle ["feed", "values"] (defScope s__law_shuffle) := ⟨rfl, rfl, rfl, by decide +kernel, rfl, by decide +kernel, by decide +kernel⟩
def g_shuffled : GN := fun ds cs P => ∃ (k : Nat) (d : D) (ns : List Int) (s : List D) (c : Nat), ds = [.own k, d] ∧ cs[k]? = some s ∧ Src c s ∧ c < 900000000 ∧ LstD cs d (ns.map .int) ∧ d ≠ .own k ∧ ns.length ≤ 1000 ∧ ∀ (ns' : List Int) s', ns'.Perm ns → Src (c + ns.length) s' → P (ns'.map .int) (cs.set k s')
theorem LstD.set_ {cs : Cs} {k : Nat} {d : D} {xs s : List D} (h : LstD cs d xs) (hd : d ≠ .own k) : LstD (cs.set k s) d xs := by
  rcases h with h | ⟨j, h1, h2⟩ | h
  · exact .inl h
  · refine .inr (.inl ⟨j, h1, ?_⟩)
    rw [List.getElem?_set_ne (fun e => hd (by rw [h1, e]))]
    exact h2
  · exact .inr (.inr h)
theorem ok_shuffle (M : Bl mg) (GP : FnD P w K mg base 1 "_law_pick" ["feed", "wide"] (spD g_pick)) (F : FnP K "_law_shuffle" s__law_shuffle f fd) : FnG P w K mg base CX0 2 f fd ["feed", "values"] (spN g_shuffled) := by
  refine fnN F c__law_shuffle (fun ds cs P ⟨k, d, ns, s, c, e, _⟩ => by rw [e]; rfl) fun cdv A outer s0 H E hr ds cs P' ⟨k, d, ns, s, c, e, hs, hc, hc9, hl, hd, h60, hp⟩ hb => ?_
  subst e
  refine wss_cons (ws_setN true 2 (wn_list M.list (wa_cons ?_)) c__law_shuffle.nd)
  (first | refine w_nm 0 ?_ | refine w_nm 1 ?_ | refine w_nm 2 ?_ | refine w_nm 3 ?_ | refine w_nm 4 ?_ | refine w_nm 5 ?_ | refine w_nm 6 ?_ | refine w_nm 7 ?_ | refine w_nm 8 ?_ | refine w_nm 9 ?_ | refine w_nm 10 ?_ | refine w_nm 11 ?_ | refine w_nm 12 ?_ | refine w_nm 13 ?_)
  refine wa_nil ⟨d, _, rfl, hl, ?_⟩
  refine wss_one (ws_ret (w_cell (wn_lr 3 rfl c__law_shuffle.nd M.range (blkOk_by (N := n__law_shuffle) (sc := defScope s__law_shuffle) (by decide +kernel)) (fun _ _ _ _ _ => pg_name (FnScope.nd c__law_shuffle) rfl (.inl rfl)) (w_len M.len (wa_cons ?_)))))
  (first | refine w_nm 0 ?_ | refine w_nm 1 ?_ | refine w_nm 2 ?_ | refine w_nm 3 ?_ | refine w_nm 4 ?_ | refine w_nm 5 ?_ | refine w_nm 6 ?_ | refine w_nm 7 ?_ | refine w_nm 8 ?_ | refine w_nm 9 ?_ | refine w_nm 10 ?_ | refine w_nm 11 ?_ | refine w_nm 12 ?_ | refine w_nm 13 ?_)
  refine wa_nil ⟨d, _, rfl, hl.app, ns.length, fun j acc cs' => ∃ lf as s', cs' = cs.set k s' ++ [lf.map D.int] ∧ Src (c + j) s' ∧ (as ++ lf).Perm ns ∧ acc = as.map D.int ∧ as.length = j, by simp, by omega, by omega, ⟨ns, [], s, by rw [set_none hs], hc, by simp, rfl, rfl⟩, ?_, ?_, ?_⟩
  · rintro j acc cs' ⟨lf, as, s', _, _, pm, rfl, _⟩
    have := pm.length_eq
    rw [List.length_append] at this
    rw [List.length_map]; omega
  · rintro j acc cs' hj ⟨lf, as, s', rfl, hs', pm, rfl, hl2⟩
    have hlen := pm.length_eq
    rw [List.length_append] at hlen
    refine tno ?_
    intro s1 H1 C cl fp
    refine w_popAt ?_
    (first | refine w_nm 0 ?_ | refine w_nm 1 ?_ | refine w_nm 2 ?_ | refine w_nm 3 ?_ | refine w_nm 4 ?_ | refine w_nm 5 ?_ | refine w_nm 6 ?_ | refine w_nm 7 ?_ | refine w_nm 8 ?_ | refine w_nm 9 ?_ | refine w_nm 10 ?_ | refine w_nm 11 ?_ | refine w_nm 12 ?_ | refine w_nm 13 ?_)
    refine ⟨cs.length, rfl, wa_cons (w_call GP hr (wa_cons ?_))⟩
    (first | refine w_nm 0 ?_ | refine w_nm 1 ?_ | refine w_nm 2 ?_ | refine w_nm 3 ?_ | refine w_nm 4 ?_ | refine w_nm 5 ?_ | refine w_nm 6 ?_ | refine w_nm 7 ?_ | refine w_nm 8 ?_ | refine w_nm 9 ?_ | refine w_nm 10 ?_ | refine w_nm 11 ?_ | refine w_nm 12 ?_ | refine w_nm 13 ?_)
    refine wa_cons (w_len M.len (wa_cons ?_))
    (first | refine w_nm 0 ?_ | refine w_nm 1 ?_ | refine w_nm 2 ?_ | refine w_nm 3 ?_ | refine w_nm 4 ?_ | refine w_nm 5 ?_ | refine w_nm 6 ?_ | refine w_nm 7 ?_ | refine w_nm 8 ?_ | refine w_nm 9 ?_ | refine w_nm 10 ?_ | refine w_nm 11 ?_ | refine w_nm 12 ?_ | refine w_nm 13 ?_)
    refine wa_nil ⟨_, _, rfl, .o app_at1, wa_nil ⟨k, _, s', c + j, rfl, set_app_at hs, hs', by omega, by rw [List.length_map]; omega, by rw [List.length_map]; omega, fun r s2 hr0 hr1 hs2 => ?_⟩⟩
    rw [set_app_set hs]
    rw [List.length_map] at hr1
    have hrn : r.toNat < lf.length := by omega
    have hy : lf[r.toNat]? = some lf[r.toNat] := List.getElem?_eq_getElem hrn
    refine wa_nil ⟨_, app_at1, r.toNat, .int lf[r.toNat], by rw [Int.toNat_of_nonneg hr0], by omega, by rw [List.getElem?_map, hy]; rfl, ?_⟩
    rw [app_set1]
    refine ⟨lf.eraseIdx r.toNat, as ++ [lf[r.toNat]], s2, ?_, by rw [← Nat.add_assoc]; exact hs2, perm_erase hy pm, by simp, by simp [hl2]⟩
    rw [erase_map]
  · rintro acc cs' ⟨lf, as, s', rfl, hs', pm, rfl, hl2⟩
    have hlen := pm.length_eq
    rw [List.length_append] at hlen
    simp only [Int.toNat_natCast, List.length_map] at hl2 hs'
    have e0 : lf = [] := List.eq_nil_of_length_eq_zero (by omega)
    subst e0
    rw [List.append_nil] at pm
    refine ⟨cs.length + 1, _, _, by simp, by omega, ?_, resL_ints as, ?_, ?_⟩
    · rw [List.append_assoc, List.getElem?_append_right (by simp)]; simp
    · rw [List.append_assoc]; exact hb.lowSet hs'
    · rw [List.append_assoc, take_set]
      exact hp as s' pm hs'
abbrev s__law_feed : Stmt := topS 26
abbrev n__law_feed : List Str := ["script", "k", "cell"]
theorem c__law_feed : FnScope n__law_feed ["script", "k"] (defScope s__law_feed) := ⟨rfl, rfl, rfl, by decide +kernel, rfl, by decide +kernel, by decide +kernel⟩
def g_source (K : PySem.W.Frag) : GN := fun ds cs P => ∃ d ns, ∃ spot : Int, ds = [d, .int spot] ∧ ScrD K d ns ∧ 0 ≤ spot ∧ spot ≤ 1000 ∧ ∀ s, Src 0 s → P s cs
theorem ok_feed (M : Bl mg) (F : FnP K "_law_feed" s__law_feed f fd) : FnG P w K mg base CX0 1 f fd ["script", "k"] (spN (g_source K)) := by
  refine fnN F c__law_feed (fun ds cs P ⟨d, ns, spot, e, _⟩ => by rw [e]; rfl) fun cdv A outer s H E hr ds cs P' ⟨d, ns, spot, e, hd, h0, h1, hp⟩ hb => ?_
  subst e
  have go : ∀ cell : Int, WSs (Bx P w K mg base n__law_feed "_law_feed" s__law_feed f cdv A outer s H E) cs.length [(defBody s__law_feed).getD 2 (.Pass ⟨0, 0, 0, 0⟩)] { nx := fun _ _ => False, rt := ShutN cs.length P' } [some d, some (.int spot), some (.int cell)] cs := fun cell => by
    refine wss_one (ws_ret (w_cell (wn_lst (wa_cons (w_max2 rfl M.max (wa_cons (w_int (wa_cons (w_sub (w_abs M.abs (wa_cons ?_)))))))))))
    (first | refine w_nm 0 ?_ | refine w_nm 1 ?_ | refine w_nm 2 ?_ | refine w_nm 3 ?_ | refine w_nm 4 ?_ | refine w_nm 5 ?_ | refine w_nm 6 ?_ | refine w_nm 7 ?_ | refine w_nm 8 ?_ | refine w_nm 9 ?_ | refine w_nm 10 ?_ | refine w_nm 11 ?_ | refine w_nm 12 ?_ | refine w_nm 13 ?_)
    refine wa_nil ⟨cell, rfl, w_pow (w_int (w_int ⟨10, 18, rfl, rfl, powOk (k := 4) (by decide) (by decide) (by decide) (by decide) (by decide), _, _, rfl, rfl, wa_nil ⟨_, _, rfl, ?_⟩⟩))⟩
    refine wa_cons (w_mod (w_add (w_add (w_mul ?_))))
    (first | refine w_nm 0 ?_ | refine w_nm 1 ?_ | refine w_nm 2 ?_ | refine w_nm 3 ?_ | refine w_nm 4 ?_ | refine w_nm 5 ?_ | refine w_nm 6 ?_ | refine w_nm 7 ?_ | refine w_nm 8 ?_ | refine w_nm 9 ?_ | refine w_nm 10 ?_ | refine w_nm 11 ?_ | refine w_nm 12 ?_ | refine w_nm 13 ?_)
    refine w_int ⟨_, _, rfl, rfl, .inr ⟨by decide, by decide⟩, w_mul (w_int ?_)⟩
    (first | refine w_nm 0 ?_ | refine w_nm 1 ?_ | refine w_nm 2 ?_ | refine w_nm 3 ?_ | refine w_nm 4 ?_ | refine w_nm 5 ?_ | refine w_nm 6 ?_ | refine w_nm 7 ?_ | refine w_nm 8 ?_ | refine w_nm 9 ?_ | refine w_nm 10 ?_ | refine w_nm 11 ?_ | refine w_nm 12 ?_ | refine w_nm 13 ?_)
    refine ⟨_, _, rfl, rfl, .inl ⟨by decide, by decide⟩, _, _, rfl, rfl, w_int ⟨_, _, rfl, rfl, w_int ⟨_, _, rfl, rfl, by decide, wa_cons (w_int (wa_nil ⟨by show 3 ≤ 100000; decide, ?_⟩))⟩⟩⟩
    have hm : 0 ≤ (cell * 163 + 8101 * spot + 41) % 2305843009213693951 := Int.emod_nonneg _ (by decide)
    have hm2 : (cell * 163 + 8101 * spot + 41) % 2305843009213693951 < 2305843009213693951 := Int.emod_lt_of_pos _ (by decide)
    refine ⟨cs.length, _, _, rfl, Nat.le_refl _, last_at, .cons .int (.cons .int (.cons .int .nil)), hb.lowApp, ?_⟩
    rw [List.take_left' rfl]
    refine hp _ ⟨_, _, _, rfl, by split <;> omega, hm, by omega, by decide, by decide⟩
  refine wss_cons (ws_set 2 (w_int ?_) c__law_feed.nd)
  refine wss_cons (ws_if (wt_lt ?_))
  (first | refine w_nm 0 ?_ | refine w_nm 1 ?_ | refine w_nm 2 ?_ | refine w_nm 3 ?_ | refine w_nm 4 ?_ | refine w_nm 5 ?_ | refine w_nm 6 ?_ | refine w_nm 7 ?_ | refine w_nm 8 ?_ | refine w_nm 9 ?_ | refine w_nm 10 ?_ | refine w_nm 11 ?_ | refine w_nm 12 ?_ | refine w_nm 13 ?_)
  refine w_lenS M.len (wa_cons ?_)
  (first | refine w_nm 0 ?_ | refine w_nm 1 ?_ | refine w_nm 2 ?_ | refine w_nm 3 ?_ | refine w_nm 4 ?_ | refine w_nm 5 ?_ | refine w_nm 6 ?_ | refine w_nm 7 ?_ | refine w_nm 8 ?_ | refine w_nm 9 ?_ | refine w_nm 10 ?_ | refine w_nm 11 ?_ | refine w_nm 12 ?_ | refine w_nm 13 ?_)
  refine wa_nil ⟨d, ns, rfl, hd, _, _, rfl, rfl, iteq _ (fun h => ?_) fun h => ?_⟩
  · refine wss_one (ws_set 2 (w_atS ?_) c__law_feed.nd)
    (first | refine w_nm 0 ?_ | refine w_nm 1 ?_ | refine w_nm 2 ?_ | refine w_nm 3 ?_ | refine w_nm 4 ?_ | refine w_nm 5 ?_ | refine w_nm 6 ?_ | refine w_nm 7 ?_ | refine w_nm 8 ?_ | refine w_nm 9 ?_ | refine w_nm 10 ?_ | refine w_nm 11 ?_ | refine w_nm 12 ?_ | refine w_nm 13 ?_)
    (first | refine w_nm 0 ?_ | refine w_nm 1 ?_ | refine w_nm 2 ?_ | refine w_nm 3 ?_ | refine w_nm 4 ?_ | refine w_nm 5 ?_ | refine w_nm 6 ?_ | refine w_nm 7 ?_ | refine w_nm 8 ?_ | refine w_nm 9 ?_ | refine w_nm 10 ?_ | refine w_nm 11 ?_ | refine w_nm 12 ?_ | refine w_nm 13 ?_)
    have hlt : spot.toNat < ns.length := by
      have := of_decide_eq_true h
      omega
    obtain ⟨v, hv⟩ : ∃ v, ns[spot.toNat]? = some v := ⟨_, List.getElem?_eq_getElem hlt⟩
    have ha := atI_nat hv
    rw [Int.toNat_of_nonneg h0] at ha
    exact ⟨ns, spot, v, hd, rfl, ha, go _⟩
  · exact wss_nil (go 0)
abbrev s__law_size : Stmt := topS 32
abbrev n__law_size : List Str := ["feed"]
theorem c__law_size : FnScope n__law_size ["feed"] (defScope s__law_size) := ⟨rfl, rfl, rfl, by decide +kernel, rfl, by decide +kernel, by decide +kernel⟩
def g_size : GD := fun ds cs P => ∃ (k : Nat) (s : List D) (c : Nat), ds = [.own k] ∧ cs[k]? = some s ∧ Src c s ∧ c < 900000000 ∧ ∀ (r : Int) s', 2 ≤ r → r ≤ 60 → Src (c + 3) s' → P (.int r) (cs.set k s')
theorem ok_fsize (GP : FnD P w K mg base 1 "_law_pick" ["feed", "wide"] (spD g_pick)) (F : FnP K "_law_size" s__law_size f fd) : FnG P w K mg base CX0 2 f fd ["feed"] (spD g_size) := by
  refine fnD F c__law_size (fun ds cs P ⟨k, s, c, e, _⟩ => by rw [e]; rfl) fun cdv A outer s0 H E hr ds cs P' ⟨k, s, c, e, hs, hc, hc9, hp⟩ hb => ?_
  subst e
  refine wss_one (ws_ret (w_at (w_new (wn_lst (wa_cons (w_add (w_int (w_call GP hr (wa_cons ?_)))))))))
  (first | refine w_nm 0 ?_ | refine w_nm 1 ?_ | refine w_nm 2 ?_ | refine w_nm 3 ?_ | refine w_nm 4 ?_ | refine w_nm 5 ?_ | refine w_nm 6 ?_ | refine w_nm 7 ?_ | refine w_nm 8 ?_ | refine w_nm 9 ?_ | refine w_nm 10 ?_ | refine w_nm 11 ?_ | refine w_nm 12 ?_ | refine w_nm 13 ?_)
  refine wa_cons (w_int (wa_nil ⟨k, 6, s, c, rfl, hs, hc, by omega, by decide, by decide, fun r1 s1 h0 h1 hs1 => ⟨_, _, rfl, rfl, wa_cons (w_add (w_int (w_call GP hr (wa_cons ?_))))⟩⟩))
  (first | refine w_nm 0 ?_ | refine w_nm 1 ?_ | refine w_nm 2 ?_ | refine w_nm 3 ?_ | refine w_nm 4 ?_ | refine w_nm 5 ?_ | refine w_nm 6 ?_ | refine w_nm 7 ?_ | refine w_nm 8 ?_ | refine w_nm 9 ?_ | refine w_nm 10 ?_ | refine w_nm 11 ?_ | refine w_nm 12 ?_ | refine w_nm 13 ?_)
  refine wa_cons (w_int (wa_nil ⟨k, 59, s1, c + 1, rfl, set_at hs, hs1, by omega, by decide, by decide, fun r2 s2 h2 h3 hs2 => ⟨_, _, rfl, rfl, wa_cons (w_int (wa_nil ⟨by show 3 ≤ 100000; decide, ?_⟩))⟩⟩))
  rw [List.set_set]
  refine w_call GP hr (wa_cons ?_)
  (first | refine w_nm 0 ?_ | refine w_nm 1 ?_ | refine w_nm 2 ?_ | refine w_nm 3 ?_ | refine w_nm 4 ?_ | refine w_nm 5 ?_ | refine w_nm 6 ?_ | refine w_nm 7 ?_ | refine w_nm 8 ?_ | refine w_nm 9 ?_ | refine w_nm 10 ?_ | refine w_nm 11 ?_ | refine w_nm 12 ?_ | refine w_nm 13 ?_)
  refine wa_cons (w_int (wa_nil ⟨k, 3, s2, c + 2, rfl, set_at hs, hs2, by omega, by decide, by decide, fun r3 s3 h4 h5 hs3 => ?_⟩))
  rw [List.set_set]
  have key : ∃ v : Int, ([D.int (2 + r1), .int (2 + r2), .int 60])[r3.toNat]? = some (.int v) ∧ 2 ≤ v ∧ v ≤ 60 := by
    have : r3 = 0 ∨ r3 = 1 ∨ r3 = 2 := by omega
    rcases this with e | e | e <;> subst e
    · exact ⟨2 + r1, rfl, by omega, by omega⟩
    · exact ⟨2 + r2, rfl, by omega, by omega⟩
    · exact ⟨60, rfl, by decide, by decide⟩
  obtain ⟨v, hv, hv1, hv2⟩ := key
  have ha := atI_nat hv
  rw [Int.toNat_of_nonneg h4] at ha
  exact ⟨_, r3, .int v, .l, rfl, ha, .inl ⟨by simp, hp v s3 hv1 hv2 hs3⟩⟩
theorem cutTo1 (ns : List Int) : Rg.cutD (ns.map D.int) none (some 1) = (ns.take 1).map D.int := by
  unfold Rg.cutD
  rw [show HT.sIx (ns.map D.int).length (ns.map D.int).length (some 1) = min 1 (ns.map D.int).length from HT.sIx_nat _ _ 1, HT.sIx_none]
  cases ns with
  | nil => rfl
  | cons x r => simp
theorem repL1 (n : Nat) (a : Int) : (List.replicate n [D.int a]).flatten = (List.replicate n a).map D.int := by
  induction n with
  | zero => rfl
  | succ n ih => rw [List.replicate_succ, List.flatten_cons, ih, List.replicate_succ]; rfl
theorem notC_of {ns : List Int} {n : Nat} {a : Int} (hl : ns.length = n) (h0 : ns[0]? = some a) (h : ns ≠ List.replicate n a) : NotC ns := by
  apply Classical.byContradiction
  intro hc
  apply h
  apply List.ext_getElem?
  intro i
  by_cases hi : i < n
  · rw [List.getElem?_replicate_of_lt hi]
    have hx : ns[i]? = some (ns[i]'(by omega)) := List.getElem?_eq_getElem _
    rw [hx]
    by_cases e : ns[i]'(by omega) = a
    · rw [e]
    · exact absurd ⟨i, 0, _, _, hx, h0, e⟩ hc
  · rw [List.getElem?_eq_none (by omega), List.getElem?_eq_none (by simp; omega)]
theorem notC_set {n i : Nat} {a : Int} (hn : 2 ≤ n) (hi : i < n) : NotC ((List.replicate n a).set i (a + 1)) := by
  refine ⟨i, if i = 0 then 1 else 0, a + 1, a, List.getElem?_set_self (by simpa using hi), ?_, by omega⟩
  split
  · rw [List.getElem?_set_ne (by omega), List.getElem?_replicate_of_lt (by omega)]
  · rw [List.getElem?_set_ne (by omega), List.getElem?_replicate_of_lt (by omega)]
theorem srt {ms ns : List Int} (p : ns.Perm ms) (le : ns.Pairwise (· ≤ ·)) (nd : ms.Nodup) : ns.Pairwise (· < ·) := by
  have nd2 : ns.Nodup := p.nodup_iff.mpr nd
  exact (le.and nd2).imp fun ⟨a, b⟩ => by omega
theorem cutFrom (xs : List D) (m : Nat) (h : m ≤ xs.length) : Rg.cutD xs (some (m : Int)) none = xs.drop m := by
  unfold Rg.cutD
  rw [HT.sIx_nat, HT.sIx_none, Nat.min_eq_left h, List.take_of_length_le (by rw [List.length_drop]; omega)]
theorem cutTo (xs : List D) (m : Nat) : Rg.cutD xs none (some (m : Int)) = xs.take m := by
  unfold Rg.cutD
  rw [HT.sIx_nat, HT.sIx_none, Nat.sub_zero, List.drop_zero]
  by_cases h : m ≤ xs.length
  · rw [Nat.min_eq_left h]
  · rw [Nat.min_eq_right (by omega), (List.take_length), List.take_of_length_le (by omega)]
theorem drps_in {n : Int} {fs : List Int} (h : Drps n fs) : ∀ v ∈ fs, 0 ≤ v ∧ v < n := fun v hv => batB_mem h.bat hv
theorem first_exD {n : Int} {fs : List Int} (h0 : 0 < n) (D : Drps n fs) (g : Int) : ∃ m : Nat, 1 ≤ m ∧ (g + m) % n ∈ fs ∧ ∀ f : Nat, 1 ≤ f → f < m → (g + f) % n ∉ fs := by
  have key : ∀ m : Nat, 1 ≤ m → (g + m) % n ∈ fs → ∃ m : Nat, 1 ≤ m ∧ (g + m) % n ∈ fs ∧ ∀ f : Nat, 1 ≤ f → f < m → (g + f) % n ∉ fs := fun m => Nat.strongRecOn m fun m ih h1 h2 => by
    by_cases q : ∃ f : Nat, 1 ≤ f ∧ f < m ∧ (g + f) % n ∈ fs
    · obtain ⟨f, a, b, c⟩ := q
      exact ih f b a c
    · exact ⟨m, h1, h2, fun f f1 f2 z => q ⟨f, f1, f2, z⟩⟩
  obtain ⟨v, hv⟩ := List.exists_mem_of_length_pos D.pos
  have hin := drps_in D v hv
  have b0 := Int.emod_nonneg (v - g - 1) (show n ≠ 0 by omega)
  refine key (((v - g - 1) % n).toNat + 1) (by omega) ?_
  rw [show g + ((((v - g - 1) % n).toNat + 1 : Nat) : Int) = g + 1 + (v - g - 1) % n by omega, Int.add_emod_emod, show g + 1 + (v - g - 1) = v by omega, Int.emod_eq_of_lt hin.1 hin.2]
  exact hv
abbrev dIn (fs : List Int) : Int → Bool := fun v => decide (v ∈ fs)
def Nxs (n : Int) (fs l : List Int) : Prop := l.length = n.toNat ∧ ∀ i : Nat, i < n.toNat → First n.toNat (dIn fs) i (wAt l i)
abbrev s__law_stops : Stmt := topS 35
abbrev n__law_stops : List Str := ["size", "falls", "found", "group", "there"]
theorem c__law_stops : FnScope n__law_stops ["size", "falls"] (defScope s__law_stops) := ⟨rfl, rfl, rfl, by decide +kernel, rfl, by decide +kernel, by decide +kernel⟩
def g_stops : GN := fun ds cs P => ∃ (n : Int) (d : D) (fs : List Int), ds = [.int n, d] ∧ LstD cs d (fs.map .int) ∧ Drps n fs ∧ 2 ≤ n ∧ n ≤ 60 ∧ ∀ l, Nxs n fs l → P (l.map .int) cs
theorem ok_stops (M : Bl mg) (F : FnP K "_law_stops" s__law_stops f fd) : FnG P w K mg base CX0 1 f fd ["size", "falls"] (spN g_stops) := by
  refine fnN F c__law_stops (fun ds cs P ⟨n, d, fs, e, _⟩ => by rw [e]; rfl) fun cdv A outer s0 H E hr ds cs P' ⟨n, d, fs, e, hl, Df, h2, h60, hp⟩ hb => ?_
  subst e
  have hT : ((n.toNat : Nat) : Int) = n := by omega
  refine wss_cons (ws_setN true 2 (wn_lst (wa_nil ⟨by decide, ?_⟩)) c__law_stops.nd)
  show WSs _ _ _ _ _ (cs ++ [([] : List Int).map D.int])
  refine wss_cons (ws_forR (hp := PassesOwn.never) 3 rfl c__law_stops.nd M.range ?_)
  (first | refine w_nm 0 ?_ | refine w_nm 1 ?_ | refine w_nm 2 ?_ | refine w_nm 3 ?_ | refine w_nm 4 ?_ | refine w_nm 5 ?_ | refine w_nm 6 ?_ | refine w_nm 7 ?_ | refine w_nm 8 ?_ | refine w_nm 9 ?_ | refine w_nm 10 ?_ | refine w_nm 11 ?_ | refine w_nm 12 ?_ | refine w_nm 13 ?_)
  refine ⟨n, fun g ρ' cs' => ∃ (l : List Int) (b3 b4 : Option D), ρ' = [some (.int n), some d, some (.own cs.length), b3, b4] ∧ cs' = cs ++ [l.map D.int] ∧ l.length = g ∧ g ≤ n.toNat ∧ ∀ i : Nat, i < g → ∃ v, l[i]? = some v ∧ First n.toNat (dIn fs) i v, rfl, by omega, by omega, ⟨[], _, _, rfl, rfl, rfl, by omega, fun i hi => absurd hi (Nat.not_lt_zero _)⟩, ?_, ?_⟩
  · rintro g ρ' cs' hg ⟨l, b3, b4, rfl, rfl, hll, hg2, hF⟩
    obtain ⟨m, m1, m2, m3⟩ := first_exD (by omega) Df (g : Int)
    refine wss_cons (ws_set 4 (w_mod (w_add ?_)) c__law_stops.nd)
    (repeat (first | (first | refine w_nm 0 ?_ | refine w_nm 1 ?_ | refine w_nm 2 ?_ | refine w_nm 3 ?_ | refine w_nm 4 ?_ | refine w_nm 5 ?_ | refine w_nm 6 ?_ | refine w_nm 7 ?_ | refine w_nm 8 ?_ | refine w_nm 9 ?_ | refine w_nm 10 ?_ | refine w_nm 11 ?_ | refine w_nm 12 ?_ | refine w_nm 13 ?_) | refine w_int ?_ | refine ⟨_, _, rfl, rfl, ?_⟩ | refine w_add ?_ | refine w_sub ?_))
    refine ⟨by omega, ?_⟩
    refine wss_cons (ws_while (hp := PassesOwn.never) (fun u ρ' cs' => ∃ f : Nat, ρ' = [some (.int n), some d, some (.own cs.length), some (.int (g : Nat)), some (.int (((g : Int) + (f : Int)) % n))] ∧ cs' = cs ++ [l.map D.int] ∧ 1 ≤ f ∧ f ≤ m ∧ u = m - f) ⟨_, 1, rfl, rfl, Nat.le_refl _, m1, rfl⟩ fun u ρ' cs' ⟨f, eρ, ec, f1, f2, eu⟩ => ?_)
    subst eρ ec
    refine wt_nin rfl ?_
    (first | refine w_nm 0 ?_ | refine w_nm 1 ?_ | refine w_nm 2 ?_ | refine w_nm 3 ?_ | refine w_nm 4 ?_ | refine w_nm 5 ?_ | refine w_nm 6 ?_ | refine w_nm 7 ?_ | refine w_nm 8 ?_ | refine w_nm 9 ?_ | refine w_nm 10 ?_ | refine w_nm 11 ?_ | refine w_nm 12 ?_ | refine w_nm 13 ?_); (first | refine w_nm 0 ?_ | refine w_nm 1 ?_ | refine w_nm 2 ?_ | refine w_nm 3 ?_ | refine w_nm 4 ?_ | refine w_nm 5 ?_ | refine w_nm 6 ?_ | refine w_nm 7 ?_ | refine w_nm 8 ?_ | refine w_nm 9 ?_ | refine w_nm 10 ?_ | refine w_nm 11 ?_ | refine w_nm 12 ?_ | refine w_nm 13 ?_)
    refine ⟨_, fs, rfl, hl.app, ?_⟩
    by_cases z : ((g : Int) + (f : Int)) % n ∈ fs
    · have efm : f = m := by
        rcases Nat.lt_or_eq_of_le f2 with y | y
        · exact absurd z (m3 f f1 y)
        · exact y
      subst efm
      rw [decide_eq_true z]
      show WSs _ _ _ _ _ _
      refine wss_one (ws_expr (w_append ?_))
      (first | refine w_nm 0 ?_ | refine w_nm 1 ?_ | refine w_nm 2 ?_ | refine w_nm 3 ?_ | refine w_nm 4 ?_ | refine w_nm 5 ?_ | refine w_nm 6 ?_ | refine w_nm 7 ?_ | refine w_nm 8 ?_ | refine w_nm 9 ?_ | refine w_nm 10 ?_ | refine w_nm 11 ?_ | refine w_nm 12 ?_ | refine w_nm 13 ?_)
      refine ⟨_, rfl, ?_⟩
      (repeat (first | (first | refine w_nm 0 ?_ | refine w_nm 1 ?_ | refine w_nm 2 ?_ | refine w_nm 3 ?_ | refine w_nm 4 ?_ | refine w_nm 5 ?_ | refine w_nm 6 ?_ | refine w_nm 7 ?_ | refine w_nm 8 ?_ | refine w_nm 9 ?_ | refine w_nm 10 ?_ | refine w_nm 11 ?_ | refine w_nm 12 ?_ | refine w_nm 13 ?_) | refine w_int ?_ | refine wa_cons ?_))
      refine wa_nil ⟨_, last_at, _, rfl, by rw [List.length_map]; omega, ?_⟩
      rw [set_last, show l.map D.int ++ [D.int (((g : Int) + (f : Int)) % n)] = (l ++ [((g : Int) + (f : Int)) % n]).map D.int by simp]
      refine ⟨_, _, _, rfl, rfl, by simp [hll], by omega, fun i hi => ?_⟩
      by_cases y : i < g
      · obtain ⟨v, hv, hF2⟩ := hF i y
        exact ⟨v, by rw [List.getElem?_append_left (by omega)]; exact hv, hF2⟩
      · have ei : i = g := by omega
        subst ei
        refine ⟨_, by rw [List.getElem?_append_right (by omega), hll, Nat.sub_self]; rfl, f, f1, by rw [hT], decide_eq_true z, fun e e1 e2 => ?_⟩
        rw [hT]
        exact decide_eq_false (m3 e e1 e2)
    · have hlt : f < m := by
        rcases Nat.lt_or_eq_of_le f2 with y | y
        · exact y
        · rw [y] at z; exact absurd m2 z
      rw [decide_eq_false z]
      show WSs _ _ _ _ _ _
      refine wss_one (ws_set 4 (w_mod (w_add ?_)) c__law_stops.nd)
      (repeat (first | (first | refine w_nm 0 ?_ | refine w_nm 1 ?_ | refine w_nm 2 ?_ | refine w_nm 3 ?_ | refine w_nm 4 ?_ | refine w_nm 5 ?_ | refine w_nm 6 ?_ | refine w_nm 7 ?_ | refine w_nm 8 ?_ | refine w_nm 9 ?_ | refine w_nm 10 ?_ | refine w_nm 11 ?_ | refine w_nm 12 ?_ | refine w_nm 13 ?_) | refine w_int ?_ | refine ⟨_, _, rfl, rfl, ?_⟩ | refine w_add ?_ | refine w_sub ?_))
      refine ⟨by omega, u - 1, by omega, f + 1, ?_, rfl, by omega, hlt, by omega⟩
      rw [Int.emod_add_emod, show (g : Int) + (f : Int) + 1 = (g : Int) + ((f + 1 : Nat) : Int) by omega]; rfl
  · rintro ρ' cs' ⟨l, b3, b4, rfl, rfl, hll, _, hF⟩
    refine wss_one (ws_ret ?_)
    (first | refine w_nm 0 ?_ | refine w_nm 1 ?_ | refine w_nm 2 ?_ | refine w_nm 3 ?_ | refine w_nm 4 ?_ | refine w_nm 5 ?_ | refine w_nm 6 ?_ | refine w_nm 7 ?_ | refine w_nm 8 ?_ | refine w_nm 9 ?_ | refine w_nm 10 ?_ | refine w_nm 11 ?_ | refine w_nm 12 ?_ | refine w_nm 13 ?_)
    refine ⟨cs.length, _, _, rfl, Nat.le_refl _, last_at, resL_ints _, hb.lowApp, ?_⟩
    rw [List.take_left' rfl]
    refine hp l ⟨hll, fun i hi => ?_⟩
    obtain ⟨v, hv, hF2⟩ := hF i hi
    have e := wAt_nat (ns := l) (i := i) (by omega)
    rw [hv] at e
    rw [← Option.some.inj e]
    exact hF2
theorem drps_of {n : Int} {fs : List Int} (h : ∀ v ∈ fs, 0 ≤ v ∧ v < n) (ne : fs ≠ []) (pw : fs.Pairwise (· < ·)) (few : (fs.length : Int) < n) : Drps n fs := ⟨batB_of h ne pw, few⟩
theorem pw_nd {fs : List Int} (pw : fs.Pairwise (· < ·)) : fs.Nodup := List.Pairwise.imp (fun h => by omega) pw
theorem in_len {n : Int} {fs : List Int} (h : ∀ v ∈ fs, 0 ≤ v ∧ v < n) (nd : fs.Nodup) : fs.length ≤ n.toNat := by
  have := nd.length_le_of_subset (l₂ := rng n) fun v hv => rng_mem.mpr (h v hv)
  rwa [rng_len] at this
theorem drps_one {n v : Int} (h2 : 2 ≤ n) (v0 : 0 ≤ v) (v1 : v < n) : Drps n [v] := drps_of (fun u hu => by rw [(List.mem_singleton.mp hu)]; exact ⟨v0, v1⟩) (by simp) (by simp) (by simp; omega)
theorem drps_miss {n o : Int} {fs : List Int} (h0 : 0 ≤ o) (h1 : o < n) (h : ∀ v ∈ fs, 0 ≤ v ∧ v < n) (ne : fs ≠ []) (pw : fs.Pairwise (· < ·)) (ho : o ∉ fs) : Drps n fs := by
  refine drps_of h ne pw ?_
  have := in_len (n := n) (fs := o :: fs) (fun v hv => (List.mem_cons.mp hv).elim (fun e => by rw [e]; exact ⟨h0, h1⟩) (h v)) (List.nodup_cons.mpr ⟨ho, pw_nd pw⟩)
  rw [List.length_cons] at this
  omega
theorem asc_all {n : Int} {es : List Int} (B : batB n es = true) (pw : es.Pairwise (· < ·)) (hl : (es.length : Int) = n) : ∀ v : Int, 0 ≤ v → v < n → v ∈ es := by
  have key : ∀ a : Nat, ∀ (h : a < es.length), (a : Int) ≤ es[a] := fun a => by
    induction a with
    | zero => intro h; exact (batB_mem B (List.getElem_mem h)).1
    | succ a ih =>
      intro h
      have := ih (by omega)
      have := (List.pairwise_iff_getElem.mp pw) a (a + 1) (by omega) h (by omega)
      omega
  have key2 : ∀ b : Nat, ∀ a : Nat, a + b + 1 = es.length → ∀ (h : a < es.length), es[a] ≤ (a : Int) := fun b => by
    induction b with
    | zero =>
      intro a e h
      have := (batB_mem B (List.getElem_mem h)).2
      omega
    | succ b ih =>
      intro a e h
      have := ih (a + 1) (by omega) (by omega)
      have := (List.pairwise_iff_getElem.mp pw) a (a + 1) h (by omega) (by omega)
      omega
  intro v h0 hv
  have hvl : v.toNat < es.length := by omega
  have a := key v.toNat hvl
  have b := key2 (es.length - v.toNat - 1) v.toNat (by omega) hvl
  have e : es[v.toNat] = v := by omega
  rw [← e]
  exact List.getElem_mem hvl
theorem asc_few {n : Int} {es : List Int} (B : batB n es = true) (pw : es.Pairwise (· < ·)) (hl : (es.length : Int) < n) : ∃ v : Int, 0 ≤ v ∧ v < n ∧ v ∉ es := by
  apply Classical.byContradiction
  intro z
  have all : ∀ v : Int, 0 ≤ v → v < n → v ∈ es := fun v h0 hv => Classical.byContradiction fun y => z ⟨v, h0, hv, y⟩
  have e : es = (List.range n.toNat).map fun i : Nat => (i : Int) := asc_eq pw (List.pairwise_map.mpr (List.pairwise_lt_range.imp fun {a b} h => by omega)) fun v => by
    constructor
    · intro hv
      have r := batB_mem B hv
      exact List.mem_map.mpr ⟨v.toNat, List.mem_range.mpr (by omega), by omega⟩
    · intro hv
      obtain ⟨i, hi, rfl⟩ := List.mem_map.mp hv
      have := List.mem_range.mp hi
      exact all _ (by omega) (by omega)
  rw [e, List.length_map, List.length_range] at hl
  omega
theorem drps_all {n o : Int} (h2 : 2 ≤ n) (h0 : 0 ≤ o) (h1 : o < n) : Drps n ((rng n).eraseIdx o.toNat) := by
  have pw : (rng n).Pairwise (· < ·) := by
    unfold rng
    rw [List.pairwise_map]
    exact List.Pairwise.imp (fun h => by omega) List.pairwise_lt_range
  have hl : ((rng n).eraseIdx o.toNat).length = n.toNat - 1 := by rw [List.length_eraseIdx, rng_len, if_pos (by omega)]
  exact drps_of (fun v hv => rng_mem.mp (List.mem_of_mem_eraseIdx hv)) (fun z => by rw [z] at hl; simp at hl; omega) (pw.sublist (List.eraseIdx_sublist _ _)) (by omega)
theorem full_rng {n : Int} {fs : List Int} (h : ∀ v ∈ fs, 0 ≤ v ∧ v < n) (pw : fs.Pairwise (· < ·)) (hl : (fs.length : Int) = n) : fs = rng n := by
  rcases List.eq_nil_or_concat fs with z | _
  · subst z
    simp at hl
    subst hl
    rfl
  · by_cases ne : fs = []
    · subst ne
      simp at hl
      subst hl
      rfl
    · refine asc_eq pw (by unfold rng; rw [List.pairwise_map]; exact List.Pairwise.imp (fun h => by omega) List.pairwise_lt_range) fun v => ?_
      rw [rng_mem]
      exact ⟨h v, fun ⟨a, b⟩ => asc_all (batB_of h ne pw) pw hl v a b⟩
abbrev s__law_subset : Stmt := topS 33
abbrev n__law_subset : List Str := ["feed", "size", "share", "found", "spare", "spot"]
theorem c__law_subset : FnScope n__law_subset ["feed", "size"] (defScope s__law_subset) := ⟨rfl, rfl, rfl, by decide +kernel, rfl, by decide +kernel, by decide +kernel⟩
def g_subset : GN := fun ds cs P => ∃ (k : Nat) (n : Int) (s : List D) (c : Nat), ds = [.own k, .int n] ∧ cs[k]? = some s ∧ Src c s ∧ c < 800000000 ∧ 2 ≤ n ∧ n ≤ 60 ∧ ∀ (fs : List Int) s', Drps n fs → Src (c + 70) s' → P (fs.map .int) (cs.set k s')
theorem ok_subset (M : Bl mg) (GP : FnD P w K mg base 1 "_law_pick" ["feed", "wide"] (spD g_pick)) (F : FnP K "_law_subset" s__law_subset f fd) : FnG P w K mg base CX0 2 f fd ["feed", "size"] (spN g_subset) := by
  refine fnN F c__law_subset (fun ds cs P ⟨k, n, s, c, e, _⟩ => by rw [e]; rfl) fun cdv A outer s0 H E hr ds cs P' ⟨k, n, s, c, e, hs, hc, hc9, h2, h60, hp⟩ hb => ?_
  subst e
  refine wss_cons (ws_set 2 (w_add (w_int (w_call GP hr ?_))) c__law_subset.nd)
  (repeat (first | (first | refine w_nm 0 ?_ | refine w_nm 1 ?_ | refine w_nm 2 ?_ | refine w_nm 3 ?_ | refine w_nm 4 ?_ | refine w_nm 5 ?_ | refine w_nm 6 ?_ | refine w_nm 7 ?_ | refine w_nm 8 ?_ | refine w_nm 9 ?_ | refine w_nm 10 ?_ | refine w_nm 11 ?_ | refine w_nm 12 ?_ | refine w_nm 13 ?_) | refine w_int ?_ | refine wa_cons ?_))
  refine wa_nil ⟨k, 6, s, c, rfl, hs, hc, by omega, by decide, by decide, fun r1 s1 a1 e1 hs1 => ⟨_, _, rfl, rfl, ?_⟩⟩
  show WSs _ _ _ _ _ _
  refine wss_cons (ws_lrI true 3 5 rfl c__law_subset.nd M.range (sw_true rfl rfl rfl (by decide +kernel)) (blkOk_by (N := n__law_subset) (sc := defScope s__law_subset) (by decide +kernel)) (fun _ _ _ _ _ => pg_name (FnScope.nd c__law_subset) rfl (.inl rfl)) ?_)
  (first | refine w_nm 0 ?_ | refine w_nm 1 ?_ | refine w_nm 2 ?_ | refine w_nm 3 ?_ | refine w_nm 4 ?_ | refine w_nm 5 ?_ | refine w_nm 6 ?_ | refine w_nm 7 ?_ | refine w_nm 8 ?_ | refine w_nm 9 ?_ | refine w_nm 10 ?_ | refine w_nm 11 ?_ | refine w_nm 12 ?_ | refine w_nm 13 ?_)
  refine ⟨n, fun t acc cs' => ∃ (fs : List Int) (s' : List D), cs' = cs.set k s' ∧ acc = fs.map .int ∧ t ≤ 60 ∧ fs.length ≤ t ∧ (∀ v ∈ fs, 0 ≤ v ∧ v < (t : Int)) ∧ fs.Pairwise (· < ·) ∧ Src (c + 1 + t) s', rfl, by omega, by omega, ⟨[], s1, rfl, rfl, by omega, by simp, (fun v hv => by cases hv), .nil, hs1⟩, ?_, ?_, ?_⟩
  · rintro t acc cs' ⟨fs, s', _, rfl, ht, hl, _⟩
    rw [List.length_map]; omega
  · rintro t acc cs' ht ⟨fs, s', rfl, rfl, ht6, hl, hv, pw, hs'⟩
    intro s3 H1 C cl fp
    refine wt_lt (w_call GP hr ?_)
    (repeat (first | (first | refine w_nm 0 ?_ | refine w_nm 1 ?_ | refine w_nm 2 ?_ | refine w_nm 3 ?_ | refine w_nm 4 ?_ | refine w_nm 5 ?_ | refine w_nm 6 ?_ | refine w_nm 7 ?_ | refine w_nm 8 ?_ | refine w_nm 9 ?_ | refine w_nm 10 ?_ | refine w_nm 11 ?_ | refine w_nm 12 ?_ | refine w_nm 13 ?_) | refine w_int ?_ | refine wa_cons ?_))
    refine wa_nil ⟨k, 7, s', c + 1 + t, rfl, set_at hs, hs', by omega, by decide, by decide, fun v s4 v0 v1 hs4 => ?_⟩
    (first | refine w_nm 0 ?_ | refine w_nm 1 ?_ | refine w_nm 2 ?_ | refine w_nm 3 ?_ | refine w_nm 4 ?_ | refine w_nm 5 ?_ | refine w_nm 6 ?_ | refine w_nm 7 ?_ | refine w_nm 8 ?_ | refine w_nm 9 ?_ | refine w_nm 10 ?_ | refine w_nm 11 ?_ | refine w_nm 12 ?_ | refine w_nm 13 ?_)
    refine ⟨_, _, rfl, rfl, ?_⟩
    rw [List.set_set]
    refine iteq _ (fun q => ?_) fun q => ?_
    · intro s5 H2 C2 cl2 fp2
      (first | refine w_nm 0 ?_ | refine w_nm 1 ?_ | refine w_nm 2 ?_ | refine w_nm 3 ?_ | refine w_nm 4 ?_ | refine w_nm 5 ?_ | refine w_nm 6 ?_ | refine w_nm 7 ?_ | refine w_nm 8 ?_ | refine w_nm 9 ?_ | refine w_nm 10 ?_ | refine w_nm 11 ?_ | refine w_nm 12 ?_ | refine w_nm 13 ?_)
      refine ⟨fs ++ [(t : Int)], s4, rfl, by rw [List.map_append]; rfl, by omega, by simp; omega, fun z hz => ?_, ?_, hs4⟩
      · rcases List.mem_append.mp hz with y | y
        · have := hv z y; omega
        · rw [(List.mem_singleton.mp y)]; omega
      · refine List.pairwise_append.mpr ⟨pw, List.pairwise_singleton _ _, fun x hx y hy => ?_⟩
        rw [List.mem_singleton.mp hy]
        exact (hv x hx).2
    · exact ⟨fs, s4, rfl, rfl, by omega, by omega, fun z hz => by have := hv z hz; omega, pw, hs4⟩
  rintro acc cs' ⟨fs, s3, rfl, rfl, _, hl, hv, pw, hs3⟩
  have hv : ∀ v ∈ fs, 0 ≤ v ∧ v < n := fun v h => by have := hv v h; omega
  show WSs _ _ _ _ _ (cs.set k s3 ++ [fs.map D.int])
  rw [List.length_set]
  refine wss_cons (ws_set 4 (w_call GP hr ?_) c__law_subset.nd)
  (repeat (first | (first | refine w_nm 0 ?_ | refine w_nm 1 ?_ | refine w_nm 2 ?_ | refine w_nm 3 ?_ | refine w_nm 4 ?_ | refine w_nm 5 ?_ | refine w_nm 6 ?_ | refine w_nm 7 ?_ | refine w_nm 8 ?_ | refine w_nm 9 ?_ | refine w_nm 10 ?_ | refine w_nm 11 ?_ | refine w_nm 12 ?_ | refine w_nm 13 ?_) | refine w_int ?_ | refine wa_cons ?_))
  refine wa_nil ⟨k, n, s3, c + 1 + n.toNat, rfl, set_app_at hs, hs3, by omega, by omega, by omega, fun sp s4 sp0 sp1 hs4 => ?_⟩
  rw [set_app_set hs]
  refine wss_seq (fun ρ' cs' => ∃ (j : Nat) (more : Cs) (fs : List Int), ρ' = [some (.own k), some (.int n), some (.int (1 + r1)), some (.own j), some (.int sp), none] ∧ cs' = cs.set k s4 ++ more ∧ cs'[j]? = some (fs.map .int) ∧ cs.length ≤ j ∧ fs ≠ [] ∧ (∀ v ∈ fs, 0 ≤ v ∧ v < n) ∧ fs.Pairwise (· < ·)) (ws_if (wt_eq hr.units ?_)) fun ρ' cs' ⟨j, more, fs, eρ, ec, hj, hjl, hne, hv, pw⟩ => ?_
  · (first | refine w_nm 0 ?_ | refine w_nm 1 ?_ | refine w_nm 2 ?_ | refine w_nm 3 ?_ | refine w_nm 4 ?_ | refine w_nm 5 ?_ | refine w_nm 6 ?_ | refine w_nm 7 ?_ | refine w_nm 8 ?_ | refine w_nm 9 ?_ | refine w_nm 10 ?_ | refine w_nm 11 ?_ | refine w_nm 12 ?_ | refine w_nm 13 ?_)
    refine w_new (wn_lst (wa_nil ⟨by simp, _, eqd_ints (ms := []) (.o app_at1) .l, iteq _ (fun q => ?_) fun q => ?_⟩))
    · refine wss_one (ws_setN true 3 (wn_lst (wa_cons ?_)) c__law_subset.nd)
      (first | refine w_nm 0 ?_ | refine w_nm 1 ?_ | refine w_nm 2 ?_ | refine w_nm 3 ?_ | refine w_nm 4 ?_ | refine w_nm 5 ?_ | refine w_nm 6 ?_ | refine w_nm 7 ?_ | refine w_nm 8 ?_ | refine w_nm 9 ?_ | refine w_nm 10 ?_ | refine w_nm 11 ?_ | refine w_nm 12 ?_ | refine w_nm 13 ?_)
      refine wa_nil ⟨by simp, ?_⟩
      exact ⟨_, [fs.map D.int, [D.int sp]], [sp], rfl, by rw [List.append_assoc]; rfl, last_at, by simp, by simp, fun v hv2 => by rw [List.mem_singleton.mp hv2]; exact ⟨sp0, sp1⟩, List.pairwise_singleton _ _⟩
    · exact wss_nil ⟨_, [fs.map D.int], fs, rfl, rfl, app_at1, Nat.le_refl _, of_decide_eq_false q, hv, pw⟩
  subst eρ ec
  refine wss_seq (fun ρ' cs' => ∃ (more : Cs) (fs : List Int), ρ' = [some (.own k), some (.int n), some (.int (1 + r1)), some (.own j), some (.int sp), none] ∧ cs' = cs.set k s4 ++ more ∧ cs'[j]? = some (fs.map .int) ∧ Drps n fs) (ws_if (wt_eq hr.units (w_len M.len (wa_cons ?_)))) fun ρ' cs' ⟨more, fs, eρ, ec, hj, Df⟩ => ?_
  · (first | refine w_nm 0 ?_ | refine w_nm 1 ?_ | refine w_nm 2 ?_ | refine w_nm 3 ?_ | refine w_nm 4 ?_ | refine w_nm 5 ?_ | refine w_nm 6 ?_ | refine w_nm 7 ?_ | refine w_nm 8 ?_ | refine w_nm 9 ?_ | refine w_nm 10 ?_ | refine w_nm 11 ?_ | refine w_nm 12 ?_ | refine w_nm 13 ?_)
    refine wa_nil ⟨_, _, rfl, .o hj, ?_⟩
    (first | refine w_nm 0 ?_ | refine w_nm 1 ?_ | refine w_nm 2 ?_ | refine w_nm 3 ?_ | refine w_nm 4 ?_ | refine w_nm 5 ?_ | refine w_nm 6 ?_ | refine w_nm 7 ?_ | refine w_nm 8 ?_ | refine w_nm 9 ?_ | refine w_nm 10 ?_ | refine w_nm 11 ?_ | refine w_nm 12 ?_ | refine w_nm 13 ?_)
    refine ⟨_, eqd_int, ?_⟩
    rw [List.length_map]
    by_cases z : (fs.length : Int) = n
    · rw [decide_eq_true z]
      have efs := full_rng hv pw z
      subst efs
      show WSs _ _ _ _ _ _
      refine wss_one (ws_expr (w_popAt ?_))
      (first | refine w_nm 0 ?_ | refine w_nm 1 ?_ | refine w_nm 2 ?_ | refine w_nm 3 ?_ | refine w_nm 4 ?_ | refine w_nm 5 ?_ | refine w_nm 6 ?_ | refine w_nm 7 ?_ | refine w_nm 8 ?_ | refine w_nm 9 ?_ | refine w_nm 10 ?_ | refine w_nm 11 ?_ | refine w_nm 12 ?_ | refine w_nm 13 ?_)
      refine ⟨j, rfl, ?_⟩
      (repeat (first | (first | refine w_nm 0 ?_ | refine w_nm 1 ?_ | refine w_nm 2 ?_ | refine w_nm 3 ?_ | refine w_nm 4 ?_ | refine w_nm 5 ?_ | refine w_nm 6 ?_ | refine w_nm 7 ?_ | refine w_nm 8 ?_ | refine w_nm 9 ?_ | refine w_nm 10 ?_ | refine w_nm 11 ?_ | refine w_nm 12 ?_ | refine w_nm 13 ?_) | refine w_int ?_ | refine wa_cons ?_))
      have hy : (rng n)[sp.toNat]? = some ((sp.toNat : Nat) : Int) := rng_get (by omega)
      refine wa_nil ⟨_, hj, sp.toNat, .int sp, by rw [Int.toNat_of_nonneg sp0], by omega, by rw [List.getElem?_map, hy]; simp; omega, ?_⟩
      rw [erase_map]
      have e1 : (cs.set k s4 ++ more).set j (((rng n).eraseIdx sp.toNat).map D.int) = cs.set k s4 ++ more.set (j - cs.length) (((rng n).eraseIdx sp.toNat).map D.int) := by
        rw [List.set_append_right _ _ (by simpa using hjl), List.length_set]
      exact ⟨_, _, rfl, e1, List.getElem?_set_self (List.getElem?_eq_some_iff.mp hj).1, drps_all h2 sp0 sp1⟩
    · rw [decide_eq_false z]
      have := in_len hv (pw_nd pw)
      exact wss_nil ⟨more, fs, rfl, rfl, hj, drps_of hv hne pw (by omega)⟩
  subst eρ ec
  refine wss_one (ws_ret ?_)
  (first | refine w_nm 0 ?_ | refine w_nm 1 ?_ | refine w_nm 2 ?_ | refine w_nm 3 ?_ | refine w_nm 4 ?_ | refine w_nm 5 ?_ | refine w_nm 6 ?_ | refine w_nm 7 ?_ | refine w_nm 8 ?_ | refine w_nm 9 ?_ | refine w_nm 10 ?_ | refine w_nm 11 ?_ | refine w_nm 12 ?_ | refine w_nm 13 ?_)
  refine ⟨j, _, _, rfl, hjl, hj, resL_ints _, hb.lowSet hs4, ?_⟩
  rw [take_set]
  exact hp fs s4 Df (hs4.mono (by omega))
theorem gap_b {n i j : Int} (hn : 0 < n) : 1 ≤ gapZ n i j ∧ gapZ n i j ≤ n := by
  have b0 := Int.emod_nonneg (j - i - 1) (show n ≠ 0 by omega)
  have b1 := Int.emod_lt_of_pos (j - i - 1) hn
  unfold gapZ
  omega
theorem gap_to {n i j : Int} (h0 : 0 ≤ j) (hj : j < n) : (i + gapZ n i j) % n = j := by
  unfold gapZ
  rw [show i + ((j - i - 1) % n + 1) = (i + 1) + (j - i - 1) % n by omega, Int.add_emod_emod, show i + 1 + (j - i - 1) = j by omega, Int.emod_eq_of_lt h0 hj]
theorem gap_of {n i f : Int} (h1 : 1 ≤ f) (hf : f ≤ n) : gapZ n i ((i + f) % n) = f := by
  unfold gapZ
  rw [show (i + f) % n - i - 1 = (i + f) % n - (i + 1) by omega, Int.emod_sub_emod, show i + f - (i + 1) = f - 1 by omega, Int.emod_eq_of_lt (by omega) (by omega)]
  omega
abbrev s__law_away : Stmt := topS 34
abbrev n__law_away : List Str := ["size", "here", "there", "found"]
theorem c__law_away : FnScope n__law_away ["size", "here", "there"] (defScope s__law_away) := ⟨rfl, rfl, rfl, by decide +kernel, rfl, by decide +kernel, by decide +kernel⟩
def g_away : GD := fun ds cs P => ∃ n i j : Int, ds = [.int n, .int i, .int j] ∧ 0 < n ∧ n ≤ 60 ∧ 0 ≤ j ∧ j < n ∧ P (.int (gapZ n i j)) cs
theorem ok_away (F : FnP K "_law_away" s__law_away f fd) : FnG P w K mg base CX0 1 f fd ["size", "here", "there"] (spD g_away) := by
  refine fnD F c__law_away (fun ds cs P ⟨n, i, j, e, _⟩ => by rw [e]; rfl) fun cdv A outer s0 H E hr ds cs P' ⟨n, i, j, e, h0, h60, hj0, hj1, hp⟩ hb => ?_
  subst e
  have gb := gap_b (n := n) (i := i) (j := j) h0
  refine wss_cons (ws_set 3 (w_int ?_) c__law_away.nd)
  refine wss_cons (ws_while (hp := PassesOwn.never) (fun u ρ' cs' => ∃ f : Nat, ρ' = [some (.int n), some (.int i), some (.int j), some (.int (f : Nat))] ∧ cs' = cs ∧ 1 ≤ f ∧ (f : Int) ≤ gapZ n i j ∧ u = (gapZ n i j).toNat - f) ⟨_, 1, rfl, rfl, Nat.le_refl _, gb.1, rfl⟩ fun u ρ' cs' ⟨f, eρ, ec, f1, f2, eu⟩ => ?_)
  subst eρ ec
  refine wt_ne hr.units (w_mod (w_add ?_))
  (first | refine w_nm 0 ?_ | refine w_nm 1 ?_ | refine w_nm 2 ?_ | refine w_nm 3 ?_ | refine w_nm 4 ?_ | refine w_nm 5 ?_ | refine w_nm 6 ?_ | refine w_nm 7 ?_ | refine w_nm 8 ?_ | refine w_nm 9 ?_ | refine w_nm 10 ?_ | refine w_nm 11 ?_ | refine w_nm 12 ?_ | refine w_nm 13 ?_); (first | refine w_nm 0 ?_ | refine w_nm 1 ?_ | refine w_nm 2 ?_ | refine w_nm 3 ?_ | refine w_nm 4 ?_ | refine w_nm 5 ?_ | refine w_nm 6 ?_ | refine w_nm 7 ?_ | refine w_nm 8 ?_ | refine w_nm 9 ?_ | refine w_nm 10 ?_ | refine w_nm 11 ?_ | refine w_nm 12 ?_ | refine w_nm 13 ?_); refine ⟨_, _, rfl, rfl, ?_⟩
  (first | refine w_nm 0 ?_ | refine w_nm 1 ?_ | refine w_nm 2 ?_ | refine w_nm 3 ?_ | refine w_nm 4 ?_ | refine w_nm 5 ?_ | refine w_nm 6 ?_ | refine w_nm 7 ?_ | refine w_nm 8 ?_ | refine w_nm 9 ?_ | refine w_nm 10 ?_ | refine w_nm 11 ?_ | refine w_nm 12 ?_ | refine w_nm 13 ?_)
  refine ⟨_, _, rfl, rfl, h0, ?_⟩
  (first | refine w_nm 0 ?_ | refine w_nm 1 ?_ | refine w_nm 2 ?_ | refine w_nm 3 ?_ | refine w_nm 4 ?_ | refine w_nm 5 ?_ | refine w_nm 6 ?_ | refine w_nm 7 ?_ | refine w_nm 8 ?_ | refine w_nm 9 ?_ | refine w_nm 10 ?_ | refine w_nm 11 ?_ | refine w_nm 12 ?_ | refine w_nm 13 ?_)
  refine ⟨_, eqd_int, ?_⟩
  by_cases z : (i + (f : Int)) % n = j
  · rw [decide_eq_true z]
    show WSs _ _ _ _ _ _
    refine wss_one (ws_ret ?_)
    (first | refine w_nm 0 ?_ | refine w_nm 1 ?_ | refine w_nm 2 ?_ | refine w_nm 3 ?_ | refine w_nm 4 ?_ | refine w_nm 5 ?_ | refine w_nm 6 ?_ | refine w_nm 7 ?_ | refine w_nm 8 ?_ | refine w_nm 9 ?_ | refine w_nm 10 ?_ | refine w_nm 11 ?_ | refine w_nm 12 ?_ | refine w_nm 13 ?_)
    have e := gap_of (n := n) (i := i) (f := (f : Int)) (by omega) (by omega)
    rw [z] at e
    rw [← e]
    exact .inl ⟨rfl, hp⟩
  · rw [decide_eq_false z]
    show WSs _ _ _ _ _ _
    have ne : (f : Int) ≠ gapZ n i j := fun e => z (by rw [e]; exact gap_to hj0 hj1)
    refine wss_one (ws_set 3 (w_add ?_) c__law_away.nd)
    (first | refine w_nm 0 ?_ | refine w_nm 1 ?_ | refine w_nm 2 ?_ | refine w_nm 3 ?_ | refine w_nm 4 ?_ | refine w_nm 5 ?_ | refine w_nm 6 ?_ | refine w_nm 7 ?_ | refine w_nm 8 ?_ | refine w_nm 9 ?_ | refine w_nm 10 ?_ | refine w_nm 11 ?_ | refine w_nm 12 ?_ | refine w_nm 13 ?_)
    refine w_int ⟨_, _, rfl, rfl, u - 1, by omega, f + 1, rfl, rfl, by omega, by omega, by omega⟩
theorem full_iff {n : Int} {ks : List Int} (h0 : 0 ≤ n) (nd : ks.Nodup) (h : ∀ v ∈ ks, 0 ≤ v ∧ v < n) : ks.length = n.toNat ↔ ∀ v : Int, 0 ≤ v → v < n → v ∈ ks := by
  constructor
  · intro e v v0 v1
    refine Classical.byContradiction fun z => ?_
    have := in_len (n := n) (fs := v :: ks) (fun u hu => (List.mem_cons.mp hu).elim (fun e => by rw [e]; exact ⟨v0, v1⟩) (h u)) (List.nodup_cons.mpr ⟨z, nd⟩)
    rw [List.length_cons] at this
    omega
  · intro a
    have h1 := in_len h nd
    have h2 : (rng n).length ≤ ks.length := (rng_nodup n).length_le_of_subset fun v hv => by
      have := rng_mem.mp hv
      exact a v this.1 this.2
    rw [rng_len] at h2
    omega
end
end K
set_option Elab.async false
set_option linter.all false
set_option maxRecDepth 100000
set_option maxHeartbeats 4100000
namespace K
open PySem PySem.Spec
open PyProof.Rows L2 Rg
section
variable {P : Program} {w : World} {K : PySem.W.Frag} {mg : Str → Option Value}
variable {base : Heap} {f : Addr} {fd : FuncData}
theorem listNoTup {d : D} (h : dList d = true) : dTup d = false := by
  cases d <;> first | rfl | cases h
abbrev s__law_same : Stmt := topS 37
abbrev n__law_same : List Str := ["found", "due", "word", "one", "two"]
theorem c__law_same : FnScope n__law_same ["found", "due"] (defScope s__law_same) := ⟨rfl, rfl, rfl, by decide +kernel, rfl, by decide +kernel, by decide +kernel⟩
/-- values that the comparison knows: None, truth values, whole numbers, texts; lists and tuples of such -/
inductive Pq : Nat → PyData → Prop
  | non {m} : Pq m .none
  | bl {m b} : Pq m (.bool b)
  | int {m i} : Pq m (.int i)
  | str {m t} : SeqAt.shaped (.str t) = true → Pq m (.str t)
  | list {m xs} : (∀ x ∈ xs, Pq m x) → xs.length < 100000 → Pq (m + 1) (.list xs)
  | tup {m xs} : (∀ x ∈ xs, Pq m x) → xs.length < 100000 → Pq (m + 1) (.tuple xs)
theorem toT {cs : Cs} {d : D} {ps : List PyData} (h : ToPy cs d (.tuple ps)) : ∃ xs, d = .tup xs ∧ ToPyL cs xs ps := by
  cases h with
  | tup l => exact ⟨_, rfl, l⟩
def g_same (m : Nat) : GD := fun ds cs P => ∃ d1 d2 p, ds = [d1, d2] ∧ ToPy cs d1 p ∧ ToPy cs d2 p ∧ Pq m p ∧ P (.bl true) cs
theorem ok_same_leaf {k : Nat} (M : Bl mg) (F : FnP K "_law_same" s__law_same f fd) (cdv : Value) (A : Around) (outer : List Env) (s0 : Shared) (H : Hp) (E : XK) (hr : Rm k (A.deeper (envOfC "_law_same" (defScope s__law_same) s0.heap.objs.size f cdv)))
    {cs : Cs} {P' : PD} {d : D} {t : String} (ht : TyD d t) (hL : dList d = false) (hT : dTup d = false) (he : EqD cs d d true) (hp : P' (.bl true) cs) :
    WSs (Bx P w K mg base n__law_same "_law_same" s__law_same f cdv A outer s0 H E) cs.length (defBody s__law_same) { nx := fun _ cs' => Shut cs.length P' .non cs', rt := Shut cs.length P' } (startD n__law_same [d, d]) cs := by
  refine wss_cons (ws_if (wt_val (w_isi M.isinstance (wa_cons ?_))))
  (first | refine w_nm 0 ?_ | refine w_nm 1 ?_ | refine w_nm 2 ?_ | refine w_nm 3 ?_ | refine w_nm 4 ?_ | refine w_nm 5 ?_ | refine w_nm 6 ?_ | refine w_nm 7 ?_ | refine w_nm 8 ?_ | refine w_nm 9 ?_ | refine w_nm 10 ?_ | refine w_nm 11 ?_ | refine w_nm 12 ?_ | refine w_nm 13 ?_)
  refine wa_cons (w_gty M.dict (by decide +kernel) (wa_nil ⟨d, "dict", t, _, rfl, ht, kitDi ht, _, rfl, ?_⟩))
  rw [show dDict d = false from let ⟨_, _, h1, _⟩ := he; noDict h1]
  refine wss_nil (wss_cons (ws_if (wt_val (w_isiT (n1 := "list") (n2 := "tuple") M.isinstance (wa_cons ?_)))))
  (first | refine w_nm 0 ?_ | refine w_nm 1 ?_ | refine w_nm 2 ?_ | refine w_nm 3 ?_ | refine w_nm 4 ?_ | refine w_nm 5 ?_ | refine w_nm 6 ?_ | refine w_nm 7 ?_ | refine w_nm 8 ?_ | refine w_nm 9 ?_ | refine w_nm 10 ?_ | refine w_nm 11 ?_ | refine w_nm 12 ?_ | refine w_nm 13 ?_)
  refine wa_cons (w_tup (wa_cons (w_gty M.list (by decide +kernel) (wa_cons (w_gty M.tuple (by decide +kernel) (wa_nil ⟨by decide, wa_nil ⟨d, "list", "tuple", t, _, _, rfl, ht, kitLi ht, kitTu ht, _, rfl, ?_⟩⟩))))))
  rw [hL, hT]
  refine wss_nil (wss_cons (ws_if (wt_bool (ww_or (wt_isN ?_)))))
  (first | refine w_nm 0 ?_ | refine w_nm 1 ?_ | refine w_nm 2 ?_ | refine w_nm 3 ?_ | refine w_nm 4 ?_ | refine w_nm 5 ?_ | refine w_nm 6 ?_ | refine w_nm 7 ?_ | refine w_nm 8 ?_ | refine w_nm 9 ?_ | refine w_nm 10 ?_ | refine w_nm 11 ?_ | refine w_nm 12 ?_ | refine w_nm 13 ?_)
  by_cases hn : d = .non
  · subst hn
    refine ⟨true, by simp, ?_⟩
    rw [if_pos rfl]
    refine wss_one (ws_ret (w_and (w_isN ?_)))
    (first | refine w_nm 0 ?_ | refine w_nm 1 ?_ | refine w_nm 2 ?_ | refine w_nm 3 ?_ | refine w_nm 4 ?_ | refine w_nm 5 ?_ | refine w_nm 6 ?_ | refine w_nm 7 ?_ | refine w_nm 8 ?_ | refine w_nm 9 ?_ | refine w_nm 10 ?_ | refine w_nm 11 ?_ | refine w_nm 12 ?_ | refine w_nm 13 ?_)
    refine ⟨true, by simp, _, rfl, ?_⟩
    rw [if_pos rfl]
    refine w_one (w_isN ?_)
    (first | refine w_nm 0 ?_ | refine w_nm 1 ?_ | refine w_nm 2 ?_ | refine w_nm 3 ?_ | refine w_nm 4 ?_ | refine w_nm 5 ?_ | refine w_nm 6 ?_ | refine w_nm 7 ?_ | refine w_nm 8 ?_ | refine w_nm 9 ?_ | refine w_nm 10 ?_ | refine w_nm 11 ?_ | refine w_nm 12 ?_ | refine w_nm 13 ?_)
    exact ⟨true, by simp, .inl ⟨rfl, hp⟩⟩
  refine ⟨false, by simp [hn], ?_⟩
  rw [if_neg (Bool.false_ne_true)]
  refine ww_or1 (wt_isN ?_)
  (first | refine w_nm 0 ?_ | refine w_nm 1 ?_ | refine w_nm 2 ?_ | refine w_nm 3 ?_ | refine w_nm 4 ?_ | refine w_nm 5 ?_ | refine w_nm 6 ?_ | refine w_nm 7 ?_ | refine w_nm 8 ?_ | refine w_nm 9 ?_ | refine w_nm 10 ?_ | refine w_nm 11 ?_ | refine w_nm 12 ?_ | refine w_nm 13 ?_)
  refine ⟨false, by simp [hn], ?_⟩
  refine wss_nil (wss_cons (ws_if (wt_bool (ww_or (wt_ne hr.units (w_isi M.isinstance (wa_cons ?_)))))))
  (first | refine w_nm 0 ?_ | refine w_nm 1 ?_ | refine w_nm 2 ?_ | refine w_nm 3 ?_ | refine w_nm 4 ?_ | refine w_nm 5 ?_ | refine w_nm 6 ?_ | refine w_nm 7 ?_ | refine w_nm 8 ?_ | refine w_nm 9 ?_ | refine w_nm 10 ?_ | refine w_nm 11 ?_ | refine w_nm 12 ?_ | refine w_nm 13 ?_)
  refine wa_cons (w_gty M.bool (by decide +kernel) (wa_nil ⟨d, _, t, _, rfl, ht, kitBo ht, w_isi M.isinstance (wa_cons ?_)⟩))
  (first | refine w_nm 0 ?_ | refine w_nm 1 ?_ | refine w_nm 2 ?_ | refine w_nm 3 ?_ | refine w_nm 4 ?_ | refine w_nm 5 ?_ | refine w_nm 6 ?_ | refine w_nm 7 ?_ | refine w_nm 8 ?_ | refine w_nm 9 ?_ | refine w_nm 10 ?_ | refine w_nm 11 ?_ | refine w_nm 12 ?_ | refine w_nm 13 ?_)
  refine wa_cons (w_gty M.bool (by decide +kernel) (wa_nil ⟨d, _, t, _, rfl, ht, kitBo ht, _, eqd_bl, ?_⟩))
  rw [show (!(dBool d == dBool d)) = false by simp, if_neg Bool.false_ne_true]
  refine ww_or1 (wt_ne hr.units (w_isi M.isinstance (wa_cons ?_)))
  (first | refine w_nm 0 ?_ | refine w_nm 1 ?_ | refine w_nm 2 ?_ | refine w_nm 3 ?_ | refine w_nm 4 ?_ | refine w_nm 5 ?_ | refine w_nm 6 ?_ | refine w_nm 7 ?_ | refine w_nm 8 ?_ | refine w_nm 9 ?_ | refine w_nm 10 ?_ | refine w_nm 11 ?_ | refine w_nm 12 ?_ | refine w_nm 13 ?_)
  refine wa_cons (w_gty M.str (by decide +kernel) (wa_nil ⟨d, _, t, _, rfl, ht, kitSt ht, w_isi M.isinstance (wa_cons ?_)⟩))
  (first | refine w_nm 0 ?_ | refine w_nm 1 ?_ | refine w_nm 2 ?_ | refine w_nm 3 ?_ | refine w_nm 4 ?_ | refine w_nm 5 ?_ | refine w_nm 6 ?_ | refine w_nm 7 ?_ | refine w_nm 8 ?_ | refine w_nm 9 ?_ | refine w_nm 10 ?_ | refine w_nm 11 ?_ | refine w_nm 12 ?_ | refine w_nm 13 ?_)
  refine wa_cons (w_gty M.str (by decide +kernel) (wa_nil ⟨d, _, t, _, rfl, ht, kitSt ht, _, eqd_bl, ?_⟩))
  rw [show (!(dStr d == dStr d)) = false by simp, if_neg Bool.false_ne_true]
  refine wss_nil (wss_one (ws_ret (w_eq hr.units ?_)))
  (first | refine w_nm 0 ?_ | refine w_nm 1 ?_ | refine w_nm 2 ?_ | refine w_nm 3 ?_ | refine w_nm 4 ?_ | refine w_nm 5 ?_ | refine w_nm 6 ?_ | refine w_nm 7 ?_ | refine w_nm 8 ?_ | refine w_nm 9 ?_ | refine w_nm 10 ?_ | refine w_nm 11 ?_ | refine w_nm 12 ?_ | refine w_nm 13 ?_)
  (first | refine w_nm 0 ?_ | refine w_nm 1 ?_ | refine w_nm 2 ?_ | refine w_nm 3 ?_ | refine w_nm 4 ?_ | refine w_nm 5 ?_ | refine w_nm 6 ?_ | refine w_nm 7 ?_ | refine w_nm 8 ?_ | refine w_nm 9 ?_ | refine w_nm 10 ?_ | refine w_nm 11 ?_ | refine w_nm 12 ?_ | refine w_nm 13 ?_)
  exact ⟨true, he, .inl ⟨rfl, hp⟩⟩
theorem ok_same (M : Bl mg) (F : FnP K "_law_same" s__law_same f fd) (hmg : mg "_law_same" = some (.ref f)) (hbi : Binds K fd ["found", "due"] []) : ∀ m, FnG P w K mg base CX0 (m + 1) f fd ["found", "due"] (spD (g_same m))
  | 0 => by
    refine fnD F c__law_same (fun ds cs P ⟨d1, d2, p, e, _⟩ => by rw [e]; rfl) fun cdv A outer s0 H E hr ds cs P' ⟨d1, d2, p, e, h1, h2, hpl, hp⟩ hb => ?_
    subst e
    cases hpl with
    | non => cases h1; cases h2; exact ok_same_leaf M F cdv A outer s0 H E hr .non rfl rfl ⟨_, _, .non, .non, rfl, rfl, rfl⟩ hp
    | bl => cases h1; cases h2; exact ok_same_leaf M F cdv A outer s0 H E hr .bl rfl rfl ⟨_, _, .bl, .bl, rfl, rfl, by simp [PyData.eqv]⟩ hp
    | int => cases h1; cases h2; exact ok_same_leaf M F cdv A outer s0 H E hr .int rfl rfl ⟨_, _, .int, .int, rfl, rfl, by simp [PyData.eqv]⟩ hp
    | str hsh => cases h1; cases h2; exact ok_same_leaf M F cdv A outer s0 H E hr .str rfl rfl ⟨_, _, .str, .str, hsh, hsh, by simp [PyData.eqv]⟩ hp
  | m + 1 => by
    have IH := ok_same M F hmg hbi m
    refine fnD F c__law_same (fun ds cs P ⟨d1, d2, p, e, _⟩ => by rw [e]; rfl) fun cdv A outer s0 H E hr ds cs P' ⟨d1, d2, p, e, h1, h2, hpl, hp⟩ hb => ?_
    subst e
    cases hpl with
    | non => cases h1; cases h2; exact ok_same_leaf M F cdv A outer s0 H E hr .non rfl rfl ⟨_, _, .non, .non, rfl, rfl, rfl⟩ hp
    | bl => cases h1; cases h2; exact ok_same_leaf M F cdv A outer s0 H E hr .bl rfl rfl ⟨_, _, .bl, .bl, rfl, rfl, by simp [PyData.eqv]⟩ hp
    | int => cases h1; cases h2; exact ok_same_leaf M F cdv A outer s0 H E hr .int rfl rfl ⟨_, _, .int, .int, rfl, rfl, by simp [PyData.eqv]⟩ hp
    | str hsh => cases h1; cases h2; exact ok_same_leaf M F cdv A outer s0 H E hr .str rfl rfl ⟨_, _, .str, .str, hsh, hsh, by simp [PyData.eqv]⟩ hp
    | @list _ ps hall hlen =>
      obtain ⟨xs, hx, lx, dx⟩ := toL h1
      obtain ⟨ys, hy, ly, dy⟩ := toL h2
      have GS : FnD P w K mg base (m + 1) "_law_same" ["found", "due"] (spD (g_same m)) := ⟨f, fd, hmg, IH, F.kp, hbi⟩
      have t1 := tyL dx
      have t2 := tyL dy
      have u1 := listNoTup dx
      have u2 := listNoTup dy
      refine wss_cons (ws_if (wt_val (w_isi M.isinstance (wa_cons ?_))))
      (first | refine w_nm 0 ?_ | refine w_nm 1 ?_ | refine w_nm 2 ?_ | refine w_nm 3 ?_ | refine w_nm 4 ?_ | refine w_nm 5 ?_ | refine w_nm 6 ?_ | refine w_nm 7 ?_ | refine w_nm 8 ?_ | refine w_nm 9 ?_ | refine w_nm 10 ?_ | refine w_nm 11 ?_ | refine w_nm 12 ?_ | refine w_nm 13 ?_)
      refine wa_cons (w_gty M.dict (by decide +kernel) (wa_nil ⟨d2, "dict", _, _, rfl, t2, kitDi t2, _, rfl, ?_⟩))
      rw [noDict h2]
      refine wss_nil (wss_cons (ws_if (wt_val (w_isiT (n1 := "list") (n2 := "tuple") M.isinstance (wa_cons ?_)))))
      (first | refine w_nm 0 ?_ | refine w_nm 1 ?_ | refine w_nm 2 ?_ | refine w_nm 3 ?_ | refine w_nm 4 ?_ | refine w_nm 5 ?_ | refine w_nm 6 ?_ | refine w_nm 7 ?_ | refine w_nm 8 ?_ | refine w_nm 9 ?_ | refine w_nm 10 ?_ | refine w_nm 11 ?_ | refine w_nm 12 ?_ | refine w_nm 13 ?_)
      refine wa_cons (w_tup (wa_cons (w_gty M.list (by decide +kernel) (wa_cons (w_gty M.tuple (by decide +kernel) (wa_nil ⟨by decide, wa_nil ⟨d2, "list", "tuple", _, _, _, rfl, t2, kitLi t2, kitTu t2, _, rfl, ?_⟩⟩))))))
      rw [dy, Bool.true_or]
      refine wss_cons (ws_if (wt_bool (ww_or (wt_ne hr.units (w_isi M.isinstance (wa_cons ?_))))))
      (first | refine w_nm 0 ?_ | refine w_nm 1 ?_ | refine w_nm 2 ?_ | refine w_nm 3 ?_ | refine w_nm 4 ?_ | refine w_nm 5 ?_ | refine w_nm 6 ?_ | refine w_nm 7 ?_ | refine w_nm 8 ?_ | refine w_nm 9 ?_ | refine w_nm 10 ?_ | refine w_nm 11 ?_ | refine w_nm 12 ?_ | refine w_nm 13 ?_)
      refine wa_cons (w_gty M.list (by decide +kernel) (wa_nil ⟨d1, _, _, _, rfl, t1, kitLi t1, w_isi M.isinstance (wa_cons ?_)⟩))
      (first | refine w_nm 0 ?_ | refine w_nm 1 ?_ | refine w_nm 2 ?_ | refine w_nm 3 ?_ | refine w_nm 4 ?_ | refine w_nm 5 ?_ | refine w_nm 6 ?_ | refine w_nm 7 ?_ | refine w_nm 8 ?_ | refine w_nm 9 ?_ | refine w_nm 10 ?_ | refine w_nm 11 ?_ | refine w_nm 12 ?_ | refine w_nm 13 ?_)
      refine wa_cons (w_gty M.list (by decide +kernel) (wa_nil ⟨d2, _, _, _, rfl, t2, kitLi t2, _, eqd_bl, ?_⟩))
      rw [dx, dy]
      refine ww_or1 (wt_ne hr.units (w_isi M.isinstance (wa_cons ?_)))
      (first | refine w_nm 0 ?_ | refine w_nm 1 ?_ | refine w_nm 2 ?_ | refine w_nm 3 ?_ | refine w_nm 4 ?_ | refine w_nm 5 ?_ | refine w_nm 6 ?_ | refine w_nm 7 ?_ | refine w_nm 8 ?_ | refine w_nm 9 ?_ | refine w_nm 10 ?_ | refine w_nm 11 ?_ | refine w_nm 12 ?_ | refine w_nm 13 ?_)
      refine wa_cons (w_gty M.tuple (by decide +kernel) (wa_nil ⟨d1, _, _, _, rfl, t1, kitTu t1, w_isi M.isinstance (wa_cons ?_)⟩))
      (first | refine w_nm 0 ?_ | refine w_nm 1 ?_ | refine w_nm 2 ?_ | refine w_nm 3 ?_ | refine w_nm 4 ?_ | refine w_nm 5 ?_ | refine w_nm 6 ?_ | refine w_nm 7 ?_ | refine w_nm 8 ?_ | refine w_nm 9 ?_ | refine w_nm 10 ?_ | refine w_nm 11 ?_ | refine w_nm 12 ?_ | refine w_nm 13 ?_)
      refine wa_cons (w_gty M.tuple (by decide +kernel) (wa_nil ⟨d2, _, _, _, rfl, t2, kitTu t2, _, eqd_bl, ?_⟩))
      rw [u1, u2]
      refine wss_nil (wss_one (ws_ret (w_and (w_eq hr.units (w_len M.len (wa_cons ?_))))))
      (first | refine w_nm 0 ?_ | refine w_nm 1 ?_ | refine w_nm 2 ?_ | refine w_nm 3 ?_ | refine w_nm 4 ?_ | refine w_nm 5 ?_ | refine w_nm 6 ?_ | refine w_nm 7 ?_ | refine w_nm 8 ?_ | refine w_nm 9 ?_ | refine w_nm 10 ?_ | refine w_nm 11 ?_ | refine w_nm 12 ?_ | refine w_nm 13 ?_)
      refine wa_nil ⟨d1, xs, rfl, hx, w_len M.len (wa_cons ?_)⟩
      (first | refine w_nm 0 ?_ | refine w_nm 1 ?_ | refine w_nm 2 ?_ | refine w_nm 3 ?_ | refine w_nm 4 ?_ | refine w_nm 5 ?_ | refine w_nm 6 ?_ | refine w_nm 7 ?_ | refine w_nm 8 ?_ | refine w_nm 9 ?_ | refine w_nm 10 ?_ | refine w_nm 11 ?_ | refine w_nm 12 ?_ | refine w_nm 13 ?_)
      refine wa_nil ⟨d2, ys, rfl, hy, _, eqd_int, _, rfl, ?_⟩
      have el : xs.length = ys.length := by rw [toPyL_len lx, toPyL_len ly]
      rw [el, decide_eq_true rfl, if_pos rfl]
      refine w_one (w_all rfl M.all (wa_cons (w_new (wn_lz 3 4 (by decide) rfl c__law_same.nd M.zip (blkOk_by (N := n__law_same) (sc := defScope s__law_same) (by decide +kernel)) (fun _ _ _ _ _ => pg_tup rfl (pgs_cons (pg_name c__law_same.nd rfl (.inl rfl)) (pgs_cons (pg_name c__law_same.nd rfl (.inl rfl)) pgs_nil))) (wa_cons ?_)))))
      (first | refine w_nm 0 ?_ | refine w_nm 1 ?_ | refine w_nm 2 ?_ | refine w_nm 3 ?_ | refine w_nm 4 ?_ | refine w_nm 5 ?_ | refine w_nm 6 ?_ | refine w_nm 7 ?_ | refine w_nm 8 ?_ | refine w_nm 9 ?_ | refine w_nm 10 ?_ | refine w_nm 11 ?_ | refine w_nm 12 ?_ | refine w_nm 13 ?_)
      refine wa_cons ?_
      (first | refine w_nm 0 ?_ | refine w_nm 1 ?_ | refine w_nm 2 ?_ | refine w_nm 3 ?_ | refine w_nm 4 ?_ | refine w_nm 5 ?_ | refine w_nm 6 ?_ | refine w_nm 7 ?_ | refine w_nm 8 ?_ | refine w_nm 9 ?_ | refine w_nm 10 ?_ | refine w_nm 11 ?_ | refine w_nm 12 ?_ | refine w_nm 13 ?_)
      refine wa_nil ⟨d1, d2, xs, ys, fun j acc cs' => cs' = cs ∧ j ≤ ys.length ∧ acc = (List.replicate j true).map D.bl, rfl, ⟨rfl, Nat.zero_le _, rfl⟩, fun j acc cs' ⟨e, hj, ea⟩ => ⟨by rw [e]; exact hx, by rw [e]; exact hy, by rw [ea]; simp; have := toPyL_len ly; omega⟩, fun j x y acc cs' hxj hyj ⟨e, hj, ea⟩ => tno ?_, fun acc cs' ⟨e, hj, ea⟩ => ?_⟩
      · intro s1 H1 C cl fp
        subst e
        obtain ⟨p1, hp1, tp1⟩ := toPyL_get lx hxj
        obtain ⟨p2, hp2, tp2⟩ := toPyL_get ly hyj
        rw [hp1] at hp2
        cases hp2
        refine w_call GS (hr.mono (by omega)) (wa_cons ?_)
        (first | refine w_nm 0 ?_ | refine w_nm 1 ?_ | refine w_nm 2 ?_ | refine w_nm 3 ?_ | refine w_nm 4 ?_ | refine w_nm 5 ?_ | refine w_nm 6 ?_ | refine w_nm 7 ?_ | refine w_nm 8 ?_ | refine w_nm 9 ?_ | refine w_nm 10 ?_ | refine w_nm 11 ?_ | refine w_nm 12 ?_ | refine w_nm 13 ?_)
        refine wa_cons ?_
        (first | refine w_nm 0 ?_ | refine w_nm 1 ?_ | refine w_nm 2 ?_ | refine w_nm 3 ?_ | refine w_nm 4 ?_ | refine w_nm 5 ?_ | refine w_nm 6 ?_ | refine w_nm 7 ?_ | refine w_nm 8 ?_ | refine w_nm 9 ?_ | refine w_nm 10 ?_ | refine w_nm 11 ?_ | refine w_nm 12 ?_ | refine w_nm 13 ?_)
        refine wa_nil ⟨x, y, p1, rfl, tp1, tp2, hall p1 (List.mem_of_getElem? hp1), rfl, (List.getElem?_eq_some_iff.mp hyj).1, ?_⟩
        rw [ea, List.replicate_succ', List.map_append]; rfl
      · subst e
        refine wa_nil ⟨_, List.replicate ys.length true, rfl, .inl (by rw [ea, el, Nat.min_self]), .inl ⟨rfl, ?_⟩⟩
        rw [show (List.replicate ys.length true).all _root_.id = true by simp]
        exact hp
    | @tup _ ps hall hlen =>
      obtain ⟨xs, rfl, lx⟩ := toT h1
      obtain ⟨ys, rfl, ly⟩ := toT h2
      have GS : FnD P w K mg base (m + 1) "_law_same" ["found", "due"] (spD (g_same m)) := ⟨f, fd, hmg, IH, F.kp, hbi⟩
      have t1 : TyD (.tup xs) "tuple" := .tup
      have t2 : TyD (.tup ys) "tuple" := .tup
      refine wss_cons (ws_if (wt_val (w_isi M.isinstance (wa_cons ?_))))
      (first | refine w_nm 0 ?_ | refine w_nm 1 ?_ | refine w_nm 2 ?_ | refine w_nm 3 ?_ | refine w_nm 4 ?_ | refine w_nm 5 ?_ | refine w_nm 6 ?_ | refine w_nm 7 ?_ | refine w_nm 8 ?_ | refine w_nm 9 ?_ | refine w_nm 10 ?_ | refine w_nm 11 ?_ | refine w_nm 12 ?_ | refine w_nm 13 ?_)
      refine wa_cons (w_gty M.dict (by decide +kernel) (wa_nil ⟨_, "dict", _, _, rfl, t2, kitDi t2, _, rfl, ?_⟩))
      show WSs _ _ _ _ _ _
      refine wss_nil (wss_cons (ws_if (wt_val (w_isiT (n1 := "list") (n2 := "tuple") M.isinstance (wa_cons ?_)))))
      (first | refine w_nm 0 ?_ | refine w_nm 1 ?_ | refine w_nm 2 ?_ | refine w_nm 3 ?_ | refine w_nm 4 ?_ | refine w_nm 5 ?_ | refine w_nm 6 ?_ | refine w_nm 7 ?_ | refine w_nm 8 ?_ | refine w_nm 9 ?_ | refine w_nm 10 ?_ | refine w_nm 11 ?_ | refine w_nm 12 ?_ | refine w_nm 13 ?_)
      refine wa_cons (w_tup (wa_cons (w_gty M.list (by decide +kernel) (wa_cons (w_gty M.tuple (by decide +kernel) (wa_nil ⟨by decide, wa_nil ⟨_, "list", "tuple", _, _, _, rfl, t2, kitLi t2, kitTu t2, _, rfl, ?_⟩⟩))))))
      show WSs _ _ _ _ _ _
      refine wss_cons (ws_if (wt_bool (ww_or (wt_ne hr.units (w_isi M.isinstance (wa_cons ?_))))))
      (first | refine w_nm 0 ?_ | refine w_nm 1 ?_ | refine w_nm 2 ?_ | refine w_nm 3 ?_ | refine w_nm 4 ?_ | refine w_nm 5 ?_ | refine w_nm 6 ?_ | refine w_nm 7 ?_ | refine w_nm 8 ?_ | refine w_nm 9 ?_ | refine w_nm 10 ?_ | refine w_nm 11 ?_ | refine w_nm 12 ?_ | refine w_nm 13 ?_)
      refine wa_cons (w_gty M.list (by decide +kernel) (wa_nil ⟨_, _, _, _, rfl, t1, kitLi t1, w_isi M.isinstance (wa_cons ?_)⟩))
      (first | refine w_nm 0 ?_ | refine w_nm 1 ?_ | refine w_nm 2 ?_ | refine w_nm 3 ?_ | refine w_nm 4 ?_ | refine w_nm 5 ?_ | refine w_nm 6 ?_ | refine w_nm 7 ?_ | refine w_nm 8 ?_ | refine w_nm 9 ?_ | refine w_nm 10 ?_ | refine w_nm 11 ?_ | refine w_nm 12 ?_ | refine w_nm 13 ?_)
      refine wa_cons (w_gty M.list (by decide +kernel) (wa_nil ⟨_, _, _, _, rfl, t2, kitLi t2, _, eqd_bl, ?_⟩))
      show WW _ _ _ _ _
      refine ww_or1 (wt_ne hr.units (w_isi M.isinstance (wa_cons ?_)))
      (first | refine w_nm 0 ?_ | refine w_nm 1 ?_ | refine w_nm 2 ?_ | refine w_nm 3 ?_ | refine w_nm 4 ?_ | refine w_nm 5 ?_ | refine w_nm 6 ?_ | refine w_nm 7 ?_ | refine w_nm 8 ?_ | refine w_nm 9 ?_ | refine w_nm 10 ?_ | refine w_nm 11 ?_ | refine w_nm 12 ?_ | refine w_nm 13 ?_)
      refine wa_cons (w_gty M.tuple (by decide +kernel) (wa_nil ⟨_, _, _, _, rfl, t1, kitTu t1, w_isi M.isinstance (wa_cons ?_)⟩))
      (first | refine w_nm 0 ?_ | refine w_nm 1 ?_ | refine w_nm 2 ?_ | refine w_nm 3 ?_ | refine w_nm 4 ?_ | refine w_nm 5 ?_ | refine w_nm 6 ?_ | refine w_nm 7 ?_ | refine w_nm 8 ?_ | refine w_nm 9 ?_ | refine w_nm 10 ?_ | refine w_nm 11 ?_ | refine w_nm 12 ?_ | refine w_nm 13 ?_)
      refine wa_cons (w_gty M.tuple (by decide +kernel) (wa_nil ⟨_, _, _, _, rfl, t2, kitTu t2, _, eqd_bl, ?_⟩))
      show WSs _ _ _ _ _ _
      refine wss_nil (wss_one (ws_ret (w_and (w_eq hr.units (w_lenT M.len (wa_cons ?_))))))
      (first | refine w_nm 0 ?_ | refine w_nm 1 ?_ | refine w_nm 2 ?_ | refine w_nm 3 ?_ | refine w_nm 4 ?_ | refine w_nm 5 ?_ | refine w_nm 6 ?_ | refine w_nm 7 ?_ | refine w_nm 8 ?_ | refine w_nm 9 ?_ | refine w_nm 10 ?_ | refine w_nm 11 ?_ | refine w_nm 12 ?_ | refine w_nm 13 ?_)
      refine wa_nil ⟨xs, rfl, w_lenT M.len (wa_cons ?_)⟩
      (first | refine w_nm 0 ?_ | refine w_nm 1 ?_ | refine w_nm 2 ?_ | refine w_nm 3 ?_ | refine w_nm 4 ?_ | refine w_nm 5 ?_ | refine w_nm 6 ?_ | refine w_nm 7 ?_ | refine w_nm 8 ?_ | refine w_nm 9 ?_ | refine w_nm 10 ?_ | refine w_nm 11 ?_ | refine w_nm 12 ?_ | refine w_nm 13 ?_)
      refine wa_nil ⟨ys, rfl, _, eqd_int, _, rfl, ?_⟩
      have el : xs.length = ys.length := by rw [toPyL_len lx, toPyL_len ly]
      rw [el, decide_eq_true rfl, if_pos rfl]
      refine w_one (w_all rfl M.all (wa_cons (w_new (wn_lzT 3 4 (by decide) rfl c__law_same.nd M.zip (blkOk_by (N := n__law_same) (sc := defScope s__law_same) (by decide +kernel)) (fun _ _ _ _ _ => pg_tup rfl (pgs_cons (pg_name c__law_same.nd rfl (.inl rfl)) (pgs_cons (pg_name c__law_same.nd rfl (.inl rfl)) pgs_nil))) (wa_cons ?_)))))
      (first | refine w_nm 0 ?_ | refine w_nm 1 ?_ | refine w_nm 2 ?_ | refine w_nm 3 ?_ | refine w_nm 4 ?_ | refine w_nm 5 ?_ | refine w_nm 6 ?_ | refine w_nm 7 ?_ | refine w_nm 8 ?_ | refine w_nm 9 ?_ | refine w_nm 10 ?_ | refine w_nm 11 ?_ | refine w_nm 12 ?_ | refine w_nm 13 ?_)
      refine wa_cons ?_
      (first | refine w_nm 0 ?_ | refine w_nm 1 ?_ | refine w_nm 2 ?_ | refine w_nm 3 ?_ | refine w_nm 4 ?_ | refine w_nm 5 ?_ | refine w_nm 6 ?_ | refine w_nm 7 ?_ | refine w_nm 8 ?_ | refine w_nm 9 ?_ | refine w_nm 10 ?_ | refine w_nm 11 ?_ | refine w_nm 12 ?_ | refine w_nm 13 ?_)
      refine wa_nil ⟨xs, ys, fun j acc cs' => cs' = cs ∧ j ≤ ys.length ∧ acc = (List.replicate j true).map D.bl, rfl, ⟨rfl, Nat.zero_le _, rfl⟩, fun j acc cs' ⟨e, hj, ea⟩ => by rw [ea]; simp; have := toPyL_len ly; omega, fun j x y acc cs' hxj hyj ⟨e, hj, ea⟩ => ?_, fun acc cs' ⟨e, hj, ea⟩ => ?_⟩
      · intro s1 H1 C cl fp
        subst e
        obtain ⟨p1, hp1, tp1⟩ := toPyL_get lx hxj
        obtain ⟨p2, hp2, tp2⟩ := toPyL_get ly hyj
        rw [hp1] at hp2
        cases hp2
        refine w_call GS (hr.mono (by omega)) (wa_cons ?_)
        (first | refine w_nm 0 ?_ | refine w_nm 1 ?_ | refine w_nm 2 ?_ | refine w_nm 3 ?_ | refine w_nm 4 ?_ | refine w_nm 5 ?_ | refine w_nm 6 ?_ | refine w_nm 7 ?_ | refine w_nm 8 ?_ | refine w_nm 9 ?_ | refine w_nm 10 ?_ | refine w_nm 11 ?_ | refine w_nm 12 ?_ | refine w_nm 13 ?_)
        refine wa_cons ?_
        (first | refine w_nm 0 ?_ | refine w_nm 1 ?_ | refine w_nm 2 ?_ | refine w_nm 3 ?_ | refine w_nm 4 ?_ | refine w_nm 5 ?_ | refine w_nm 6 ?_ | refine w_nm 7 ?_ | refine w_nm 8 ?_ | refine w_nm 9 ?_ | refine w_nm 10 ?_ | refine w_nm 11 ?_ | refine w_nm 12 ?_ | refine w_nm 13 ?_)
        refine wa_nil ⟨x, y, p1, rfl, tp1, tp2, hall p1 (List.mem_of_getElem? hp1), rfl, (List.getElem?_eq_some_iff.mp hyj).1, ?_⟩
        rw [ea, List.replicate_succ', List.map_append]; rfl
      · subst e
        refine wa_nil ⟨_, List.replicate ys.length true, rfl, .inl (by rw [ea, el, Nat.min_self]), .inl ⟨rfl, ?_⟩⟩
        rw [show (List.replicate ys.length true).all _root_.id = true by simp]
        exact hp
/-! ### is_conflict of anything -/
theorem kitTNo {d : D} {t : String} (h : TyD d t) (hd : dTup d = false) : kitB t "tuple" = some false := by rw [kitTu h, hd]
def pasX (n : Int) (o : List (Option Int)) : D → D → Bool
  | .int i, .int k => pasB n o i.toNat k.toNat
  | _, _ => false
/-- a tuple that is not ("all",) -/
def NotAll (cs : Cs) (t : D) : Prop := EqD cs t (.tup [.str "all"]) false ∨ ∃ x0 xs, t = .tup (x0 :: xs) ∧ ((∃ p, ToPy cs x0 p ∧ SeqAt.shaped p = true ∧ SeqAt.shaped (.str "all") = true ∧ PyData.eqv p (.str "all") = false) ∨ ∃ ks ys, x0 = .dct ks ys)
def ConfX (cs : Cs) (n : Int) (o : List (Option Int)) (t : D) (b : Bool) : Prop :=
  (dTup t = false ∧ (∃ ty, TyD t ty) ∧ b = false) ∨
  (t = .tup [.str "all"] ∧ (b = true ↔ ∀ v : Int, 0 ≤ v → v < n → some v ∈ o)) ∨
  (∃ ts, t = .tup ts ∧ NotAll cs t ∧ ((ts.length ≠ 3 ∧ b = false) ∨ (∃ x0 x1 x2, ts = [x0, x1, x2] ∧ ((EqD cs x0 (.str "passed") false ∧ b = false) ∨ (x0 = .str "passed" ∧ (∃ t1, TyD x1 t1) ∧ (∃ t2, TyD x2 t2) ∧ b = (srvB n x1 && (srvB n x2 && pasX n o x1 x2)))))))
abbrev s_is_conflict : Stmt := topS 19
abbrev n_is_conflict : List Str := ["n", "seen", "thing", "_", "i", "k", "j"]
theorem c_is_conflict : FnScope n_is_conflict ["n", "seen", "thing"] (defScope s_is_conflict) := ⟨rfl, rfl, rfl, by decide +kernel, rfl, by decide +kernel, by decide +kernel⟩
def g_isconfX : GD := fun ds cs P => ∃ (n : Int) (d t : D) (o : List (Option Int)) (b : Bool), ds = [.int n, d, t] ∧ LstD cs d (seenD o) ∧ Obs n o ∧ ConfX cs n o t b ∧ P (.bl b) cs
theorem eqd_allX {cs : Cs} : EqD cs (.tup [.str "all"]) (.tup [.str "all"]) true := ⟨_, _, .tup (.cons .str .nil), .tup (.cons .str .nil), by decide +kernel, by decide +kernel, by decide +kernel⟩
theorem eqd_passed {cs : Cs} : EqD cs (.str "passed") (.str "passed") true := ⟨_, _, .str, .str, by decide +kernel, by decide +kernel, by decide +kernel⟩
theorem ok_isconfX (M : Bl mg) (GSv : FnD P w K mg base 1 "is_server" ["n", "thing"] (spD g_is_server)) (GP : FnD P w K mg base 2 "_passes" ["n", "seen", "i", "k"] (spD g_passO)) (F : FnP K "is_conflict" s_is_conflict f fd) : FnG P w K mg base CX0 3 f fd ["n", "seen", "thing"] (spD g_isconfX) := by
  refine fnD F c_is_conflict (fun ds cs P ⟨n, d, t, o, b, e, _⟩ => by rw [e]; rfl) fun cdv A outer s0 H E hr ds cs P' ⟨n, d, t, o, b, e, hl, ob, hw, hp⟩ hb => ?_
  subst e
  have h2 := ob.lo
  have h60 := ob.hi
  have hlen := ob.len
  refine wss_cons (ws_if (wt_not (wt_val (w_isi M.isinstance (wa_cons ?_)))))
  (first | refine w_nm 0 ?_ | refine w_nm 1 ?_ | refine w_nm 2 ?_ | refine w_nm 3 ?_ | refine w_nm 4 ?_ | refine w_nm 5 ?_ | refine w_nm 6 ?_ | refine w_nm 7 ?_ | refine w_nm 8 ?_ | refine w_nm 9 ?_ | refine w_nm 10 ?_ | refine w_nm 11 ?_ | refine w_nm 12 ?_ | refine w_nm 13 ?_)
  rcases hw with ⟨hT, ⟨ty, hty⟩, rfl⟩ | ⟨rfl, hall⟩ | ⟨ts, rfl, hna, hw⟩
  · refine wa_cons (w_gty M.tuple (by decide +kernel) (wa_nil ⟨_, _, ty, false, rfl, hty, kitTNo hty hT, _, rfl, ?_⟩))
    exact wss_one (ws_ret (w_bl (.inl ⟨rfl, hp⟩)))
  · have ht : TyD (.tup [.str "all"]) "tuple" := .tup
    refine wa_cons (w_gty M.tuple (by decide +kernel) (wa_nil ⟨_, _, _, _, rfl, ht, kitTu ht, _, rfl, ?_⟩))
    refine wss_nil (wss_cons (ws_if (wt_eq hr.units ?_)))
    (first | refine w_nm 0 ?_ | refine w_nm 1 ?_ | refine w_nm 2 ?_ | refine w_nm 3 ?_ | refine w_nm 4 ?_ | refine w_nm 5 ?_ | refine w_nm 6 ?_ | refine w_nm 7 ?_ | refine w_nm 8 ?_ | refine w_nm 9 ?_ | refine w_nm 10 ?_ | refine w_nm 11 ?_ | refine w_nm 12 ?_ | refine w_nm 13 ?_)
    refine w_tup (wa_cons (w_str (wa_nil ⟨by decide, _, eqd_allX, ?_⟩)))
    refine wss_one (ws_ret (w_eq hr.units (w_lenSetC 6 rfl c_is_conflict.nd M.len (blkOk_by (N := n_is_conflict) (sc := defScope s_is_conflict) (by decide +kernel)) (fun _ _ _ _ _ => pg_name (FnScope.nd c_is_conflict) rfl (.inl rfl)) ?_)))
    (first | refine w_nm 0 ?_ | refine w_nm 1 ?_ | refine w_nm 2 ?_ | refine w_nm 3 ?_ | refine w_nm 4 ?_ | refine w_nm 5 ?_ | refine w_nm 6 ?_ | refine w_nm 7 ?_ | refine w_nm 8 ?_ | refine w_nm 9 ?_ | refine w_nm 10 ?_ | refine w_nm 11 ?_ | refine w_nm 12 ?_ | refine w_nm 13 ?_)
    refine ⟨seenD o, fun j => match o[j]? with | some z => z | none => none, hl, by rw [List.length_map]; omega, fun j y hy => ?_, fun ks nd mem => ?_⟩
    · obtain ⟨z, hz, rfl⟩ := seen_get hy
      intro s1 H1 C cl fp
      refine wt_isNN ?_
      (first | refine w_nm 0 ?_ | refine w_nm 1 ?_ | refine w_nm 2 ?_ | refine w_nm 3 ?_ | refine w_nm 4 ?_ | refine w_nm 5 ?_ | refine w_nm 6 ?_ | refine w_nm 7 ?_ | refine w_nm 8 ?_ | refine w_nm 9 ?_ | refine w_nm 10 ?_ | refine w_nm 11 ?_ | refine w_nm 12 ?_ | refine w_nm 13 ?_)
      cases z with
      | none => exact ⟨true, by simp [optD], rfl, by simp only [hz]; rfl, fun u hu => by simp only [hz] at hu; cases hu⟩
      | some v =>
        refine ⟨false, by simp [optD], rfl, by simp only [hz]; rfl, fun u hu => ?_⟩
        simp only [hz] at hu
        cases hu
        intro s1 H1 C cl fp
        (first | refine w_nm 0 ?_ | refine w_nm 1 ?_ | refine w_nm 2 ?_ | refine w_nm 3 ?_ | refine w_nm 4 ?_ | refine w_nm 5 ?_ | refine w_nm 6 ?_ | refine w_nm 7 ?_ | refine w_nm 8 ?_ | refine w_nm 9 ?_ | refine w_nm 10 ?_ | refine w_nm 11 ?_ | refine w_nm 12 ?_ | refine w_nm 13 ?_)
        exact ⟨rfl, rfl⟩
    · (first | refine w_nm 0 ?_ | refine w_nm 1 ?_ | refine w_nm 2 ?_ | refine w_nm 3 ?_ | refine w_nm 4 ?_ | refine w_nm 5 ?_ | refine w_nm 6 ?_ | refine w_nm 7 ?_ | refine w_nm 8 ?_ | refine w_nm 9 ?_ | refine w_nm 10 ?_ | refine w_nm 11 ?_ | refine w_nm 12 ?_ | refine w_nm 13 ?_)
      have mem2 : ∀ v, v ∈ ks ↔ some v ∈ o := fun v => (mem v).trans ⟨fun ⟨j, hj, h⟩ => by
        cases hz : o[j]? with
        | none => simp only [hz] at h; cases h
        | some z => simp only [hz] at h; exact List.mem_of_getElem? (h ▸ hz), fun h => by
        obtain ⟨j, hj⟩ := List.getElem?_of_mem h
        exact ⟨j, by rw [List.length_map]; exact (List.getElem?_eq_some_iff.mp hj).1, by simp only [hj]⟩⟩
      have fi := full_iff (n := n) (by omega) nd fun v hv => ob.in_ v ((mem2 v).mp hv)
      refine ⟨_, eqd_int, .inl ⟨rfl, ?_⟩⟩
      have e : decide ((ks.length : Int) = n) = b := by
        have key : ((ks.length : Int) = n) ↔ b = true := by
          rw [hall]
          constructor
          · intro e v v0 v1
            exact (mem2 v).mp (fi.mp (by omega) v v0 v1)
          · intro h
            have := fi.mpr fun v v0 v1 => (mem2 v).mpr (h v v0 v1)
            omega
        cases b with
        | true => exact decide_eq_true (key.mpr rfl)
        | false => exact decide_eq_false fun z => by have := key.mp z; cases this
      rw [e]
      exact hp
  · have ht : TyD (.tup ts) "tuple" := .tup
    refine wa_cons (w_gty M.tuple (by decide +kernel) (wa_nil ⟨_, _, _, _, rfl, ht, kitTu ht, _, rfl, ?_⟩))
    have go : WSs (Bx P w K mg base n_is_conflict "is_conflict" s_is_conflict f cdv A outer s0 H E) cs.length ((defBody s_is_conflict).drop 2) { nx := fun _ cs' => Shut cs.length P' .non cs', rt := Shut cs.length P' } (startD n_is_conflict [.int n, d, .tup ts]) cs := by
      refine wss_cons (ws_if (wt_bool (ww_or (wt_ne hr.units (w_lenT M.len (wa_cons ?_))))))
      (first | refine w_nm 0 ?_ | refine w_nm 1 ?_ | refine w_nm 2 ?_ | refine w_nm 3 ?_ | refine w_nm 4 ?_ | refine w_nm 5 ?_ | refine w_nm 6 ?_ | refine w_nm 7 ?_ | refine w_nm 8 ?_ | refine w_nm 9 ?_ | refine w_nm 10 ?_ | refine w_nm 11 ?_ | refine w_nm 12 ?_ | refine w_nm 13 ?_)
      refine wa_nil ⟨_, rfl, w_int ⟨_, eqd_int, ?_⟩⟩
      rcases hw with ⟨h3, rfl⟩ | ⟨x0, x1, x2, rfl, hw⟩
      · rw [decide_eq_false (show ¬ (ts.length : Int) = 3 by omega)]
        exact wss_one (ws_ret (w_bl (.inl ⟨rfl, hp⟩)))
      rw [decide_eq_true (show (([x0, x1, x2] : List D).length : Int) = 3 from rfl)]
      refine ww_or1 (wt_ne hr.units (w_atP ?_))
      (first | refine w_nm 0 ?_ | refine w_nm 1 ?_ | refine w_nm 2 ?_ | refine w_nm 3 ?_ | refine w_nm 4 ?_ | refine w_nm 5 ?_ | refine w_nm 6 ?_ | refine w_nm 7 ?_ | refine w_nm 8 ?_ | refine w_nm 9 ?_ | refine w_nm 10 ?_ | refine w_nm 11 ?_ | refine w_nm 12 ?_ | refine w_nm 13 ?_)
      rcases hw with ⟨he, rfl⟩ | ⟨rfl, ⟨t1, ht1⟩, ⟨t2, ht2⟩, rfl⟩
      · refine w_int ⟨_, 0, _, rfl, rfl, rfl, w_str ⟨_, he, ?_⟩⟩
        exact wss_one (ws_ret (w_bl (.inl ⟨rfl, hp⟩)))
      · refine w_int ⟨_, 0, _, rfl, rfl, rfl, w_str ⟨_, eqd_passed, ?_⟩⟩
        refine wss_nil (wss_cons (ws_unp3 3 4 5 ?_ (pg_tup rfl (pgs_cons (pg_name c_is_conflict.nd rfl (.inl rfl)) (pgs_cons (pg_name c_is_conflict.nd rfl (.inl rfl)) (pgs_cons (pg_name c_is_conflict.nd rfl (.inl rfl)) pgs_nil))))))
        (first | refine w_nm 0 ?_ | refine w_nm 1 ?_ | refine w_nm 2 ?_ | refine w_nm 3 ?_ | refine w_nm 4 ?_ | refine w_nm 5 ?_ | refine w_nm 6 ?_ | refine w_nm 7 ?_ | refine w_nm 8 ?_ | refine w_nm 9 ?_ | refine w_nm 10 ?_ | refine w_nm 11 ?_ | refine w_nm 12 ?_ | refine w_nm 13 ?_)
        refine ⟨_, _, _, rfl, ?_⟩
        show WSs _ _ _ _ _ _
        refine wss_one (ws_ret (w_and (w_call GSv (hr.mono (by decide)) (wa_cons ?_))))
        (first | refine w_nm 0 ?_ | refine w_nm 1 ?_ | refine w_nm 2 ?_ | refine w_nm 3 ?_ | refine w_nm 4 ?_ | refine w_nm 5 ?_ | refine w_nm 6 ?_ | refine w_nm 7 ?_ | refine w_nm 8 ?_ | refine w_nm 9 ?_ | refine w_nm 10 ?_ | refine w_nm 11 ?_ | refine w_nm 12 ?_ | refine w_nm 13 ?_)
        refine wa_cons ?_
        (first | refine w_nm 0 ?_ | refine w_nm 1 ?_ | refine w_nm 2 ?_ | refine w_nm 3 ?_ | refine w_nm 4 ?_ | refine w_nm 5 ?_ | refine w_nm 6 ?_ | refine w_nm 7 ?_ | refine w_nm 8 ?_ | refine w_nm 9 ?_ | refine w_nm 10 ?_ | refine w_nm 11 ?_ | refine w_nm 12 ?_ | refine w_nm 13 ?_)
        refine wa_nil ⟨n, x1, t1, rfl, ht1, srvB n x1, rfl, ?_⟩
        cases e1 : srvB n x1 with
        | false =>
          rw [e1, Bool.false_and] at hp
          exact .inl ⟨rfl, hp⟩
        | true =>
          rw [e1, Bool.true_and] at hp
          refine w_and (w_call GSv (hr.mono (by decide)) (wa_cons ?_))
          (first | refine w_nm 0 ?_ | refine w_nm 1 ?_ | refine w_nm 2 ?_ | refine w_nm 3 ?_ | refine w_nm 4 ?_ | refine w_nm 5 ?_ | refine w_nm 6 ?_ | refine w_nm 7 ?_ | refine w_nm 8 ?_ | refine w_nm 9 ?_ | refine w_nm 10 ?_ | refine w_nm 11 ?_ | refine w_nm 12 ?_ | refine w_nm 13 ?_)
          refine wa_cons ?_
          (first | refine w_nm 0 ?_ | refine w_nm 1 ?_ | refine w_nm 2 ?_ | refine w_nm 3 ?_ | refine w_nm 4 ?_ | refine w_nm 5 ?_ | refine w_nm 6 ?_ | refine w_nm 7 ?_ | refine w_nm 8 ?_ | refine w_nm 9 ?_ | refine w_nm 10 ?_ | refine w_nm 11 ?_ | refine w_nm 12 ?_ | refine w_nm 13 ?_)
          refine wa_nil ⟨n, x2, t2, rfl, ht2, srvB n x2, rfl, ?_⟩
          cases e2 : srvB n x2 with
          | false =>
            rw [e2, Bool.false_and] at hp
            exact .inl ⟨rfl, hp⟩
          | true =>
            rw [e2, Bool.true_and] at hp
            obtain ⟨i, rfl, i0, i1⟩ : ∃ i : Int, x1 = .int i ∧ 0 ≤ i ∧ i < n := by
              cases x1 <;> first | exact ⟨_, rfl, by simpa [srvB] using e1⟩ | cases e1
            obtain ⟨k, rfl, k0, k1⟩ : ∃ i : Int, x2 = .int i ∧ 0 ≤ i ∧ i < n := by
              cases x2 <;> first | exact ⟨_, rfl, by simpa [srvB] using e2⟩ | cases e2
            obtain ⟨i, rfl⟩ : ∃ a : Nat, i = (a : Int) := ⟨i.toNat, by omega⟩
            obtain ⟨k, rfl⟩ : ∃ a : Nat, k = (a : Int) := ⟨k.toNat, by omega⟩
            refine w_one (w_call GP hr (wa_cons ?_))
            (first | refine w_nm 0 ?_ | refine w_nm 1 ?_ | refine w_nm 2 ?_ | refine w_nm 3 ?_ | refine w_nm 4 ?_ | refine w_nm 5 ?_ | refine w_nm 6 ?_ | refine w_nm 7 ?_ | refine w_nm 8 ?_ | refine w_nm 9 ?_ | refine w_nm 10 ?_ | refine w_nm 11 ?_ | refine w_nm 12 ?_ | refine w_nm 13 ?_)
            refine wa_cons ?_
            (first | refine w_nm 0 ?_ | refine w_nm 1 ?_ | refine w_nm 2 ?_ | refine w_nm 3 ?_ | refine w_nm 4 ?_ | refine w_nm 5 ?_ | refine w_nm 6 ?_ | refine w_nm 7 ?_ | refine w_nm 8 ?_ | refine w_nm 9 ?_ | refine w_nm 10 ?_ | refine w_nm 11 ?_ | refine w_nm 12 ?_ | refine w_nm 13 ?_)
            refine wa_cons ?_
            (first | refine w_nm 0 ?_ | refine w_nm 1 ?_ | refine w_nm 2 ?_ | refine w_nm 3 ?_ | refine w_nm 4 ?_ | refine w_nm 5 ?_ | refine w_nm 6 ?_ | refine w_nm 7 ?_ | refine w_nm 8 ?_ | refine w_nm 9 ?_ | refine w_nm 10 ?_ | refine w_nm 11 ?_ | refine w_nm 12 ?_ | refine w_nm 13 ?_)
            refine wa_cons ?_
            (first | refine w_nm 0 ?_ | refine w_nm 1 ?_ | refine w_nm 2 ?_ | refine w_nm 3 ?_ | refine w_nm 4 ?_ | refine w_nm 5 ?_ | refine w_nm 6 ?_ | refine w_nm 7 ?_ | refine w_nm 8 ?_ | refine w_nm 9 ?_ | refine w_nm 10 ?_ | refine w_nm 11 ?_ | refine w_nm 12 ?_ | refine w_nm 13 ?_)
            exact wa_nil ⟨n, d, o, i, k, rfl, hl, ob, by omega, by omega, .inl ⟨rfl, hp⟩⟩
    rcases hna with he | ⟨x0, xs, e, hh⟩
    · refine wss_nil (wss_cons (ws_if (wt_eq hr.units ?_)))
      (first | refine w_nm 0 ?_ | refine w_nm 1 ?_ | refine w_nm 2 ?_ | refine w_nm 3 ?_ | refine w_nm 4 ?_ | refine w_nm 5 ?_ | refine w_nm 6 ?_ | refine w_nm 7 ?_ | refine w_nm 8 ?_ | refine w_nm 9 ?_ | refine w_nm 10 ?_ | refine w_nm 11 ?_ | refine w_nm 12 ?_ | refine w_nm 13 ?_)
      refine w_tup (wa_cons (w_str (wa_nil ⟨by decide, _, he, ?_⟩)))
      exact wss_nil go
    · cases e
      refine wss_nil (wss_cons (ws_if (wt_eqHead hr.units ?_)))
      (first | refine w_nm 0 ?_ | refine w_nm 1 ?_ | refine w_nm 2 ?_ | refine w_nm 3 ?_ | refine w_nm 4 ?_ | refine w_nm 5 ?_ | refine w_nm 6 ?_ | refine w_nm 7 ?_ | refine w_nm 8 ?_ | refine w_nm 9 ?_ | refine w_nm 10 ?_ | refine w_nm 11 ?_ | refine w_nm 12 ?_ | refine w_nm 13 ?_)
      refine w_tup (wa_cons (w_str (wa_nil ⟨by decide, _, _, _, rfl, rfl, hh, ?_⟩)))
      exact wss_nil go
abbrev s_shows : Stmt := topS 24
abbrev n_shows : List Str := ["n", "assignment", "thing"]
theorem c_shows : FnScope n_shows ["n", "assignment", "thing"] (defScope s_shows) := ⟨rfl, rfl, rfl, by decide +kernel, rfl, by decide +kernel, by decide +kernel⟩
def g_showsX : GD := fun ds cs P => ∃ (n : Int) (d t : D) (js : List Int) (b : Bool), ds = [.int n, d, t] ∧ LstD cs d (js.map .int) ∧ dList d = true ∧ js.length = n.toNat ∧ 2 ≤ n ∧ n ≤ 60 ∧ (∀ v ∈ js, 0 ≤ v ∧ v < n) ∧ ConfX cs n (js.map some) t b ∧ P (.bl b) cs
theorem ok_showsX (GN : FnD P w K mg base 2 "need_ring" ["n"] (spD g_need_ring)) (GA : FnD P w K mg base 2 "need_assignment" ["n", "assignment"] (spD fun ds cs P => g_assign_ok ds cs fun _ => P .non)) (GC : FnD P w K mg base 3 "is_conflict" ["n", "seen", "thing"] (spD g_isconfX)) (F : FnP K "shows" s_shows f fd) : FnG P w K mg base CX0 4 f fd ["n", "assignment", "thing"] (spD g_showsX) := by
  refine fnD F c_shows (fun ds cs P ⟨n, d, t, js, b, e, _⟩ => by rw [e]; rfl) fun cdv A outer s0 H E hr ds cs P' ⟨n, d, t, js, b, e, hl, hd, hjl, h2, h60, hin, hc, hp⟩ hb => ?_
  subst e
  refine wss_cons (ws_expr (w_call GN (hr.mono (by decide)) (wa_cons ?_)))
  (first | refine w_nm 0 ?_ | refine w_nm 1 ?_ | refine w_nm 2 ?_ | refine w_nm 3 ?_ | refine w_nm 4 ?_ | refine w_nm 5 ?_ | refine w_nm 6 ?_ | refine w_nm 7 ?_ | refine w_nm 8 ?_ | refine w_nm 9 ?_ | refine w_nm 10 ?_ | refine w_nm 11 ?_ | refine w_nm 12 ?_ | refine w_nm 13 ?_)
  refine wa_nil ⟨n, rfl, by omega, h60, wss_cons (ws_expr (w_call GA (hr.mono (by decide)) (wa_cons ?_)))⟩
  (first | refine w_nm 0 ?_ | refine w_nm 1 ?_ | refine w_nm 2 ?_ | refine w_nm 3 ?_ | refine w_nm 4 ?_ | refine w_nm 5 ?_ | refine w_nm 6 ?_ | refine w_nm 7 ?_ | refine w_nm 8 ?_ | refine w_nm 9 ?_ | refine w_nm 10 ?_ | refine w_nm 11 ?_ | refine w_nm 12 ?_ | refine w_nm 13 ?_)
  refine wa_cons ?_
  (first | refine w_nm 0 ?_ | refine w_nm 1 ?_ | refine w_nm 2 ?_ | refine w_nm 3 ?_ | refine w_nm 4 ?_ | refine w_nm 5 ?_ | refine w_nm 6 ?_ | refine w_nm 7 ?_ | refine w_nm 8 ?_ | refine w_nm 9 ?_ | refine w_nm 10 ?_ | refine w_nm 11 ?_ | refine w_nm 12 ?_ | refine w_nm 13 ?_)
  refine wa_nil ⟨n, d, js, rfl, hl, hd, hjl, h2, h60, hin, wss_one (ws_ret (w_call GC hr (wa_cons ?_)))⟩
  (first | refine w_nm 0 ?_ | refine w_nm 1 ?_ | refine w_nm 2 ?_ | refine w_nm 3 ?_ | refine w_nm 4 ?_ | refine w_nm 5 ?_ | refine w_nm 6 ?_ | refine w_nm 7 ?_ | refine w_nm 8 ?_ | refine w_nm 9 ?_ | refine w_nm 10 ?_ | refine w_nm 11 ?_ | refine w_nm 12 ?_ | refine w_nm 13 ?_)
  refine wa_cons ?_
  (first | refine w_nm 0 ?_ | refine w_nm 1 ?_ | refine w_nm 2 ?_ | refine w_nm 3 ?_ | refine w_nm 4 ?_ | refine w_nm 5 ?_ | refine w_nm 6 ?_ | refine w_nm 7 ?_ | refine w_nm 8 ?_ | refine w_nm 9 ?_ | refine w_nm 10 ?_ | refine w_nm 11 ?_ | refine w_nm 12 ?_ | refine w_nm 13 ?_)
  refine wa_cons ?_
  (first | refine w_nm 0 ?_ | refine w_nm 1 ?_ | refine w_nm 2 ?_ | refine w_nm 3 ?_ | refine w_nm 4 ?_ | refine w_nm 5 ?_ | refine w_nm 6 ?_ | refine w_nm 7 ?_ | refine w_nm 8 ?_ | refine w_nm 9 ?_ | refine w_nm 10 ?_ | refine w_nm 11 ?_ | refine w_nm 12 ?_ | refine w_nm 13 ?_)
  exact wa_nil ⟨n, d, t, js.map some, b, rfl, by rw [seen_some]; exact hl, obs_some h2 h60 hjl hin, hc, .inl ⟨rfl, hp⟩⟩
abbrev s_shows_conflict : Stmt := topS 22
abbrev n_shows_conflict : List Str := ["n", "seen", "thing"]
theorem c_shows_conflict : FnScope n_shows_conflict ["n", "seen", "thing"] (defScope s_shows_conflict) := ⟨rfl, rfl, rfl, by decide +kernel, rfl, by decide +kernel, by decide +kernel⟩
def g_showsC : GD := fun ds cs P => ∃ (n : Int) (d t : D) (o : List (Option Int)) (b : Bool), ds = [.int n, d, t] ∧ LstD cs d (seenD o) ∧ dList d = true ∧ Obs n o ∧ ConfX cs n o t b ∧ P (.bl b) cs
theorem ok_showsC (GN : FnD P w K mg base 2 "need_ring" ["n"] (spD g_need_ring)) (GO : FnD P w K mg base 2 "need_observation" ["n", "seen"] (spD g_need_obs)) (GC : FnD P w K mg base 3 "is_conflict" ["n", "seen", "thing"] (spD g_isconfX)) (F : FnP K "shows_conflict" s_shows_conflict f fd) : FnG P w K mg base CX0 4 f fd ["n", "seen", "thing"] (spD g_showsC) := by
  refine fnD F c_shows_conflict (fun ds cs P ⟨n, d, t, o, b, e, _⟩ => by rw [e]; rfl) fun cdv A outer s0 H E hr ds cs P' ⟨n, d, t, o, b, e, hl, hd, ob, hc, hp⟩ hb => ?_
  subst e
  refine wss_cons (ws_expr (w_call GN (hr.mono (by decide)) (wa_cons ?_)))
  (first | refine w_nm 0 ?_ | refine w_nm 1 ?_ | refine w_nm 2 ?_ | refine w_nm 3 ?_ | refine w_nm 4 ?_ | refine w_nm 5 ?_ | refine w_nm 6 ?_ | refine w_nm 7 ?_ | refine w_nm 8 ?_ | refine w_nm 9 ?_ | refine w_nm 10 ?_ | refine w_nm 11 ?_ | refine w_nm 12 ?_ | refine w_nm 13 ?_)
  refine wa_nil ⟨n, rfl, ob.lo, ob.hi, wss_cons (ws_expr (w_call GO (hr.mono (by decide)) (wa_cons ?_)))⟩
  (first | refine w_nm 0 ?_ | refine w_nm 1 ?_ | refine w_nm 2 ?_ | refine w_nm 3 ?_ | refine w_nm 4 ?_ | refine w_nm 5 ?_ | refine w_nm 6 ?_ | refine w_nm 7 ?_ | refine w_nm 8 ?_ | refine w_nm 9 ?_ | refine w_nm 10 ?_ | refine w_nm 11 ?_ | refine w_nm 12 ?_ | refine w_nm 13 ?_)
  refine wa_cons ?_
  (first | refine w_nm 0 ?_ | refine w_nm 1 ?_ | refine w_nm 2 ?_ | refine w_nm 3 ?_ | refine w_nm 4 ?_ | refine w_nm 5 ?_ | refine w_nm 6 ?_ | refine w_nm 7 ?_ | refine w_nm 8 ?_ | refine w_nm 9 ?_ | refine w_nm 10 ?_ | refine w_nm 11 ?_ | refine w_nm 12 ?_ | refine w_nm 13 ?_)
  refine wa_nil ⟨n, d, o, rfl, hl, hd, ob, wss_one (ws_ret (w_call GC hr (wa_cons ?_)))⟩
  (first | refine w_nm 0 ?_ | refine w_nm 1 ?_ | refine w_nm 2 ?_ | refine w_nm 3 ?_ | refine w_nm 4 ?_ | refine w_nm 5 ?_ | refine w_nm 6 ?_ | refine w_nm 7 ?_ | refine w_nm 8 ?_ | refine w_nm 9 ?_ | refine w_nm 10 ?_ | refine w_nm 11 ?_ | refine w_nm 12 ?_ | refine w_nm 13 ?_)
  refine wa_cons ?_
  (first | refine w_nm 0 ?_ | refine w_nm 1 ?_ | refine w_nm 2 ?_ | refine w_nm 3 ?_ | refine w_nm 4 ?_ | refine w_nm 5 ?_ | refine w_nm 6 ?_ | refine w_nm 7 ?_ | refine w_nm 8 ?_ | refine w_nm 9 ?_ | refine w_nm 10 ?_ | refine w_nm 11 ?_ | refine w_nm 12 ?_ | refine w_nm 13 ?_)
  refine wa_cons ?_
  (first | refine w_nm 0 ?_ | refine w_nm 1 ?_ | refine w_nm 2 ?_ | refine w_nm 3 ?_ | refine w_nm 4 ?_ | refine w_nm 5 ?_ | refine w_nm 6 ?_ | refine w_nm 7 ?_ | refine w_nm 8 ?_ | refine w_nm 9 ?_ | refine w_nm 10 ?_ | refine w_nm 11 ?_ | refine w_nm 12 ?_ | refine w_nm 13 ?_)
  exact wa_nil ⟨n, d, t, o, b, rfl, hl, ob, hc, .inl ⟨rfl, hp⟩⟩
end
end K
set_option Elab.async false
set_option linter.all false
set_option maxRecDepth 100000
set_option maxHeartbeats 4100000
namespace K
open PySem PySem.Spec
open PyProof.Rows L2 Rg
section
variable {P : Program} {w : World} {K : PySem.W.Frag} {mg : Str → Option Value}
variable {base : Heap} {f : Addr} {fd : FuncData}
/-! ### objects of other kinds, as texts and behind a call -/
mutual
/-- nothing in it that may change -/
def plainD : D → Bool
  | .non => true | .bl _ => true | .int _ => true | .str _ => true
  | .lst xs => plainDs xs
  | .tup xs => plainDs xs
  | _ => false
def plainDs : List D → Bool
  | [] => true
  | x :: xs => plainD x && plainDs xs
end
mutual
def pyOf : D → PyData
  | .bl b => .bool b | .int i => .int i | .str s => .str s
  | .lst xs => .list (pyOfs xs)
  | .tup xs => .tuple (pyOfs xs)
  | _ => .none
def pyOfs : List D → List PyData
  | [] => []
  | x :: xs => pyOf x :: pyOfs xs
end
mutual
theorem plain_py {cs : Cs} : ∀ d : D, plainD d = true → ToPy cs d (pyOf d)
  | .non, _ => .non
  | .bl _, _ => .bl
  | .int _, _ => .int
  | .str _, _ => .str
  | .lst xs, h => .lst (.inl rfl) (plains_py xs h)
  | .tup xs, h => .tup (plains_py xs h)
  | .own _, h => Bool.noConfusion h
  | .ty _, h => Bool.noConfusion h
  | .obj _, h => Bool.noConfusion h
  | .set _ _, h => Bool.noConfusion h
  | .scr _, h => Bool.noConfusion h
  | .dct _ _, h => Bool.noConfusion h
  | .dcT _ _, h => Bool.noConfusion h
  | .exc _, h => Bool.noConfusion h
theorem plains_py {cs : Cs} : ∀ xs : List D, plainDs xs = true → ToPyL cs xs (pyOfs xs)
  | [], _ => .nil
  | x :: xs, h => .cons (plain_py x (Bool.and_eq_true _ _ ▸ h : _ ∧ _).1) (plains_py xs (Bool.and_eq_true _ _ ▸ h : _ ∧ _).2)
end
mutual
theorem plain_res {cs : Cs} {B m : Nat} : ∀ d : D, plainD d = true → Res cs B m d d
  | .non, _ => .non
  | .bl _, _ => .bl
  | .int _, _ => .int
  | .str _, _ => .str
  | .lst xs, h => .lst (plains_res xs h)
  | .tup xs, h => .tup (plains_res xs h)
  | .own _, h => Bool.noConfusion h
  | .ty _, h => Bool.noConfusion h
  | .obj _, h => Bool.noConfusion h
  | .set _ _, h => Bool.noConfusion h
  | .scr _, h => Bool.noConfusion h
  | .dct _ _, h => Bool.noConfusion h
  | .dcT _ _, h => Bool.noConfusion h
  | .exc _, h => Bool.noConfusion h
theorem plains_res {cs : Cs} {B m : Nat} : ∀ xs : List D, plainDs xs = true → ResL cs B m xs xs
  | [], _ => .nil
  | x :: xs, h => .cons (plain_res x (Bool.and_eq_true _ _ ▸ h : _ ∧ _).1) (plains_res xs (Bool.and_eq_true _ _ ▸ h : _ ∧ _).2)
end
theorem plain_ty {d : D} (h : plainD d = true) : ∃ t, TyD d t := by
  cases d <;> first | exact ⟨_, .non⟩ | exact ⟨_, .bl⟩ | exact ⟨_, .int⟩ | exact ⟨_, .str⟩ | exact ⟨_, .lst⟩ | exact ⟨_, .tup⟩ | exact Bool.noConfusion h
theorem plains_ints : ∀ ns : List Int, plainDs (ns.map .int) = true
  | [] => rfl
  | _ :: r => plains_ints r
theorem plains_app {xs ys : List D} (h : plainDs xs = true) (g : plainDs ys = true) : plainDs (xs ++ ys) = true := by
  induction xs with
  | nil => exact g
  | cons x xs ih =>
    have h' := (Bool.and_eq_true _ _ ▸ h : plainD x = true ∧ plainDs xs = true)
    show (plainD x && plainDs (xs ++ ys)) = true
    rw [h'.1, ih h'.2]; rfl
theorem plains_mem {xs : List D} (h : plainDs xs = true) {x : D} (hx : x ∈ xs) : plainD x = true := by
  induction xs with
  | nil => cases hx
  | cons y ys ih =>
    have h' := (Bool.and_eq_true _ _ ▸ h : plainD y = true ∧ plainDs ys = true)
    rcases List.mem_cons.mp hx with e | m
    · rw [e]; exact h'.1
    · exact ih h'.2 m
theorem pyOfs_map : ∀ xs : List D, pyOfs xs = xs.map pyOf
  | [] => rfl
  | x :: xs => by rw [pyOfs, pyOfs_map xs]; rfl
theorem _root_.Rg.NiceB.mono {B m m' w w' : Nat} {p : PyData} (n : NiceB B m w p) (h1 : m ≤ m') (h2 : w ≤ w') : NiceB B m' w' p := ⟨n.show_, n.nodict, Nat.le_trans n.dep h1, n.short, Nat.le_trans n.wt h2, n.lay⟩
theorem niceB_tup {B m w : Nat} {xs : List PyData} (h : ∀ x ∈ xs, NiceB B m w x) : NiceB B (m + 1) (xs.length * (w + 1)) (.tuple xs) := by
  obtain ⟨a, b, c, d, e, f⟩ := niceB_all h
  exact ⟨by simpa only [PyData.showable] using a, by simpa only [PyData.hasDict] using b, by simp only [PyData.depth]; omega, by simpa only [PyData.leavesShort] using d, by simpa only [PyData.weight] using e, by simpa only [PyData.canLay0] using f⟩
theorem niceB_small {i : Int} (h : i.natAbs < 10 ^ 12) : NiceB 101 0 40 (.int i) := by
  have b := niceB_int (i := i) (Nat.lt_of_lt_of_le h (by decide +kernel))
  have s := nice_int h
  exact ⟨b.show_, b.nodict, b.dep, b.short, s.wt, b.lay⟩
theorem niceB_non : NiceB 101 0 40 .none := ⟨rfl, rfl, by decide, rfl, by decide, rfl⟩
theorem niceB_bl (b : Bool) : NiceB 101 0 40 (.bool b) := ⟨rfl, rfl, by cases b <;> decide, rfl, by simp [PyData.weight], rfl⟩
theorem niceB_strs (s : Str) (h : s = "" ∨ s = "0") : NiceB 101 0 40 (.str s) := by
  rcases h with rfl | rfl
  · exact ⟨by decide +kernel, rfl, by decide, by decide +kernel, by decide +kernel, by decide +kernel⟩
  · exact ⟨by decide +kernel, rfl, by decide, by decide +kernel, by decide +kernel, by decide +kernel⟩
/-- an object that a statement of errors draws: nothing in it may change, and its text is not long -/
structure OddO (d : D) : Prop where
  pl : plainD d = true
  ni : NiceB 101 2 3300 (pyOf d)
theorem odd_list {m w : Nat} {xs : List D} (h : ∀ x ∈ xs, plainD x = true ∧ NiceB 101 m w (pyOf x)) (hm : m ≤ 1) (hw : xs.length * (w + 1) ≤ 3300) : OddO (.lst xs) := by
  refine ⟨?_, ?_⟩
  · show plainDs xs = true
    induction xs with
    | nil => rfl
    | cons x xs ih =>
      have hl : xs.length * (w + 1) ≤ (x :: xs).length * (w + 1) := Nat.mul_le_mul_right _ (by simp)
      show (plainD x && plainDs xs) = true
      rw [(h x List.mem_cons_self).1, ih (fun y hy => h y (List.mem_cons_of_mem _ hy)) (by omega)]; rfl
  · show NiceB 101 2 3300 (.list (pyOfs xs))
    rw [pyOfs_map]
    have := niceB_list (B := 101) (m := m) (w := w) (xs := xs.map pyOf) fun p hp => by
      obtain ⟨x, hx, rfl⟩ := List.mem_map.mp hp
      exact (h x hx).2
    exact this.mono (by omega) (by rw [List.length_map]; exact hw)
theorem odd_tup {m w : Nat} {xs : List D} (h : ∀ x ∈ xs, plainD x = true ∧ NiceB 101 m w (pyOf x)) (hm : m ≤ 1) (hw : xs.length * (w + 1) ≤ 3300) : OddO (.tup xs) := by
  have o := odd_list h hm hw
  refine ⟨o.pl, ?_⟩
  show NiceB 101 2 3300 (.tuple (pyOfs xs))
  rw [pyOfs_map]
  have := niceB_tup (B := 101) (m := m) (w := w) (xs := xs.map pyOf) fun p hp => by
    obtain ⟨x, hx, rfl⟩ := List.mem_map.mp hp
    exact (h x hx).2
  exact this.mono (by omega) (by rw [List.length_map]; exact hw)
abbrev Sm (x : D) : Prop := plainD x = true ∧ NiceB 101 0 40 (pyOf x)
theorem sm_int {i : Int} (h : i.natAbs < 10 ^ 12) : Sm (.int i) := ⟨rfl, niceB_small h⟩
theorem sm_non : Sm .non := ⟨rfl, niceB_non⟩
theorem sm_bl {b : Bool} : Sm (.bl b) := ⟨rfl, niceB_bl b⟩
theorem sm_ints {ns : List Int} (h : ∀ i ∈ ns, i.natAbs < 10 ^ 12) : ∀ x ∈ ns.map D.int, Sm x := fun x hx => by
  obtain ⟨i, hi, rfl⟩ := List.mem_map.mp hx
  exact sm_int (h i hi)
theorem sm_app {xs ys : List D} (h : ∀ x ∈ xs, Sm x) (g : ∀ x ∈ ys, Sm x) : ∀ x ∈ xs ++ ys, Sm x := fun x hx => (List.mem_append.mp hx).elim (h x) (g x)
theorem sm_one {y : D} (h : Sm y) : ∀ x ∈ [y], Sm x := fun x hx => by rw [List.mem_singleton.mp hx]; exact h
theorem sm_odd {d : D} (h : Sm d) : OddO d := ⟨h.1, h.2.mono (by decide) (by decide)⟩
/-- the text of a list of such -/
theorem odd_text {ds : List D} (h : ∀ d ∈ ds, OddO d) (hl : ds.length ≤ 9) : (∀ cs : Cs, ToPy cs (.lst ds) (.list (ds.map pyOf))) ∧ NiceB 101 3 30000 (.list (ds.map pyOf)) := by
  constructor
  · intro cs
    rw [← pyOfs_map]
    refine .lst (.inl rfl) ?_
    clear hl
    induction ds with
    | nil => exact .nil
    | cons d ds ih => exact .cons (plain_py d (h d List.mem_cons_self).pl) (ih fun x hx => h x (List.mem_cons_of_mem _ hx))
  · have := niceB_list (B := 101) (m := 2) (w := 3300) (xs := ds.map pyOf) fun p hp => by
      obtain ⟨x, hx, rfl⟩ := List.mem_map.mp hp
      exact (h x hx).ni
    refine this.mono (by decide) ?_
    rw [List.length_map]
    have := Nat.mul_le_mul_right (3300 + 1) hl
    omega
theorem cutEnd {xs : List D} {y : D} : Rg.cutD (xs ++ [y]) (some (-1)) none = [y] := by
  unfold Rg.cutD
  rw [HT.sIx_none]
  have e : HT.sIx (xs ++ [y]).length 0 (some (-1)) = xs.length := by
    show (if (-1 : Int) < 0 then ((-1 : Int) + ((xs ++ [y]).length : Int)).toNat else min ((-1 : Int).toNat) (xs ++ [y]).length) = _
    rw [if_pos (by decide), List.length_append, List.length_singleton]
    omega
  rw [e, List.drop_left' rfl, List.length_append, List.length_singleton]
  exact List.take_of_length_le (by first | simp)
theorem cutInit {xs : List D} {y : D} : Rg.cutD (xs ++ [y]) none (some (-1)) = xs := by
  unfold Rg.cutD
  rw [HT.sIx_none]
  have e : HT.sIx (xs ++ [y]).length (xs ++ [y]).length (some (-1)) = xs.length := by
    show (if (-1 : Int) < 0 then ((-1 : Int) + ((xs ++ [y]).length : Int)).toNat else min ((-1 : Int).toNat) (xs ++ [y]).length) = _
    rw [if_pos (by decide), List.length_append, List.length_singleton]
    omega
  rw [e, Nat.sub_zero, List.drop_zero, List.take_left' rfl]
theorem forall_app {Q : D → Prop} {xs ys : List D} (h : ∀ x ∈ xs, Q x) (g : ∀ x ∈ ys, Q x) : ∀ x ∈ xs ++ ys, Q x := fun x hx => (List.mem_append.mp hx).elim (h x) (g x)
theorem forall_one {Q : D → Prop} {y : D} (h : Q y) : ∀ x ∈ [y], Q x := fun x hx => by rw [List.mem_singleton.mp hx]; exact h
/-! ### texts by the number of parts -/
structure TB (m b : Nat) (p : PyData) : Prop where
  show_ : p.showable = true
  dep : p.depth ≤ m
  short : p.leavesShort 101 = true
  bk : p.bulk ≤ b
theorem tb_mono {m m' b b' : Nat} {p : PyData} (t : TB m b p) (h1 : m ≤ m') (h2 : b ≤ b') : TB m' b' p := ⟨t.show_, Nat.le_trans t.dep h1, t.short, Nat.le_trans t.bk h2⟩
theorem tb_all {m b : Nat} : ∀ {xs : List PyData}, (∀ x ∈ xs, TB m b x) → PyData.showableAll xs = true ∧ PyData.depthAll xs ≤ m ∧ PyData.leavesShortAll 101 xs = true ∧ PyData.bulkAll xs ≤ xs.length * (b + 1)
  | [], _ => ⟨rfl, Nat.zero_le _, rfl, by simp [PyData.bulkAll]⟩
  | x :: xs, h => by
    obtain ⟨a, c, d, e⟩ := tb_all (xs := xs) fun y hy => h y (List.mem_cons_of_mem _ hy)
    have t := h x List.mem_cons_self
    have tw := t.bk
    have td := t.dep
    refine ⟨by simp only [PyData.showableAll, t.show_, a, Bool.and_self], by simp only [PyData.depthAll]; omega, by simp only [PyData.leavesShortAll, t.short, d, Bool.and_self], ?_⟩
    simp only [PyData.bulkAll, List.length_cons]
    rw [Nat.add_mul]
    omega
theorem tb_list {m b : Nat} {xs : List PyData} (h : ∀ x ∈ xs, TB m b x) : TB (m + 1) (xs.length * (b + 1)) (.list xs) := by
  obtain ⟨a, c, d, e⟩ := tb_all h
  exact ⟨by simpa only [PyData.showable] using a, by simp only [PyData.depth]; omega, by simpa only [PyData.leavesShort] using d, by simpa only [PyData.bulk] using e⟩
theorem tb_tup {m b : Nat} {xs : List PyData} (h : ∀ x ∈ xs, TB m b x) : TB (m + 1) (xs.length * (b + 1)) (.tuple xs) := by
  obtain ⟨a, c, d, e⟩ := tb_all h
  exact ⟨by simpa only [PyData.showable] using a, by simp only [PyData.depth]; omega, by simpa only [PyData.leavesShort] using d, by simpa only [PyData.bulk] using e⟩
theorem tb_int {i : Int} (h : i.natAbs < 10 ^ 100) : TB 0 0 (.int i) := by
  have t := niceB_int h
  exact ⟨t.show_, t.dep, t.short, by simp [PyData.bulk]⟩
theorem tb_fits {m b : Nat} {p : PyData} (t : TB m b p) (h : b ≤ 160000) : p.shown.length ≤ sizeLine := by
  have a := PyData.shown_le_bulk 101 (by decide) p t.short
  have c : 103 * 160000 + 101 ≤ sizeLine := by decide
  have d : (101 + 2) * p.bulk ≤ 103 * 160000 := Nat.mul_le_mul (by decide) (by have := t.bk; omega)
  omega
def TxD (cs : Cs) (x : D) (m b : Nat) : Prop := ∃ p, ToPyZ cs x p ∧ TB m b p
theorem txt_of {cs : Cs} {x : D} {m b : Nat} (h : TxD cs x m b) (hm : m ≤ 60) (hb : b ≤ 160000) : ∃ p, TxtZ cs x p := by
  obtain ⟨p, t, q⟩ := h
  exact ⟨p, t, q.show_, by have := q.dep; omega, tb_fits q hb⟩
theorem txD_all {cs : Cs} {m b : Nat} : ∀ {xs : List D}, (∀ x ∈ xs, TxD cs x m b) → ∃ ps, ToPyZL cs xs ps ∧ ps.length = xs.length ∧ ∀ p ∈ ps, TB m b p
  | [], _ => ⟨[], .nil, rfl, fun _ z => nomatch z⟩
  | x :: xs, h => by
    obtain ⟨ps, a, e, g⟩ := txD_all fun y hy => h y (List.mem_cons_of_mem _ hy)
    obtain ⟨p, t, q⟩ := h x List.mem_cons_self
    exact ⟨p :: ps, .cons t a, by simp [e], fun z hz => (List.mem_cons.mp hz).elim (fun e => e ▸ q) (g z)⟩
theorem txD_list {cs : Cs} {d : D} {m b : Nat} {xs : List D} (l : LstD cs d xs) (h : ∀ x ∈ xs, TxD cs x m b) : TxD cs d (m + 1) (xs.length * (b + 1)) := by
  obtain ⟨ps, a, e, g⟩ := txD_all h
  exact ⟨.list ps, .lst l a, e ▸ tb_list g⟩
theorem txD_tup {cs : Cs} {m b : Nat} {xs : List D} (h : ∀ x ∈ xs, TxD cs x m b) : TxD cs (.tup xs) (m + 1) (xs.length * (b + 1)) := by
  obtain ⟨ps, a, e, g⟩ := txD_all h
  exact ⟨.tuple ps, .tup a, e ▸ tb_tup g⟩
theorem txD_mono {cs : Cs} {x : D} {m m' b b' : Nat} (h : TxD cs x m b) (h1 : m ≤ m') (h2 : b ≤ b') : TxD cs x m' b' := by
  obtain ⟨p, t, q⟩ := h
  exact ⟨p, t, tb_mono q h1 h2⟩
theorem txD_int {cs : Cs} {i : Int} (h : i.natAbs < 10 ^ 100) : TxD cs (.int i) 0 0 := ⟨_, .flat .int rfl, tb_int h⟩
theorem txD_bl {cs : Cs} {b : Bool} : TxD cs (.bl b) 0 0 := ⟨_, .flat .bl rfl, by cases b <;> exact ⟨rfl, by decide, rfl, by decide⟩⟩
theorem txD_non {cs : Cs} : TxD cs .non 0 0 := ⟨_, .flat .non rfl, rfl, by decide, rfl, by decide⟩
theorem txD_dct0 {cs : Cs} : TxD cs (.dct [] []) 1 0 := ⟨_, .dct (ks := []) .nil rfl, by decide, by decide, by decide, by decide⟩
theorem fa_nil {Q : D → Prop} : ∀ x ∈ ([] : List D), Q x := fun _ z => nomatch z
theorem fa_cons {Q : D → Prop} {x : D} {xs : List D} (h : Q x) (g : ∀ y ∈ xs, Q y) : ∀ y ∈ x :: xs, Q y := fun y hy => (List.mem_cons.mp hy).elim (fun e => e ▸ h) (g y)
theorem set2 {cs : Cs} {k : Nat} {a b : List D} : (cs.set k a).set k b = cs.set k b := by rw [List.set_set]
/-! ### the law's own look at a certificate; objects that are none -/
abbrev s__law_true : Stmt := topS 38
abbrev n__law_true : List Str := ["size", "stops", "claim", "group", "mate"]
theorem c__law_true : FnScope n__law_true ["size", "stops", "claim"] (defScope s__law_true) := ⟨rfl, rfl, rfl, by decide +kernel, rfl, by decide +kernel, by decide +kernel⟩
def g_ltrue : GD := fun ds cs P => ∃ (n : Int) (d : D) (o : List (Option Int)) (i k : Nat), ds = [.int n, d, .tup [.str "passed", .int (i : Nat), .int (k : Nat)]] ∧ LstD cs d (seenD o) ∧ Obs n o ∧ i < n.toNat ∧ k < n.toNat ∧ P (.bl (pasB n o i k)) cs
theorem ok_ltrue (GA : FnD P w K mg base 1 "_law_away" ["size", "here", "there"] (spD g_away)) (F : FnP K "_law_true" s__law_true f fd) : FnG P w K mg base CX0 2 f fd ["size", "stops", "claim"] (spD g_ltrue) := by
  refine fnD F c__law_true (fun ds cs P ⟨n, d, o, i, k, e, _⟩ => by rw [e]; rfl) fun cdv A outer s0 H E hr ds cs P' ⟨n, d, o, i, k, e, hl, ob, hi, hk, hp⟩ hb => ?_
  subst e
  have h2 := ob.lo
  have h60 := ob.hi
  obtain ⟨zi, hzi⟩ := obs_at ob hi
  obtain ⟨zk, hzk⟩ := obs_at ob hk
  have gi : (seenD o)[i]? = some (optD zi) := by rw [List.getElem?_map, hzi]; rfl
  have gk : (seenD o)[k]? = some (optD zk) := by rw [List.getElem?_map, hzk]; rfl
  refine wss_cons (ws_par 3 4 (wa_cons (w_atP ?_)) rfl c__law_true.nd)
  (first | refine w_nm 0 ?_ | refine w_nm 1 ?_ | refine w_nm 2 ?_ | refine w_nm 3 ?_ | refine w_nm 4 ?_ | refine w_nm 5 ?_ | refine w_nm 6 ?_ | refine w_nm 7 ?_ | refine w_nm 8 ?_ | refine w_nm 9 ?_ | refine w_nm 10 ?_ | refine w_nm 11 ?_ | refine w_nm 12 ?_ | refine w_nm 13 ?_)
  refine w_int ⟨_, 1, _, rfl, rfl, rfl, wa_cons (w_atP ?_)⟩
  (first | refine w_nm 0 ?_ | refine w_nm 1 ?_ | refine w_nm 2 ?_ | refine w_nm 3 ?_ | refine w_nm 4 ?_ | refine w_nm 5 ?_ | refine w_nm 6 ?_ | refine w_nm 7 ?_ | refine w_nm 8 ?_ | refine w_nm 9 ?_ | refine w_nm 10 ?_ | refine w_nm 11 ?_ | refine w_nm 12 ?_ | refine w_nm 13 ?_)
  refine w_int ⟨_, 2, _, rfl, rfl, rfl, wa_nil ⟨_, _, rfl, ?_⟩⟩
  refine wss_cons (ws_if (wt_bool (ww_or (wt_isN (w_at ?_)))))
  (first | refine w_nm 0 ?_ | refine w_nm 1 ?_ | refine w_nm 2 ?_ | refine w_nm 3 ?_ | refine w_nm 4 ?_ | refine w_nm 5 ?_ | refine w_nm 6 ?_ | refine w_nm 7 ?_ | refine w_nm 8 ?_ | refine w_nm 9 ?_ | refine w_nm 10 ?_ | refine w_nm 11 ?_ | refine w_nm 12 ?_ | refine w_nm 13 ?_); (first | refine w_nm 0 ?_ | refine w_nm 1 ?_ | refine w_nm 2 ?_ | refine w_nm 3 ?_ | refine w_nm 4 ?_ | refine w_nm 5 ?_ | refine w_nm 6 ?_ | refine w_nm 7 ?_ | refine w_nm 8 ?_ | refine w_nm 9 ?_ | refine w_nm 10 ?_ | refine w_nm 11 ?_ | refine w_nm 12 ?_ | refine w_nm 13 ?_)
  refine ⟨_, i, _, hl, rfl, atI_nat gi, ?_⟩
  cases zi with
  | none =>
    refine ⟨true, by simp [optD], ?_⟩
    have e : pasB n o i k = false := by unfold pasB; rw [hzi]
    rw [e] at hp
    exact wss_one (ws_ret (w_bl (.inl ⟨rfl, hp⟩)))
  | some a =>
    refine ⟨false, by simp [optD], ?_⟩
    refine ww_or1 (wt_isN (w_at ?_))
    (first | refine w_nm 0 ?_ | refine w_nm 1 ?_ | refine w_nm 2 ?_ | refine w_nm 3 ?_ | refine w_nm 4 ?_ | refine w_nm 5 ?_ | refine w_nm 6 ?_ | refine w_nm 7 ?_ | refine w_nm 8 ?_ | refine w_nm 9 ?_ | refine w_nm 10 ?_ | refine w_nm 11 ?_ | refine w_nm 12 ?_ | refine w_nm 13 ?_); (first | refine w_nm 0 ?_ | refine w_nm 1 ?_ | refine w_nm 2 ?_ | refine w_nm 3 ?_ | refine w_nm 4 ?_ | refine w_nm 5 ?_ | refine w_nm 6 ?_ | refine w_nm 7 ?_ | refine w_nm 8 ?_ | refine w_nm 9 ?_ | refine w_nm 10 ?_ | refine w_nm 11 ?_ | refine w_nm 12 ?_ | refine w_nm 13 ?_)
    refine ⟨_, k, _, hl, rfl, atI_nat gk, ?_⟩
    cases zk with
    | none =>
      refine ⟨true, by simp [optD], ?_⟩
      have e : pasB n o i k = false := by unfold pasB; rw [hzi, hzk]
      rw [e] at hp
      exact wss_one (ws_ret (w_bl (.inl ⟨rfl, hp⟩)))
    | some b =>
      have ha := ob.in_ a (List.mem_of_getElem? hzi)
      have hbb := ob.in_ b (List.mem_of_getElem? hzk)
      refine ⟨false, by simp [optD], ?_⟩
      have e : pasB n o i k = decide (gapZ n i b < gapZ n i a) := by unfold pasB; rw [hzi, hzk]
      rw [e] at hp
      refine wss_nil (wss_one (ws_ret (w_lt (w_call GA hr (wa_cons ?_)))))
      (first | refine w_nm 0 ?_ | refine w_nm 1 ?_ | refine w_nm 2 ?_ | refine w_nm 3 ?_ | refine w_nm 4 ?_ | refine w_nm 5 ?_ | refine w_nm 6 ?_ | refine w_nm 7 ?_ | refine w_nm 8 ?_ | refine w_nm 9 ?_ | refine w_nm 10 ?_ | refine w_nm 11 ?_ | refine w_nm 12 ?_ | refine w_nm 13 ?_)
      refine wa_cons ?_
      (first | refine w_nm 0 ?_ | refine w_nm 1 ?_ | refine w_nm 2 ?_ | refine w_nm 3 ?_ | refine w_nm 4 ?_ | refine w_nm 5 ?_ | refine w_nm 6 ?_ | refine w_nm 7 ?_ | refine w_nm 8 ?_ | refine w_nm 9 ?_ | refine w_nm 10 ?_ | refine w_nm 11 ?_ | refine w_nm 12 ?_ | refine w_nm 13 ?_)
      refine wa_cons (w_at ?_)
      (first | refine w_nm 0 ?_ | refine w_nm 1 ?_ | refine w_nm 2 ?_ | refine w_nm 3 ?_ | refine w_nm 4 ?_ | refine w_nm 5 ?_ | refine w_nm 6 ?_ | refine w_nm 7 ?_ | refine w_nm 8 ?_ | refine w_nm 9 ?_ | refine w_nm 10 ?_ | refine w_nm 11 ?_ | refine w_nm 12 ?_ | refine w_nm 13 ?_); (first | refine w_nm 0 ?_ | refine w_nm 1 ?_ | refine w_nm 2 ?_ | refine w_nm 3 ?_ | refine w_nm 4 ?_ | refine w_nm 5 ?_ | refine w_nm 6 ?_ | refine w_nm 7 ?_ | refine w_nm 8 ?_ | refine w_nm 9 ?_ | refine w_nm 10 ?_ | refine w_nm 11 ?_ | refine w_nm 12 ?_ | refine w_nm 13 ?_)
      refine ⟨_, k, _, hl, rfl, atI_nat gk, wa_nil ⟨n, _, b, rfl, by omega, h60, hbb.1, hbb.2, w_call GA hr (wa_cons ?_)⟩⟩
      (first | refine w_nm 0 ?_ | refine w_nm 1 ?_ | refine w_nm 2 ?_ | refine w_nm 3 ?_ | refine w_nm 4 ?_ | refine w_nm 5 ?_ | refine w_nm 6 ?_ | refine w_nm 7 ?_ | refine w_nm 8 ?_ | refine w_nm 9 ?_ | refine w_nm 10 ?_ | refine w_nm 11 ?_ | refine w_nm 12 ?_ | refine w_nm 13 ?_)
      refine wa_cons ?_
      (first | refine w_nm 0 ?_ | refine w_nm 1 ?_ | refine w_nm 2 ?_ | refine w_nm 3 ?_ | refine w_nm 4 ?_ | refine w_nm 5 ?_ | refine w_nm 6 ?_ | refine w_nm 7 ?_ | refine w_nm 8 ?_ | refine w_nm 9 ?_ | refine w_nm 10 ?_ | refine w_nm 11 ?_ | refine w_nm 12 ?_ | refine w_nm 13 ?_)
      refine wa_cons (w_at ?_)
      (first | refine w_nm 0 ?_ | refine w_nm 1 ?_ | refine w_nm 2 ?_ | refine w_nm 3 ?_ | refine w_nm 4 ?_ | refine w_nm 5 ?_ | refine w_nm 6 ?_ | refine w_nm 7 ?_ | refine w_nm 8 ?_ | refine w_nm 9 ?_ | refine w_nm 10 ?_ | refine w_nm 11 ?_ | refine w_nm 12 ?_ | refine w_nm 13 ?_); (first | refine w_nm 0 ?_ | refine w_nm 1 ?_ | refine w_nm 2 ?_ | refine w_nm 3 ?_ | refine w_nm 4 ?_ | refine w_nm 5 ?_ | refine w_nm 6 ?_ | refine w_nm 7 ?_ | refine w_nm 8 ?_ | refine w_nm 9 ?_ | refine w_nm 10 ?_ | refine w_nm 11 ?_ | refine w_nm 12 ?_ | refine w_nm 13 ?_)
      exact ⟨_, i, _, hl, rfl, atI_nat gi, wa_nil ⟨n, _, a, rfl, by omega, h60, ha.1, ha.2, _, _, rfl, rfl, .inl ⟨rfl, hp⟩⟩⟩
structure OddC (n : Int) (t : D) : Prop where
  conf : ∀ (cs : Cs) (o : List (Option Int)), ConfX cs n o t false
  res : ∀ (C : Cs) (B k : Nat), Res C B k t t
theorem sh_all : SeqAt.shaped (.str "all") = true := by decide +kernel
theorem na_head {cs : Cs} {x0 : D} {xs : List D} {p : PyData} (t : ToPy cs x0 p) (s : SeqAt.shaped p = true) (e : PyData.eqv p (.str "all") = false) : NotAll cs (.tup (x0 :: xs)) := .inr ⟨x0, xs, rfl, .inl ⟨p, t, s, sh_all, e⟩⟩
theorem na_str {cs : Cs} {s : Str} {xs : List D} (h : SeqAt.shaped (.str s) = true) (e : PyData.eqv (.str s) (.str "all") = false) : NotAll cs (.tup (.str s :: xs)) := na_head .str h e
theorem na_pas {cs : Cs} {xs : List D} : NotAll cs (.tup (.str "passed" :: xs)) := na_str (by decide +kernel) (by decide +kernel)
theorem na_int {cs : Cs} {i : Int} {xs : List D} : NotAll cs (.tup (.int i :: xs)) := na_head .int rfl rfl
theorem na_dct {cs : Cs} {ks : List Key} {ys xs : List D} : NotAll cs (.tup (.dct ks ys :: xs)) := .inr ⟨_, xs, rfl, .inr ⟨ks, ys, rfl⟩⟩
theorem na_nil {cs : Cs} : NotAll cs (.tup []) := .inl ⟨_, _, .tup .nil, .tup (.cons .str .nil), by decide +kernel, by decide +kernel, by decide +kernel⟩
theorem oc_no {n : Int} {t : D} (h : plainD t = true) (hT : dTup t = false) : OddC n t := ⟨fun cs o => .inl ⟨hT, plain_ty h, rfl⟩, fun C B k => plain_res t h⟩
theorem oc_dct {n : Int} {ks : List Key} {xs : List D} (r : ∀ (C : Cs) (B k : Nat), ResL C B k xs xs) : OddC n (.dct ks xs) := ⟨fun cs o => .inl ⟨rfl, ⟨_, .dct⟩, rfl⟩, fun C B k => .dct (r C B k)⟩
theorem oc_len {n : Int} {ts : List D} (na : ∀ cs, NotAll cs (.tup ts)) (h : ts.length ≠ 3) (r : ∀ (C : Cs) (B k : Nat), ResL C B k ts ts) : OddC n (.tup ts) := ⟨fun cs o => .inr (.inr ⟨ts, rfl, na cs, .inl ⟨h, rfl⟩⟩), fun C B k => .tup (r C B k)⟩
theorem oc_first {n : Int} {x0 x1 x2 : D} (na : ∀ cs, NotAll cs (.tup [x0, x1, x2])) (he : ∀ cs, EqD cs x0 (.str "passed") false) (r : ∀ (C : Cs) (B k : Nat), ResL C B k [x0, x1, x2] [x0, x1, x2]) : OddC n (.tup [x0, x1, x2]) := ⟨fun cs o => .inr (.inr ⟨_, rfl, na cs, .inr ⟨x0, x1, x2, rfl, .inl ⟨he cs, rfl⟩⟩⟩), fun C B k => .tup (r C B k)⟩
theorem oc_srv {n : Int} {x1 x2 : D} {t1 t2 : String} (h1 : TyD x1 t1) (h2 : TyD x2 t2) (h : srvB n x1 = false ∨ srvB n x2 = false) (r : ∀ (C : Cs) (B k : Nat), ResL C B k [x1, x2] [x1, x2]) : OddC n (.tup [.str "passed", x1, x2]) := by
  refine ⟨fun cs o => .inr (.inr ⟨_, rfl, na_pas, .inr ⟨_, _, _, rfl, .inr ⟨rfl, ⟨t1, h1⟩, ⟨t2, h2⟩, ?_⟩⟩⟩), fun C B k => .tup (.cons .str (r C B k))⟩
  rcases h with h | h <;> rw [h] <;> simp
theorem srv_no {n i : Int} (h : ¬ (0 ≤ i ∧ i < n)) : srvB n (.int i) = false := by
  show (decide (0 ≤ i) && decide (i < n)) = false
  by_cases h0 : 0 ≤ i
  · rw [decide_eq_false (show ¬ i < n from fun z => h ⟨h0, z⟩), Bool.and_false]
  · rw [decide_eq_false h0, Bool.false_and]
abbrev s__law_odd : Stmt := topS 39
abbrev n__law_odd : List Str := ["feed", "size", "group", "mate", "found", "far"]
theorem c__law_odd : FnScope n__law_odd ["feed", "size"] (defScope s__law_odd) := ⟨rfl, rfl, rfl, by decide +kernel, rfl, by decide +kernel, by decide +kernel⟩
abbrev oddsL (n g m far : Int) : List D :=
  (((((([.non, .int 0, .bl true, .str "", .str "all", .str "passed", .tup [], .lst [], .tup [.str "all", .int 0], .lst [.str "all"], .tup [.str "all", .str "all"], .tup [.str "al"], .tup [.str "passed"]] ++
    [.tup [.str "passed", .int g], .tup [.str "passed", .int g, .int m, .int 0], .lst [.str "passed", .int g, .int m], .tup [.str "drops", .int g, .int m]]) ++
    [.tup [.str "passed", .int (-1), .int m], .tup [.str "passed", .int g, .int n], .tup [.str "passed", .int n, .int m], .tup [.str "passed", .int g, .int (-1)]]) ++
    [.tup [.str "passed", .bl true, .int m], .tup [.str "passed", .int g, .bl false], .tup [.str "passed", .non, .int m], .tup [.str "passed", .int g, .str "0"]]) ++
    [.tup [.str "passed", .lst [.int g], .int m], .tup [.str "passed", .tup [.int g, .int m]], .tup [.int g, .int m], .tup [.int 0, .int g, .int m], .tup [.tup [.str "all"]]]) ++
    [.dct [] [], .dct [.inr "passed"] [.lst [.int g, .int m]], .tup [.dct [] []], .tup [.str "passed", .dct [] [], .int m]]) ++
    [.tup [.str "passed", .int far, .int m], .tup [.str "passed", .int g, .int (0 - far)], .tup [.non, .int g, .int m], .tup [.lst [.str "all"]]])
theorem odds_ok {n g m far : Int} (h60 : n ≤ 60) (hf : 60 < far) : ∀ t ∈ oddsL n g m far, OddC n t := by
  have p2 : ∀ {xs : List D}, plainDs xs = true → ∀ (C : Cs) (B k : Nat), ResL C B k xs xs := fun h C B k => plains_res _ h
  have srv : ∀ {x1 x2 : D}, plainDs [x1, x2] = true → (srvB n x1 = false ∨ srvB n x2 = false) → OddC n (.tup [.str "passed", x1, x2]) := fun {x1 x2} hp h => by
    obtain ⟨t1, h1⟩ := plain_ty (plains_mem hp (x := x1) (by simp))
    obtain ⟨t2, h2⟩ := plain_ty (plains_mem hp (x := x2) (by simp))
    exact oc_srv h1 h2 h (p2 hp)
  intro t ht
  simp only [oddsL, List.cons_append, List.nil_append, List.append_assoc, List.mem_cons, List.not_mem_nil, or_false] at ht
  rcases ht with rfl | rfl | rfl | rfl | rfl | rfl | rfl | rfl | rfl | rfl | rfl | rfl | rfl | rfl | rfl | rfl | rfl | rfl | rfl | rfl | rfl | rfl | rfl | rfl | rfl | rfl | rfl | rfl | rfl | rfl | rfl | rfl | rfl | rfl | rfl | rfl | rfl | rfl
  · exact oc_no rfl rfl
  · exact oc_no rfl rfl
  · exact oc_no rfl rfl
  · exact oc_no rfl rfl
  · exact oc_no rfl rfl
  · exact oc_no rfl rfl
  · exact oc_len (fun cs => na_nil) (by decide) (p2 rfl)
  · exact oc_no rfl rfl
  · exact oc_len (fun cs => .inl ⟨_, _, .tup (.cons .str (.cons .int .nil)), .tup (.cons .str .nil), by decide +kernel, by decide +kernel, by decide +kernel⟩) (by decide) (p2 rfl)
  · exact oc_no rfl rfl
  · exact oc_len (fun cs => .inl ⟨_, _, .tup (.cons .str (.cons .str .nil)), .tup (.cons .str .nil), by decide +kernel, by decide +kernel, by decide +kernel⟩) (by decide) (p2 rfl)
  · exact oc_len (fun cs => na_str (by decide +kernel) (by decide +kernel)) (by decide) (p2 rfl)
  · exact oc_len (fun cs => na_pas) (by decide) (p2 rfl)
  · exact oc_len (fun cs => na_pas) (by simp) (p2 rfl)
  · exact oc_len (fun cs => na_pas) (by simp) (p2 rfl)
  · exact oc_no rfl rfl
  · exact oc_first (fun cs => na_str (by decide +kernel) (by decide +kernel)) (fun cs => ⟨_, _, .str, .str, by decide +kernel, by decide +kernel, by decide +kernel⟩) (p2 rfl)
  · exact srv rfl (.inl (srv_no (by omega)))
  · exact srv rfl (.inr (srv_no (by omega)))
  · exact srv rfl (.inl (srv_no (by omega)))
  · exact srv rfl (.inr (srv_no (by omega)))
  · exact srv rfl (.inl rfl)
  · exact srv rfl (.inr rfl)
  · exact srv rfl (.inl rfl)
  · exact srv rfl (.inr rfl)
  · exact srv rfl (.inl rfl)
  · exact oc_len (fun cs => na_pas) (by simp) (p2 rfl)
  · exact oc_len (fun cs => na_int) (by simp) (p2 rfl)
  · exact oc_first (fun cs => na_int) (fun cs => ⟨_, _, .int, .str, rfl, by decide +kernel, rfl⟩) (p2 rfl)
  · exact oc_len (fun cs => na_head (.tup (.cons .str .nil)) (by decide +kernel) (by decide +kernel)) (by simp) (p2 rfl)
  · exact oc_dct fun C B k => .nil
  · exact oc_dct (p2 rfl)
  · exact oc_len (fun cs => na_dct) (by simp) fun C B k => .cons (.dct .nil) .nil
  · exact oc_srv .dct .int (.inl rfl) fun C B k => .cons (.dct .nil) (.cons .int .nil)
  · exact srv rfl (.inl (srv_no (by omega)))
  · exact srv rfl (.inr (srv_no (by omega)))
  · exact oc_first (fun cs => na_head .non rfl rfl) (fun cs => ⟨_, _, .non, .str, rfl, by decide +kernel, rfl⟩) (p2 rfl)
  · exact oc_len (fun cs => na_head (.lst .l (.cons .str .nil)) (by decide +kernel) (by decide +kernel)) (by simp) (p2 rfl)
def g_odd : GN := fun ds cs P => ∃ (k : Nat) (n : Int) (s : List D) (c : Nat), ds = [.own k, .int n] ∧ cs[k]? = some s ∧ Src c s ∧ c < 800000000 ∧ 2 ≤ n ∧ n ≤ 60 ∧ ∀ (L : List D) s', (∀ t ∈ L, OddC n t) → L.length ≤ 100 → Src (c + 2) s' → P L (cs.set k s')
theorem ok_odd (GP : FnD P w K mg base 1 "_law_pick" ["feed", "wide"] (spD g_pick)) (F : FnP K "_law_odd" s__law_odd f fd) : FnG P w K mg base CX0 2 f fd ["feed", "size"] (spN g_odd) := by
  refine fnN F c__law_odd (fun ds cs P ⟨k, n, s, c, e, _⟩ => by rw [e]; rfl) fun cdv A outer s0 H E hr ds cs P' ⟨k, n, s, c, e, hs, hc, hc9, h2, h60, hp⟩ hb => ?_
  subst e
  have big : CMulW (10 ^ Int.toNat 60) (10 ^ Int.toNat 29) := by unfold CMulW; decide +kernel
  have bigN : (60 : Int) < 10 ^ Int.toNat 60 * 10 ^ Int.toNat 29 := by decide +kernel
  refine wss_cons (ws_par 2 3 (wa_cons (w_call GP hr ?_)) rfl c__law_odd.nd)
  (repeat (first | (first | refine w_nm 0 ?_ | refine w_nm 1 ?_ | refine w_nm 2 ?_ | refine w_nm 3 ?_ | refine w_nm 4 ?_ | refine w_nm 5 ?_ | refine w_nm 6 ?_ | refine w_nm 7 ?_ | refine w_nm 8 ?_ | refine w_nm 9 ?_ | refine w_nm 10 ?_ | refine w_nm 11 ?_ | refine w_nm 12 ?_ | refine w_nm 13 ?_) | refine w_int ?_ | refine wa_cons ?_))
  refine wa_nil ⟨k, n, s, c, rfl, hs, hc, by omega, by omega, by omega, fun g s1 g0 g1 hs1 => wa_cons (w_call GP hr ?_)⟩
  (repeat (first | (first | refine w_nm 0 ?_ | refine w_nm 1 ?_ | refine w_nm 2 ?_ | refine w_nm 3 ?_ | refine w_nm 4 ?_ | refine w_nm 5 ?_ | refine w_nm 6 ?_ | refine w_nm 7 ?_ | refine w_nm 8 ?_ | refine w_nm 9 ?_ | refine w_nm 10 ?_ | refine w_nm 11 ?_ | refine w_nm 12 ?_ | refine w_nm 13 ?_) | refine w_int ?_ | refine wa_cons ?_))
  refine wa_nil ⟨k, n, s1, c + 1, rfl, set_at hs, hs1, by omega, by omega, by omega, fun m s2 m0 m1 hs2 => wa_nil ⟨_, _, rfl, ?_⟩⟩
  rw [set2]
  refine wss_cons (ws_setN false 4 (wn_lst ?_) c__law_odd.nd)
  refine wa_cons (w_non (wa_cons (w_int (wa_cons (w_bl (wa_cons (w_str (wa_cons (w_str (wa_cons (w_str ?_)))))))))))
  refine wa_cons (w_tup (wa_nil ⟨by simp, ?_⟩))
  refine wa_cons (w_new (wn_lst (wa_nil ⟨by simp, ?_⟩)))
  refine wa_cons (w_tup (wa_cons (w_str (wa_cons (w_int (wa_nil ⟨by simp, ?_⟩))))))
  refine wa_cons (w_new (wn_lst (wa_cons (w_str (wa_nil ⟨by simp, ?_⟩)))))
  refine wa_cons (w_tup (wa_cons (w_str (wa_cons (w_str (wa_nil ⟨by simp, ?_⟩))))))
  refine wa_cons (w_tup (wa_cons (w_str (wa_nil ⟨by simp, ?_⟩))))
  refine wa_cons (w_tup (wa_cons (w_str (wa_nil ⟨by simp, wa_nil ⟨by simp, ?_⟩⟩))))
  refine wss_cons (ws_setN false 4 (wn_cat ?_) c__law_odd.nd)
  (first | refine w_nm 0 ?_ | refine w_nm 1 ?_ | refine w_nm 2 ?_ | refine w_nm 3 ?_ | refine w_nm 4 ?_ | refine w_nm 5 ?_ | refine w_nm 6 ?_ | refine w_nm 7 ?_ | refine w_nm 8 ?_ | refine w_nm 9 ?_ | refine w_nm 10 ?_ | refine w_nm 11 ?_ | refine w_nm 12 ?_ | refine w_nm 13 ?_)
  refine w_new (wn_lst (wa_cons (w_tup (wa_cons (w_str (wa_cons ?_))))))
  (first | refine w_nm 0 ?_ | refine w_nm 1 ?_ | refine w_nm 2 ?_ | refine w_nm 3 ?_ | refine w_nm 4 ?_ | refine w_nm 5 ?_ | refine w_nm 6 ?_ | refine w_nm 7 ?_ | refine w_nm 8 ?_ | refine w_nm 9 ?_ | refine w_nm 10 ?_ | refine w_nm 11 ?_ | refine w_nm 12 ?_ | refine w_nm 13 ?_)
  refine wa_nil ⟨by simp, wa_cons (w_tup (wa_cons (w_str (wa_cons ?_))))⟩
  (first | refine w_nm 0 ?_ | refine w_nm 1 ?_ | refine w_nm 2 ?_ | refine w_nm 3 ?_ | refine w_nm 4 ?_ | refine w_nm 5 ?_ | refine w_nm 6 ?_ | refine w_nm 7 ?_ | refine w_nm 8 ?_ | refine w_nm 9 ?_ | refine w_nm 10 ?_ | refine w_nm 11 ?_ | refine w_nm 12 ?_ | refine w_nm 13 ?_)
  refine wa_cons ?_
  (first | refine w_nm 0 ?_ | refine w_nm 1 ?_ | refine w_nm 2 ?_ | refine w_nm 3 ?_ | refine w_nm 4 ?_ | refine w_nm 5 ?_ | refine w_nm 6 ?_ | refine w_nm 7 ?_ | refine w_nm 8 ?_ | refine w_nm 9 ?_ | refine w_nm 10 ?_ | refine w_nm 11 ?_ | refine w_nm 12 ?_ | refine w_nm 13 ?_)
  refine wa_cons (w_int (wa_nil ⟨by simp, wa_cons (w_new (wn_lst (wa_cons (w_str (wa_cons ?_)))))⟩))
  (first | refine w_nm 0 ?_ | refine w_nm 1 ?_ | refine w_nm 2 ?_ | refine w_nm 3 ?_ | refine w_nm 4 ?_ | refine w_nm 5 ?_ | refine w_nm 6 ?_ | refine w_nm 7 ?_ | refine w_nm 8 ?_ | refine w_nm 9 ?_ | refine w_nm 10 ?_ | refine w_nm 11 ?_ | refine w_nm 12 ?_ | refine w_nm 13 ?_)
  refine wa_cons ?_
  (first | refine w_nm 0 ?_ | refine w_nm 1 ?_ | refine w_nm 2 ?_ | refine w_nm 3 ?_ | refine w_nm 4 ?_ | refine w_nm 5 ?_ | refine w_nm 6 ?_ | refine w_nm 7 ?_ | refine w_nm 8 ?_ | refine w_nm 9 ?_ | refine w_nm 10 ?_ | refine w_nm 11 ?_ | refine w_nm 12 ?_ | refine w_nm 13 ?_)
  refine wa_nil ⟨by simp, wa_cons (w_tup (wa_cons (w_str (wa_cons ?_))))⟩
  (first | refine w_nm 0 ?_ | refine w_nm 1 ?_ | refine w_nm 2 ?_ | refine w_nm 3 ?_ | refine w_nm 4 ?_ | refine w_nm 5 ?_ | refine w_nm 6 ?_ | refine w_nm 7 ?_ | refine w_nm 8 ?_ | refine w_nm 9 ?_ | refine w_nm 10 ?_ | refine w_nm 11 ?_ | refine w_nm 12 ?_ | refine w_nm 13 ?_)
  refine wa_cons ?_
  (first | refine w_nm 0 ?_ | refine w_nm 1 ?_ | refine w_nm 2 ?_ | refine w_nm 3 ?_ | refine w_nm 4 ?_ | refine w_nm 5 ?_ | refine w_nm 6 ?_ | refine w_nm 7 ?_ | refine w_nm 8 ?_ | refine w_nm 9 ?_ | refine w_nm 10 ?_ | refine w_nm 11 ?_ | refine w_nm 12 ?_ | refine w_nm 13 ?_)
  refine wa_nil ⟨by simp, wa_nil ⟨by simp, _, _, .l, .l, by simp, ?_⟩⟩
  refine wss_cons (ws_setN false 4 (wn_cat ?_) c__law_odd.nd)
  (first | refine w_nm 0 ?_ | refine w_nm 1 ?_ | refine w_nm 2 ?_ | refine w_nm 3 ?_ | refine w_nm 4 ?_ | refine w_nm 5 ?_ | refine w_nm 6 ?_ | refine w_nm 7 ?_ | refine w_nm 8 ?_ | refine w_nm 9 ?_ | refine w_nm 10 ?_ | refine w_nm 11 ?_ | refine w_nm 12 ?_ | refine w_nm 13 ?_)
  refine w_new (wn_lst (wa_cons (w_tup (wa_cons (w_str (wa_cons (w_neg (w_int ⟨1, rfl, wa_cons ?_⟩))))))))
  (first | refine w_nm 0 ?_ | refine w_nm 1 ?_ | refine w_nm 2 ?_ | refine w_nm 3 ?_ | refine w_nm 4 ?_ | refine w_nm 5 ?_ | refine w_nm 6 ?_ | refine w_nm 7 ?_ | refine w_nm 8 ?_ | refine w_nm 9 ?_ | refine w_nm 10 ?_ | refine w_nm 11 ?_ | refine w_nm 12 ?_ | refine w_nm 13 ?_)
  refine wa_nil ⟨by simp, wa_cons (w_tup (wa_cons (w_str (wa_cons ?_))))⟩
  (first | refine w_nm 0 ?_ | refine w_nm 1 ?_ | refine w_nm 2 ?_ | refine w_nm 3 ?_ | refine w_nm 4 ?_ | refine w_nm 5 ?_ | refine w_nm 6 ?_ | refine w_nm 7 ?_ | refine w_nm 8 ?_ | refine w_nm 9 ?_ | refine w_nm 10 ?_ | refine w_nm 11 ?_ | refine w_nm 12 ?_ | refine w_nm 13 ?_)
  refine wa_cons ?_
  (first | refine w_nm 0 ?_ | refine w_nm 1 ?_ | refine w_nm 2 ?_ | refine w_nm 3 ?_ | refine w_nm 4 ?_ | refine w_nm 5 ?_ | refine w_nm 6 ?_ | refine w_nm 7 ?_ | refine w_nm 8 ?_ | refine w_nm 9 ?_ | refine w_nm 10 ?_ | refine w_nm 11 ?_ | refine w_nm 12 ?_ | refine w_nm 13 ?_)
  refine wa_nil ⟨by simp, wa_cons (w_tup (wa_cons (w_str (wa_cons ?_))))⟩
  (first | refine w_nm 0 ?_ | refine w_nm 1 ?_ | refine w_nm 2 ?_ | refine w_nm 3 ?_ | refine w_nm 4 ?_ | refine w_nm 5 ?_ | refine w_nm 6 ?_ | refine w_nm 7 ?_ | refine w_nm 8 ?_ | refine w_nm 9 ?_ | refine w_nm 10 ?_ | refine w_nm 11 ?_ | refine w_nm 12 ?_ | refine w_nm 13 ?_)
  refine wa_cons ?_
  (first | refine w_nm 0 ?_ | refine w_nm 1 ?_ | refine w_nm 2 ?_ | refine w_nm 3 ?_ | refine w_nm 4 ?_ | refine w_nm 5 ?_ | refine w_nm 6 ?_ | refine w_nm 7 ?_ | refine w_nm 8 ?_ | refine w_nm 9 ?_ | refine w_nm 10 ?_ | refine w_nm 11 ?_ | refine w_nm 12 ?_ | refine w_nm 13 ?_)
  refine wa_nil ⟨by simp, wa_cons (w_tup (wa_cons (w_str (wa_cons ?_))))⟩
  (first | refine w_nm 0 ?_ | refine w_nm 1 ?_ | refine w_nm 2 ?_ | refine w_nm 3 ?_ | refine w_nm 4 ?_ | refine w_nm 5 ?_ | refine w_nm 6 ?_ | refine w_nm 7 ?_ | refine w_nm 8 ?_ | refine w_nm 9 ?_ | refine w_nm 10 ?_ | refine w_nm 11 ?_ | refine w_nm 12 ?_ | refine w_nm 13 ?_)
  refine wa_cons (w_neg (w_int ⟨1, rfl, wa_nil ⟨by simp, wa_nil ⟨by simp, _, _, .l, .l, by simp, ?_⟩⟩⟩))
  refine wss_cons (ws_setN false 4 (wn_cat ?_) c__law_odd.nd)
  (first | refine w_nm 0 ?_ | refine w_nm 1 ?_ | refine w_nm 2 ?_ | refine w_nm 3 ?_ | refine w_nm 4 ?_ | refine w_nm 5 ?_ | refine w_nm 6 ?_ | refine w_nm 7 ?_ | refine w_nm 8 ?_ | refine w_nm 9 ?_ | refine w_nm 10 ?_ | refine w_nm 11 ?_ | refine w_nm 12 ?_ | refine w_nm 13 ?_)
  refine w_new (wn_lst (wa_cons (w_tup (wa_cons (w_str (wa_cons (w_bl (wa_cons ?_))))))))
  (first | refine w_nm 0 ?_ | refine w_nm 1 ?_ | refine w_nm 2 ?_ | refine w_nm 3 ?_ | refine w_nm 4 ?_ | refine w_nm 5 ?_ | refine w_nm 6 ?_ | refine w_nm 7 ?_ | refine w_nm 8 ?_ | refine w_nm 9 ?_ | refine w_nm 10 ?_ | refine w_nm 11 ?_ | refine w_nm 12 ?_ | refine w_nm 13 ?_)
  refine wa_nil ⟨by simp, wa_cons (w_tup (wa_cons (w_str (wa_cons ?_))))⟩
  (first | refine w_nm 0 ?_ | refine w_nm 1 ?_ | refine w_nm 2 ?_ | refine w_nm 3 ?_ | refine w_nm 4 ?_ | refine w_nm 5 ?_ | refine w_nm 6 ?_ | refine w_nm 7 ?_ | refine w_nm 8 ?_ | refine w_nm 9 ?_ | refine w_nm 10 ?_ | refine w_nm 11 ?_ | refine w_nm 12 ?_ | refine w_nm 13 ?_)
  refine wa_cons (w_bl (wa_nil ⟨by simp, wa_cons (w_tup (wa_cons (w_str (wa_cons (w_non (wa_cons ?_))))))⟩))
  (first | refine w_nm 0 ?_ | refine w_nm 1 ?_ | refine w_nm 2 ?_ | refine w_nm 3 ?_ | refine w_nm 4 ?_ | refine w_nm 5 ?_ | refine w_nm 6 ?_ | refine w_nm 7 ?_ | refine w_nm 8 ?_ | refine w_nm 9 ?_ | refine w_nm 10 ?_ | refine w_nm 11 ?_ | refine w_nm 12 ?_ | refine w_nm 13 ?_)
  refine wa_nil ⟨by simp, wa_cons (w_tup (wa_cons (w_str (wa_cons ?_))))⟩
  (first | refine w_nm 0 ?_ | refine w_nm 1 ?_ | refine w_nm 2 ?_ | refine w_nm 3 ?_ | refine w_nm 4 ?_ | refine w_nm 5 ?_ | refine w_nm 6 ?_ | refine w_nm 7 ?_ | refine w_nm 8 ?_ | refine w_nm 9 ?_ | refine w_nm 10 ?_ | refine w_nm 11 ?_ | refine w_nm 12 ?_ | refine w_nm 13 ?_)
  refine wa_cons (w_str (wa_nil ⟨by simp, wa_nil ⟨by simp, _, _, .l, .l, by simp, ?_⟩⟩))
  refine wss_cons (ws_setN false 4 (wn_cat ?_) c__law_odd.nd)
  (first | refine w_nm 0 ?_ | refine w_nm 1 ?_ | refine w_nm 2 ?_ | refine w_nm 3 ?_ | refine w_nm 4 ?_ | refine w_nm 5 ?_ | refine w_nm 6 ?_ | refine w_nm 7 ?_ | refine w_nm 8 ?_ | refine w_nm 9 ?_ | refine w_nm 10 ?_ | refine w_nm 11 ?_ | refine w_nm 12 ?_ | refine w_nm 13 ?_)
  refine w_new (wn_lst (wa_cons (w_tup (wa_cons (w_str (wa_cons (w_new (wn_lst (wa_cons ?_)))))))))
  (first | refine w_nm 0 ?_ | refine w_nm 1 ?_ | refine w_nm 2 ?_ | refine w_nm 3 ?_ | refine w_nm 4 ?_ | refine w_nm 5 ?_ | refine w_nm 6 ?_ | refine w_nm 7 ?_ | refine w_nm 8 ?_ | refine w_nm 9 ?_ | refine w_nm 10 ?_ | refine w_nm 11 ?_ | refine w_nm 12 ?_ | refine w_nm 13 ?_)
  refine wa_nil ⟨by simp, wa_cons ?_⟩
  (first | refine w_nm 0 ?_ | refine w_nm 1 ?_ | refine w_nm 2 ?_ | refine w_nm 3 ?_ | refine w_nm 4 ?_ | refine w_nm 5 ?_ | refine w_nm 6 ?_ | refine w_nm 7 ?_ | refine w_nm 8 ?_ | refine w_nm 9 ?_ | refine w_nm 10 ?_ | refine w_nm 11 ?_ | refine w_nm 12 ?_ | refine w_nm 13 ?_)
  refine wa_nil ⟨by simp, wa_cons (w_tup (wa_cons (w_str (wa_cons (w_tup (wa_cons ?_))))))⟩
  (first | refine w_nm 0 ?_ | refine w_nm 1 ?_ | refine w_nm 2 ?_ | refine w_nm 3 ?_ | refine w_nm 4 ?_ | refine w_nm 5 ?_ | refine w_nm 6 ?_ | refine w_nm 7 ?_ | refine w_nm 8 ?_ | refine w_nm 9 ?_ | refine w_nm 10 ?_ | refine w_nm 11 ?_ | refine w_nm 12 ?_ | refine w_nm 13 ?_)
  refine wa_cons ?_
  (first | refine w_nm 0 ?_ | refine w_nm 1 ?_ | refine w_nm 2 ?_ | refine w_nm 3 ?_ | refine w_nm 4 ?_ | refine w_nm 5 ?_ | refine w_nm 6 ?_ | refine w_nm 7 ?_ | refine w_nm 8 ?_ | refine w_nm 9 ?_ | refine w_nm 10 ?_ | refine w_nm 11 ?_ | refine w_nm 12 ?_ | refine w_nm 13 ?_)
  refine wa_nil ⟨by simp, wa_nil ⟨by simp, wa_cons (w_tup (wa_cons ?_))⟩⟩
  (first | refine w_nm 0 ?_ | refine w_nm 1 ?_ | refine w_nm 2 ?_ | refine w_nm 3 ?_ | refine w_nm 4 ?_ | refine w_nm 5 ?_ | refine w_nm 6 ?_ | refine w_nm 7 ?_ | refine w_nm 8 ?_ | refine w_nm 9 ?_ | refine w_nm 10 ?_ | refine w_nm 11 ?_ | refine w_nm 12 ?_ | refine w_nm 13 ?_)
  refine wa_cons ?_
  (first | refine w_nm 0 ?_ | refine w_nm 1 ?_ | refine w_nm 2 ?_ | refine w_nm 3 ?_ | refine w_nm 4 ?_ | refine w_nm 5 ?_ | refine w_nm 6 ?_ | refine w_nm 7 ?_ | refine w_nm 8 ?_ | refine w_nm 9 ?_ | refine w_nm 10 ?_ | refine w_nm 11 ?_ | refine w_nm 12 ?_ | refine w_nm 13 ?_)
  refine wa_nil ⟨by simp, wa_cons (w_tup (wa_cons (w_int (wa_cons ?_))))⟩
  (first | refine w_nm 0 ?_ | refine w_nm 1 ?_ | refine w_nm 2 ?_ | refine w_nm 3 ?_ | refine w_nm 4 ?_ | refine w_nm 5 ?_ | refine w_nm 6 ?_ | refine w_nm 7 ?_ | refine w_nm 8 ?_ | refine w_nm 9 ?_ | refine w_nm 10 ?_ | refine w_nm 11 ?_ | refine w_nm 12 ?_ | refine w_nm 13 ?_)
  refine wa_cons ?_
  (first | refine w_nm 0 ?_ | refine w_nm 1 ?_ | refine w_nm 2 ?_ | refine w_nm 3 ?_ | refine w_nm 4 ?_ | refine w_nm 5 ?_ | refine w_nm 6 ?_ | refine w_nm 7 ?_ | refine w_nm 8 ?_ | refine w_nm 9 ?_ | refine w_nm 10 ?_ | refine w_nm 11 ?_ | refine w_nm 12 ?_ | refine w_nm 13 ?_)
  refine wa_nil ⟨by simp, wa_cons (w_tup (wa_cons (w_tup (wa_cons (w_str (wa_nil ⟨by simp, ?_⟩))))))⟩
  refine wa_nil ⟨by simp, wa_nil ⟨by simp, _, _, .l, .l, by simp, ?_⟩⟩
  refine wss_cons (ws_set 5 (w_mulW (w_pow (w_int (w_int ⟨_, _, rfl, rfl, ⟨by decide, by decide +kernel⟩, w_pow (w_int (w_int ⟨_, _, rfl, rfl, ⟨by decide, by decide +kernel⟩, _, _, rfl, rfl, big, ?_⟩))⟩)))) c__law_odd.nd)
  refine wss_cons (ws_setN false 4 (wn_cat ?_) c__law_odd.nd)
  (first | refine w_nm 0 ?_ | refine w_nm 1 ?_ | refine w_nm 2 ?_ | refine w_nm 3 ?_ | refine w_nm 4 ?_ | refine w_nm 5 ?_ | refine w_nm 6 ?_ | refine w_nm 7 ?_ | refine w_nm 8 ?_ | refine w_nm 9 ?_ | refine w_nm 10 ?_ | refine w_nm 11 ?_ | refine w_nm 12 ?_ | refine w_nm 13 ?_)
  refine w_new (wn_lst (wa_cons (w_dict0 (wa_cons (w_dict1E (w_new (wn_lst (wa_cons ?_))))))))
  (first | refine w_nm 0 ?_ | refine w_nm 1 ?_ | refine w_nm 2 ?_ | refine w_nm 3 ?_ | refine w_nm 4 ?_ | refine w_nm 5 ?_ | refine w_nm 6 ?_ | refine w_nm 7 ?_ | refine w_nm 8 ?_ | refine w_nm 9 ?_ | refine w_nm 10 ?_ | refine w_nm 11 ?_ | refine w_nm 12 ?_ | refine w_nm 13 ?_)
  refine wa_cons ?_
  (first | refine w_nm 0 ?_ | refine w_nm 1 ?_ | refine w_nm 2 ?_ | refine w_nm 3 ?_ | refine w_nm 4 ?_ | refine w_nm 5 ?_ | refine w_nm 6 ?_ | refine w_nm 7 ?_ | refine w_nm 8 ?_ | refine w_nm 9 ?_ | refine w_nm 10 ?_ | refine w_nm 11 ?_ | refine w_nm 12 ?_ | refine w_nm 13 ?_)
  refine wa_nil ⟨by simp, wa_cons (w_tup (wa_cons (w_dict0 (wa_nil ⟨by simp, wa_cons (w_tup (wa_cons (w_str (wa_cons (w_dict0 (wa_cons ?_))))))⟩))))⟩
  (first | refine w_nm 0 ?_ | refine w_nm 1 ?_ | refine w_nm 2 ?_ | refine w_nm 3 ?_ | refine w_nm 4 ?_ | refine w_nm 5 ?_ | refine w_nm 6 ?_ | refine w_nm 7 ?_ | refine w_nm 8 ?_ | refine w_nm 9 ?_ | refine w_nm 10 ?_ | refine w_nm 11 ?_ | refine w_nm 12 ?_ | refine w_nm 13 ?_)
  refine wa_nil ⟨by simp, wa_nil ⟨by simp, _, _, .l, .l, by simp, ?_⟩⟩
  refine wss_one (ws_ret (w_cell (wn_cat ?_)))
  (first | refine w_nm 0 ?_ | refine w_nm 1 ?_ | refine w_nm 2 ?_ | refine w_nm 3 ?_ | refine w_nm 4 ?_ | refine w_nm 5 ?_ | refine w_nm 6 ?_ | refine w_nm 7 ?_ | refine w_nm 8 ?_ | refine w_nm 9 ?_ | refine w_nm 10 ?_ | refine w_nm 11 ?_ | refine w_nm 12 ?_ | refine w_nm 13 ?_)
  refine w_new (wn_lst (wa_cons (w_tup (wa_cons (w_str (wa_cons ?_))))))
  (first | refine w_nm 0 ?_ | refine w_nm 1 ?_ | refine w_nm 2 ?_ | refine w_nm 3 ?_ | refine w_nm 4 ?_ | refine w_nm 5 ?_ | refine w_nm 6 ?_ | refine w_nm 7 ?_ | refine w_nm 8 ?_ | refine w_nm 9 ?_ | refine w_nm 10 ?_ | refine w_nm 11 ?_ | refine w_nm 12 ?_ | refine w_nm 13 ?_)
  refine wa_cons ?_
  (first | refine w_nm 0 ?_ | refine w_nm 1 ?_ | refine w_nm 2 ?_ | refine w_nm 3 ?_ | refine w_nm 4 ?_ | refine w_nm 5 ?_ | refine w_nm 6 ?_ | refine w_nm 7 ?_ | refine w_nm 8 ?_ | refine w_nm 9 ?_ | refine w_nm 10 ?_ | refine w_nm 11 ?_ | refine w_nm 12 ?_ | refine w_nm 13 ?_)
  refine wa_nil ⟨by simp, wa_cons (w_tup (wa_cons (w_str (wa_cons ?_))))⟩
  (first | refine w_nm 0 ?_ | refine w_nm 1 ?_ | refine w_nm 2 ?_ | refine w_nm 3 ?_ | refine w_nm 4 ?_ | refine w_nm 5 ?_ | refine w_nm 6 ?_ | refine w_nm 7 ?_ | refine w_nm 8 ?_ | refine w_nm 9 ?_ | refine w_nm 10 ?_ | refine w_nm 11 ?_ | refine w_nm 12 ?_ | refine w_nm 13 ?_)
  refine wa_cons (w_sub (w_int ?_))
  (first | refine w_nm 0 ?_ | refine w_nm 1 ?_ | refine w_nm 2 ?_ | refine w_nm 3 ?_ | refine w_nm 4 ?_ | refine w_nm 5 ?_ | refine w_nm 6 ?_ | refine w_nm 7 ?_ | refine w_nm 8 ?_ | refine w_nm 9 ?_ | refine w_nm 10 ?_ | refine w_nm 11 ?_ | refine w_nm 12 ?_ | refine w_nm 13 ?_)
  refine ⟨_, _, rfl, rfl, wa_nil ⟨by simp, wa_cons (w_tup (wa_cons (w_non (wa_cons ?_))))⟩⟩
  (first | refine w_nm 0 ?_ | refine w_nm 1 ?_ | refine w_nm 2 ?_ | refine w_nm 3 ?_ | refine w_nm 4 ?_ | refine w_nm 5 ?_ | refine w_nm 6 ?_ | refine w_nm 7 ?_ | refine w_nm 8 ?_ | refine w_nm 9 ?_ | refine w_nm 10 ?_ | refine w_nm 11 ?_ | refine w_nm 12 ?_ | refine w_nm 13 ?_)
  refine wa_cons ?_
  (first | refine w_nm 0 ?_ | refine w_nm 1 ?_ | refine w_nm 2 ?_ | refine w_nm 3 ?_ | refine w_nm 4 ?_ | refine w_nm 5 ?_ | refine w_nm 6 ?_ | refine w_nm 7 ?_ | refine w_nm 8 ?_ | refine w_nm 9 ?_ | refine w_nm 10 ?_ | refine w_nm 11 ?_ | refine w_nm 12 ?_ | refine w_nm 13 ?_)
  refine wa_nil ⟨by simp, wa_cons (w_tup (wa_cons (w_new (wn_lst (wa_cons (w_str (wa_nil ⟨by simp, ?_⟩)))))))⟩
  refine wa_nil ⟨by simp, wa_nil ⟨by simp, _, _, .l, .l, by simp, ?_⟩⟩
  have ok := odds_ok (n := n) (g := g) (m := m) h60 bigN
  refine ⟨(cs.set k s2).length, _, oddsL n g m (10 ^ Int.toNat 60 * 10 ^ Int.toNat 29), rfl, by simp, last_at, ?_, hb.lowSet hs2, ?_⟩
  · have all : ∀ {L : List D}, (∀ t ∈ L, OddC n t) → ∀ (C : Cs) (B q : Nat), ResL C B q L L := fun {L} h C B q => by
      induction L with
      | nil => exact .nil
      | cons x xs ih => exact .cons ((h x List.mem_cons_self).res C B q) (ih fun y hy => h y (List.mem_cons_of_mem _ hy))
    exact all ok _ _ _
  · rw [show cs.length = (cs.set k s2).length by simp, List.take_left' rfl]
    exact hp _ s2 ok (by simp) hs2
end
end K
set_option Elab.async false
set_option linter.all false
set_option maxRecDepth 100000
set_option maxHeartbeats 4100000
namespace K
open PySem PySem.Spec
open PyProof.Rows L2 Rg
section
variable {P : Program} {w : World} {K : PySem.W.Frag} {mg : Str → Option Value}
variable {base : Heap} {f : Addr} {fd : FuncData}
def gEqS : GD2 := fun d1 d2 cs P => ∃ s t, d1 = .str s ∧ d2 = .str t ∧ P (.bl (decide (s = t))) cs
theorem od_eqS : OpD rEq gEqS := by
  rintro as hs H x y d1 d2 cs P Q c r1 r2 ⟨s, t, rfl, rfl, hp⟩ qq
  cases r1
  cases r2
  refine ⟨rfl, ?_⟩
  have := qq _ _ _ _ _ (Grow.refl as H) c .bl hp
  simpa using this
section
variable {X : Cx} {ρ : Ro} {cs : Cs} {a b : Expr} {P : PD} {pos : Pos}
theorem w_eqS (h : W X a ρ cs fun d1 cs1 => W X b ρ cs1 fun d2 cs2 => ∃ s t, d1 = .str s ∧ d2 = .str t ∧ P (.bl (decide (s = t))) cs2) : W X (.Compare a [.Eq] [b] pos) ρ cs P := w_cmp op_eq od_eqS (nomark _) h
end
abbrev s__law_right : Stmt := topS 40
abbrev n__law_right : List Str := ["feed", "size", "stops", "things", "kept", "hidden", "claim", "due", "told", "there", "stop"]
theorem c__law_right : FnScope n__law_right ["feed", "size", "stops", "things"] (defScope s__law_right) := ⟨rfl, rfl, rfl, by decide +kernel, rfl, by decide +kernel, by decide +kernel⟩
def gKd {α : Type} : List α → List α → List α := fun us es => match us, es with | [], [a, b, n] => [n, b, a] | _, _ => []
abbrev clD (c : Nat × Nat) : D := .tup [.str "passed", .int (c.1 : Nat), .int (c.2 : Nat)]
abbrev clPy (c : Nat × Nat) : PyData := .tuple [.str "passed", .int (c.1 : Nat), .int (c.2 : Nat)]
abbrev pyAll (js : List Int) (cl : List (Nat × Nat)) : PyData := .list [.list (js.map PyData.int), .list (cl.map clPy)]
theorem cl_pyz {cs : Cs} : ∀ cl : List (Nat × Nat), ToPyZL cs (cl.map clD) (cl.map clPy)
  | [] => .nil
  | c :: cl => .cons (.flat (.tup (.cons .str (.cons .int (.cons .int .nil)))) rfl) (cl_pyz cl)
theorem all_txt {cs : Cs} {js : List Int} {cl : List (Nat × Nat)} {kt : Nat} (h : cs[kt]? = some (cl.map clD)) (hj : ∀ j ∈ js, j.natAbs < 10 ^ 100) (hl : js.length ≤ 60) (hc : ∀ c ∈ cl, c.1 < 60 ∧ c.2 < 60) (hcl : cl.length ≤ 100) : TxtZ cs (.lst [.lst (js.map .int), .own kt]) (pyAll js cl) := by
  have t1 : TB 1 (js.length * 1) (.list (js.map PyData.int)) := by
    have := tb_list (m := 0) (b := 0) (xs := js.map PyData.int) fun p hp => by
      obtain ⟨i, hi, rfl⟩ := List.mem_map.mp hp
      exact tb_int (hj i hi)
    rwa [List.length_map] at this
  have ts : TB 0 10 (.str "passed") := ⟨rfl, by decide, by decide +kernel, by decide +kernel⟩
  have t2 : TB 2 (cl.length * (3 * 11 + 1)) (.list (cl.map clPy)) := by
    have := tb_list (m := 1) (b := 3 * 11) (xs := cl.map clPy) fun p hp => by
      obtain ⟨c, hc2, rfl⟩ := List.mem_map.mp hp
      have := hc c hc2
      refine tb_tup (m := 0) (b := 10) (xs := [PyData.str "passed", .int (c.1 : Nat), .int (c.2 : Nat)]) fun q hq => ?_
      simp only [List.mem_cons, List.not_mem_nil, or_false] at hq
      rcases hq with rfl | rfl | rfl
      · exact ts
      · exact tb_mono (tb_int (by omega)) (Nat.le_refl _) (by decide)
      · exact tb_mono (tb_int (by omega)) (Nat.le_refl _) (by decide)
    rwa [List.length_map] at this
  have t3 := tb_list (m := 2) (b := 4000) (xs := [PyData.list (js.map PyData.int), .list (cl.map clPy)]) fun q hq => by
    simp only [List.mem_cons, List.not_mem_nil, or_false] at hq
    rcases hq with rfl | rfl
    · exact tb_mono t1 (by decide) (by omega)
    · exact tb_mono t2 (Nat.le_refl _) (by omega)
  exact ⟨.lst .l (.cons (.lst .l (by
    clear hj hl t1 t3
    induction js with
    | nil => exact .nil
    | cons j js ih => exact .cons (.flat .int rfl) ih)) (.cons (.lst (.o h) (cl_pyz cl)) .nil)), t3.show_, Nat.le_trans t3.dep (by decide), tb_fits t3 (by simp)⟩
theorem conf_claim {cs : Cs} {n : Int} {o : List (Option Int)} {i k : Nat} (hi : i < n.toNat) (hk : k < n.toNat) : ConfX cs n o (clD (i, k)) (pasB n o i k) := by
  refine .inr (.inr ⟨_, rfl, na_pas, .inr ⟨_, _, _, rfl, .inr ⟨rfl, ⟨_, .int⟩, ⟨_, .int⟩, ?_⟩⟩⟩)
  have e : ∀ a : Nat, a < n.toNat → srvB n (.int (a : Int)) = true := fun a ha => by
    show (decide ((0 : Int) ≤ (a : Int)) && decide ((a : Int) < n)) = true
    rw [decide_eq_true (by omega), decide_eq_true (show (a : Int) < n by omega)]; rfl
  rw [e i hi, e k hk]
  rfl
theorem conf_all {cs : Cs} {n : Int} {o : List (Option Int)} {b : Bool} (h : b = true ↔ ∀ v : Int, 0 ≤ v → v < n → some v ∈ o) : ConfX cs n o (.tup [.str "all"]) b := .inr (.inl ⟨rfl, h⟩)
theorem pq_two {m : Nat} {a b : Bool} : Pq (m + 1) (.list [.bool a, .bool b]) := .list (fun x hx => by
  (simp only [List.mem_cons, List.not_mem_nil, or_false] at hx)
  rcases hx with rfl | rfl <;> exact .bl) (by simp)
theorem pq_three {m : Nat} {a b c : Bool} : Pq (m + 1) (.list [.bool a, .bool b, .bool c]) := .list (fun x hx => by
  (simp only [List.mem_cons, List.not_mem_nil, or_false] at hx)
  rcases hx with rfl | rfl | rfl <;> exact .bl) (by simp)
def g_right15 : GD := fun ds cs P => ∃ (k kt : Nat) (n : Int) (js : List Int) (cl : List (Nat × Nat)) (s : List D) (c : Nat), ds = [.own k, .int n, .lst (js.map .int), .own kt] ∧ k ≠ kt ∧ cs[k]? = some s ∧ Src c s ∧ c < 700000000 ∧ cs[kt]? = some (cl.map clD) ∧ 2 ≤ n ∧ n ≤ 60 ∧ js.length = n.toNat ∧ (∀ v ∈ js, 0 ≤ v ∧ v < n) ∧ (∀ c ∈ cl, c.1 < n.toNat ∧ c.2 < n.toNat) ∧ cl.length ≤ 100 ∧ ∀ s', Src (c + 100) s' → P (.bl true) (cs.set k s')
theorem ok_right15 (M : Bl mg) (GP : FnD P w K mg base 1 "_law_pick" ["feed", "wide"] (spD g_pick)) (GT : FnD P w K mg base 2 "_law_true" ["size", "stops", "claim"] (spD g_ltrue)) (GS : FnD P w K mg base 4 "shows" ["n", "assignment", "thing"] (spD g_showsX)) (GSK : FnK P w K mg base 4 "shows" ["n", "assignment", "thing"] ["thing", "assignment", "n"] gKd (spD g_showsX)) (GC : FnD P w K mg base 4 "shows_conflict" ["n", "seen", "thing"] (spD g_showsC)) (GCK : FnK P w K mg base 4 "shows_conflict" ["n", "seen", "thing"] ["thing", "seen", "n"] gKd (spD g_showsC)) (GO : FnD P w K mg base 2 "_law_odd" ["feed", "size"] (spN g_odd)) (GSm : FnD P w K mg base 3 "_law_same" ["found", "due"] (spD (g_same 2))) (F : FnP K "_law_right" s__law_right f fd) : FnG P w K mg base CX0 5 f fd ["feed", "size", "stops", "things"] (spD g_right15) := by
  refine fnD F c__law_right (fun ds cs P ⟨k, kt, n, js, cl, s, c, e, _⟩ => by rw [e]; rfl) fun cdv A outer s0 H E hr ds cs P' ⟨k, kt, n, js, cl, s, c, e, hkt, hs, hc, hc9, hcl, h2, h60, hjl, hjin, hclin, hcll, hp⟩ hb => ?_
  subst e
  have hj60 : js.length ≤ 60 := by omega
  have sm : ∀ j ∈ js, j.natAbs < 10 ^ 100 := fun j hj => by have := hjin j hj; omega
  have clsm : ∀ c ∈ cl, c.1 < 60 ∧ c.2 < 60 := fun c h => by have := hclin c h; omega
  have txt : ∀ {C : Cs}, C[kt]? = some (cl.map clD) → TxtZ C (.lst [.lst (js.map .int), .own kt]) (pyAll js cl) := fun h => all_txt h sm hj60 clsm hcll
  have obS := obs_some h2 h60 hjl hjin
  have lS : ∀ {C : Cs}, LstD C (.lst (js.map .int)) (seenD (js.map some)) := fun {C} => by rw [seen_some]; exact .l
  refine wss_cons (ws_set 4 (w_reprZ hr.gd hr.units M.repr (wa_cons (w_new (wn_lst (wa_cons ?_))))) c__law_right.nd)
  (first | refine w_nm 0 ?_ | refine w_nm 1 ?_ | refine w_nm 2 ?_ | refine w_nm 3 ?_ | refine w_nm 4 ?_ | refine w_nm 5 ?_ | refine w_nm 6 ?_ | refine w_nm 7 ?_ | refine w_nm 8 ?_ | refine w_nm 9 ?_ | refine w_nm 10 ?_ | refine w_nm 11 ?_ | refine w_nm 12 ?_ | refine w_nm 13 ?_)
  refine wa_cons ?_
  (first | refine w_nm 0 ?_ | refine w_nm 1 ?_ | refine w_nm 2 ?_ | refine w_nm 3 ?_ | refine w_nm 4 ?_ | refine w_nm 5 ?_ | refine w_nm 6 ?_ | refine w_nm 7 ?_ | refine w_nm 8 ?_ | refine w_nm 9 ?_ | refine w_nm 10 ?_ | refine w_nm 11 ?_ | refine w_nm 12 ?_ | refine w_nm 13 ?_)
  refine wa_nil ⟨by simp, wa_nil ⟨_, _, rfl, txt hcl, ?_⟩⟩
  refine wss_cons (ws_lc false 5 10 rfl c__law_right.nd (sw_true rfl rfl rfl (by decide +kernel)) (blkOk_by (N := n__law_right) (sc := defScope s__law_right) (by decide +kernel)) (fun _ _ _ _ _ => pg_name (FnScope.nd c__law_right) rfl (.inl rfl)) ?_)
  (first | refine w_nm 0 ?_ | refine w_nm 1 ?_ | refine w_nm 2 ?_ | refine w_nm 3 ?_ | refine w_nm 4 ?_ | refine w_nm 5 ?_ | refine w_nm 6 ?_ | refine w_nm 7 ?_ | refine w_nm 8 ?_ | refine w_nm 9 ?_ | refine w_nm 10 ?_ | refine w_nm 11 ?_ | refine w_nm 12 ?_ | refine w_nm 13 ?_)
  refine ⟨js.map .int, fun t acc C => ∃ (o : List (Option Int)) (s' : List D), acc = seenD o ∧ o.length = t ∧ t ≤ js.length ∧ (∀ v, some v ∈ o → v ∈ js) ∧ C = cs.set k s' ∧ Src (c + t) s', ⟨[], s, rfl, rfl, Nat.zero_le _, (fun _ z => nomatch z), (set_none hs).symm, hc⟩, ?_, ?_, ?_⟩
  · rintro t acc C ⟨o, s', rfl, hl, ht, _⟩
    exact ⟨.l, by rw [List.length_map]; omega⟩
  · rintro t x acc C hx ⟨o, s', rfl, rfl, ht, hin, rfl, hs'⟩
    obtain ⟨j, hj, rfl⟩ := mapInt_get hx
    have htl := (List.getElem?_eq_some_iff.mp hj).1
    refine tno ?_
    intro s20 H20 C2 cl2 fp
    refine w_at (w_new (wn_lst (wa_cons ?_)))
    (first | refine w_nm 0 ?_ | refine w_nm 1 ?_ | refine w_nm 2 ?_ | refine w_nm 3 ?_ | refine w_nm 4 ?_ | refine w_nm 5 ?_ | refine w_nm 6 ?_ | refine w_nm 7 ?_ | refine w_nm 8 ?_ | refine w_nm 9 ?_ | refine w_nm 10 ?_ | refine w_nm 11 ?_ | refine w_nm 12 ?_ | refine w_nm 13 ?_)
    refine wa_cons (w_non (wa_nil ⟨by simp, w_intB M.int (wa_cons (w_eq hr.units (w_call GP (hr.mono (by decide)) ?_)))⟩))
    (repeat (first | (first | refine w_nm 0 ?_ | refine w_nm 1 ?_ | refine w_nm 2 ?_ | refine w_nm 3 ?_ | refine w_nm 4 ?_ | refine w_nm 5 ?_ | refine w_nm 6 ?_ | refine w_nm 7 ?_ | refine w_nm 8 ?_ | refine w_nm 9 ?_ | refine w_nm 10 ?_ | refine w_nm 11 ?_ | refine w_nm 12 ?_ | refine w_nm 13 ?_) | refine w_int ?_ | refine wa_cons ?_))
    refine wa_nil ⟨k, 4, s', c + o.length, rfl, set_at hs, hs', by omega, by decide, by decide, fun r s'' _ _ hs'' => w_int ⟨_, eqd_int, wa_nil ⟨_, rfl, ?_⟩⟩⟩
    rw [set2]
    by_cases h0 : r = 0
    · rw [decide_eq_true h0, if_pos rfl]
      refine ⟨_, 1, .non, .l, rfl, rfl, o ++ [none], s'', by simp [optD], by simp, by omega, fun v hv => ?_, rfl, hs''⟩
      rcases List.mem_append.mp hv with h | h
      · exact hin v h
      · simp at h
    · rw [decide_eq_false h0, if_neg (by decide)]
      refine ⟨_, 0, .int j, .l, rfl, rfl, o ++ [some j], s'', by simp [optD], by simp, by omega, fun v hv => ?_, rfl, hs''⟩
      rcases List.mem_append.mp hv with h | h
      · exact hin v h
      · simp at h
        rw [h]
        exact List.mem_of_getElem? hj
  rintro acc C ⟨o, s1, rfl, hol, _, hoin, rfl, hs1⟩
  rw [List.length_map] at hol
  show WSs _ _ _ _ _ _
  have ob : Obs n o := ⟨h2, h60, by omega, fun v hv => hjin v (hoin v hv)⟩
  have hclC : (cs.set k s1)[kt]? = some (cl.map clD) := by rw [List.getElem?_set_ne hkt]; exact hcl
  have hkC : (cs.set k s1)[k]? = some s1 := set_at hs
  refine wss_cons (ws_for (hp := PassesOwn.never) 6 rfl c__law_right.nd ?_)
  (first | refine w_nm 0 ?_ | refine w_nm 1 ?_ | refine w_nm 2 ?_ | refine w_nm 3 ?_ | refine w_nm 4 ?_ | refine w_nm 5 ?_ | refine w_nm 6 ?_ | refine w_nm 7 ?_ | refine w_nm 8 ?_ | refine w_nm 9 ?_ | refine w_nm 10 ?_ | refine w_nm 11 ?_ | refine w_nm 12 ?_ | refine w_nm 13 ?_)
  refine ⟨cl.map clD, fun t ρ' C => (∃ z6 z7 z8, ρ' = [some (.own k), some (.int n), some (.lst (js.map .int)), some (.own kt), some (.str (pyAll js cl).shown), some (.lst (seenD o)), z6, z7, z8, none, none]) ∧ C = cs.set k s1, ⟨⟨_, _, _, rfl⟩, rfl⟩, fun t ρ' C ⟨_, e⟩ => by rw [e]; exact .o hclC, ?_, ?_⟩
  · rintro t x ρ' C hx ⟨⟨z6, z7, z8, rfl⟩, rfl⟩
    rw [List.getElem?_map] at hx
    obtain ⟨⟨i, m⟩, hxc, rfl⟩ := Option.map_eq_some_iff.mp hx
    obtain ⟨hi, hm⟩ := hclin _ (List.mem_of_getElem? hxc)
    have cS : ∀ {C : Cs}, ConfX C n (js.map some) (clD (i, m)) (pasB n (js.map some) i m) := conf_claim hi hm
    have cO : ∀ {C : Cs}, ConfX C n o (clD (i, m)) (pasB n o i m) := conf_claim hi hm
    have hm2 : m < n.toNat := hm
    have hi2 : i < n.toNat := hi
    refine wss_cons (ws_setN false 7 (wn_lst (wa_cons (w_call GT (hr.mono (by decide)) ?_))) c__law_right.nd)
    (repeat (first | (first | refine w_nm 0 ?_ | refine w_nm 1 ?_ | refine w_nm 2 ?_ | refine w_nm 3 ?_ | refine w_nm 4 ?_ | refine w_nm 5 ?_ | refine w_nm 6 ?_ | refine w_nm 7 ?_ | refine w_nm 8 ?_ | refine w_nm 9 ?_ | refine w_nm 10 ?_ | refine w_nm 11 ?_ | refine w_nm 12 ?_ | refine w_nm 13 ?_) | refine w_int ?_ | refine wa_cons ?_))
    refine wa_nil ⟨n, _, js.map some, i, m, rfl, lS, obS, hi2, hm2, wa_cons (w_call GT (hr.mono (by decide)) ?_)⟩
    (repeat (first | (first | refine w_nm 0 ?_ | refine w_nm 1 ?_ | refine w_nm 2 ?_ | refine w_nm 3 ?_ | refine w_nm 4 ?_ | refine w_nm 5 ?_ | refine w_nm 6 ?_ | refine w_nm 7 ?_ | refine w_nm 8 ?_ | refine w_nm 9 ?_ | refine w_nm 10 ?_ | refine w_nm 11 ?_ | refine w_nm 12 ?_ | refine w_nm 13 ?_) | refine w_int ?_ | refine wa_cons ?_))
    refine wa_nil ⟨n, _, o, i, m, rfl, .l, ob, hi2, hm2, wa_nil ⟨by simp, ?_⟩⟩
    refine wss_cons (ws_setN false 8 (wn_lst (wa_cons (w_call GS (hr.mono (by decide)) ?_))) c__law_right.nd)
    (repeat (first | (first | refine w_nm 0 ?_ | refine w_nm 1 ?_ | refine w_nm 2 ?_ | refine w_nm 3 ?_ | refine w_nm 4 ?_ | refine w_nm 5 ?_ | refine w_nm 6 ?_ | refine w_nm 7 ?_ | refine w_nm 8 ?_ | refine w_nm 9 ?_ | refine w_nm 10 ?_ | refine w_nm 11 ?_ | refine w_nm 12 ?_ | refine w_nm 13 ?_) | refine w_int ?_ | refine wa_cons ?_))
    refine wa_nil ⟨n, _, _, js, _, rfl, .l, rfl, hjl, h2, h60, hjin, cS, wa_cons (w_call GC (hr.mono (by decide)) ?_)⟩
    (repeat (first | (first | refine w_nm 0 ?_ | refine w_nm 1 ?_ | refine w_nm 2 ?_ | refine w_nm 3 ?_ | refine w_nm 4 ?_ | refine w_nm 5 ?_ | refine w_nm 6 ?_ | refine w_nm 7 ?_ | refine w_nm 8 ?_ | refine w_nm 9 ?_ | refine w_nm 10 ?_ | refine w_nm 11 ?_ | refine w_nm 12 ?_ | refine w_nm 13 ?_) | refine w_int ?_ | refine wa_cons ?_))
    refine wa_nil ⟨n, _, _, o, _, rfl, .l, rfl, ob, cO, wa_nil ⟨by simp, ?_⟩⟩
    have py2 : ∀ {C : Cs} {a b : Bool}, ToPy C (.lst [.bl a, .bl b]) (.list [.bool a, .bool b]) := .lst .l (.cons .bl (.cons .bl .nil))
    refine wss_cons (ws_if (wt_bool (ww_or (wt_not (wt_val (w_call GSm (hr.mono (by decide)) ?_))))))
    (repeat (first | (first | refine w_nm 0 ?_ | refine w_nm 1 ?_ | refine w_nm 2 ?_ | refine w_nm 3 ?_ | refine w_nm 4 ?_ | refine w_nm 5 ?_ | refine w_nm 6 ?_ | refine w_nm 7 ?_ | refine w_nm 8 ?_ | refine w_nm 9 ?_ | refine w_nm 10 ?_ | refine w_nm 11 ?_ | refine w_nm 12 ?_ | refine w_nm 13 ?_) | refine w_int ?_ | refine wa_cons ?_))
    refine wa_nil ⟨_, _, _, rfl, py2, py2, pq_two, true, rfl, ?_⟩
    refine ww_or1 (wt_not (wt_val (w_call GSm (hr.mono (by decide)) (wa_cons (w_call GC (hr.mono (by decide)) ?_)))))
    (repeat (first | (first | refine w_nm 0 ?_ | refine w_nm 1 ?_ | refine w_nm 2 ?_ | refine w_nm 3 ?_ | refine w_nm 4 ?_ | refine w_nm 5 ?_ | refine w_nm 6 ?_ | refine w_nm 7 ?_ | refine w_nm 8 ?_ | refine w_nm 9 ?_ | refine w_nm 10 ?_ | refine w_nm 11 ?_ | refine w_nm 12 ?_ | refine w_nm 13 ?_) | refine w_int ?_ | refine wa_cons ?_))
    refine wa_nil ⟨n, _, _, js.map some, _, rfl, lS, rfl, obS, cS, wa_cons (w_at ?_)⟩
    (first | refine w_nm 0 ?_ | refine w_nm 1 ?_ | refine w_nm 2 ?_ | refine w_nm 3 ?_ | refine w_nm 4 ?_ | refine w_nm 5 ?_ | refine w_nm 6 ?_ | refine w_nm 7 ?_ | refine w_nm 8 ?_ | refine w_nm 9 ?_ | refine w_nm 10 ?_ | refine w_nm 11 ?_ | refine w_nm 12 ?_ | refine w_nm 13 ?_)
    refine w_int ⟨_, 0, _, .l, rfl, rfl, wa_nil ⟨_, _, _, rfl, .bl, .bl, .bl, true, rfl, ?_⟩⟩
    refine wss_nil (wss_cons (ws_setN false 8 (wn_lst (wa_cons (w_callK GSK (hr.mono (by decide)) (wk_cons ?_)))) c__law_right.nd))
    (first | refine w_nm 0 ?_ | refine w_nm 1 ?_ | refine w_nm 2 ?_ | refine w_nm 3 ?_ | refine w_nm 4 ?_ | refine w_nm 5 ?_ | refine w_nm 6 ?_ | refine w_nm 7 ?_ | refine w_nm 8 ?_ | refine w_nm 9 ?_ | refine w_nm 10 ?_ | refine w_nm 11 ?_ | refine w_nm 12 ?_ | refine w_nm 13 ?_)
    refine wk_cons ?_
    (first | refine w_nm 0 ?_ | refine w_nm 1 ?_ | refine w_nm 2 ?_ | refine w_nm 3 ?_ | refine w_nm 4 ?_ | refine w_nm 5 ?_ | refine w_nm 6 ?_ | refine w_nm 7 ?_ | refine w_nm 8 ?_ | refine w_nm 9 ?_ | refine w_nm 10 ?_ | refine w_nm 11 ?_ | refine w_nm 12 ?_ | refine w_nm 13 ?_)
    refine wk_cons ?_
    (first | refine w_nm 0 ?_ | refine w_nm 1 ?_ | refine w_nm 2 ?_ | refine w_nm 3 ?_ | refine w_nm 4 ?_ | refine w_nm 5 ?_ | refine w_nm 6 ?_ | refine w_nm 7 ?_ | refine w_nm 8 ?_ | refine w_nm 9 ?_ | refine w_nm 10 ?_ | refine w_nm 11 ?_ | refine w_nm 12 ?_ | refine w_nm 13 ?_)
    refine wk_nil ⟨n, _, _, js, _, rfl, .l, rfl, hjl, h2, h60, hjin, cS, wa_cons (w_callK GCK (hr.mono (by decide)) (wk_cons ?_))⟩
    (first | refine w_nm 0 ?_ | refine w_nm 1 ?_ | refine w_nm 2 ?_ | refine w_nm 3 ?_ | refine w_nm 4 ?_ | refine w_nm 5 ?_ | refine w_nm 6 ?_ | refine w_nm 7 ?_ | refine w_nm 8 ?_ | refine w_nm 9 ?_ | refine w_nm 10 ?_ | refine w_nm 11 ?_ | refine w_nm 12 ?_ | refine w_nm 13 ?_)
    refine wk_cons ?_
    (first | refine w_nm 0 ?_ | refine w_nm 1 ?_ | refine w_nm 2 ?_ | refine w_nm 3 ?_ | refine w_nm 4 ?_ | refine w_nm 5 ?_ | refine w_nm 6 ?_ | refine w_nm 7 ?_ | refine w_nm 8 ?_ | refine w_nm 9 ?_ | refine w_nm 10 ?_ | refine w_nm 11 ?_ | refine w_nm 12 ?_ | refine w_nm 13 ?_)
    refine wk_cons ?_
    (first | refine w_nm 0 ?_ | refine w_nm 1 ?_ | refine w_nm 2 ?_ | refine w_nm 3 ?_ | refine w_nm 4 ?_ | refine w_nm 5 ?_ | refine w_nm 6 ?_ | refine w_nm 7 ?_ | refine w_nm 8 ?_ | refine w_nm 9 ?_ | refine w_nm 10 ?_ | refine w_nm 11 ?_ | refine w_nm 12 ?_ | refine w_nm 13 ?_)
    refine wk_nil ⟨n, _, _, o, _, rfl, .l, rfl, ob, cO, wa_nil ⟨by simp, ?_⟩⟩
    refine wss_one (ws_if (wt_not (wt_val (w_call GSm (hr.mono (by decide)) ?_))))
    (repeat (first | (first | refine w_nm 0 ?_ | refine w_nm 1 ?_ | refine w_nm 2 ?_ | refine w_nm 3 ?_ | refine w_nm 4 ?_ | refine w_nm 5 ?_ | refine w_nm 6 ?_ | refine w_nm 7 ?_ | refine w_nm 8 ?_ | refine w_nm 9 ?_ | refine w_nm 10 ?_ | refine w_nm 11 ?_ | refine w_nm 12 ?_ | refine w_nm 13 ?_) | refine w_int ?_ | refine wa_cons ?_))
    refine wa_nil ⟨_, _, _, rfl, py2, py2, pq_two, true, rfl, ?_⟩
    exact wss_nil ⟨⟨_, _, _, rfl⟩, rfl⟩
  rintro ρ' C ⟨⟨z6, z7, z8, rfl⟩, rfl⟩
  refine wss_cons (ws_for (hp := PassesOwn.never) 6 rfl c__law_right.nd (w_new (wn_call GO (hr.mono (by decide)) ?_)))
  (repeat (first | (first | refine w_nm 0 ?_ | refine w_nm 1 ?_ | refine w_nm 2 ?_ | refine w_nm 3 ?_ | refine w_nm 4 ?_ | refine w_nm 5 ?_ | refine w_nm 6 ?_ | refine w_nm 7 ?_ | refine w_nm 8 ?_ | refine w_nm 9 ?_ | refine w_nm 10 ?_ | refine w_nm 11 ?_ | refine w_nm 12 ?_ | refine w_nm 13 ?_) | refine w_int ?_ | refine wa_cons ?_))
  refine wa_nil ⟨k, n, s1, c + 60, rfl, hkC, hs1.mono (by omega), by omega, h2, h60, fun L s2 hL hLl hs2 => ?_⟩
  rw [set2]
  have hclD : (cs.set k s2)[kt]? = some (cl.map clD) := by rw [List.getElem?_set_ne hkt]; exact hcl
  refine ⟨L, fun t ρ' C => (∃ z6 z7 z8, ρ' = [some (.own k), some (.int n), some (.lst (js.map .int)), some (.own kt), some (.str (pyAll js cl).shown), some (.lst (seenD o)), z6, z7, z8, none, none]) ∧ C = cs.set k s2, ⟨⟨_, _, _, rfl⟩, rfl⟩, fun t ρ' C _ => .l, ?_, ?_⟩
  · rintro t x ρ' C hx ⟨⟨z6, z7, z8, rfl⟩, rfl⟩
    have hx := hL x (List.mem_of_getElem? hx)
    refine wss_one (ws_if (wt_bool (ww_or (wt_isNotB (w_call GS (hr.mono (by decide)) ?_)))))
    (repeat (first | (first | refine w_nm 0 ?_ | refine w_nm 1 ?_ | refine w_nm 2 ?_ | refine w_nm 3 ?_ | refine w_nm 4 ?_ | refine w_nm 5 ?_ | refine w_nm 6 ?_ | refine w_nm 7 ?_ | refine w_nm 8 ?_ | refine w_nm 9 ?_ | refine w_nm 10 ?_ | refine w_nm 11 ?_ | refine w_nm 12 ?_ | refine w_nm 13 ?_) | refine w_int ?_ | refine wa_cons ?_))
    refine wa_nil ⟨n, _, _, js, false, rfl, .l, rfl, hjl, h2, h60, hjin, hx.conf _ _, w_bl ⟨_, _, rfl, rfl, ?_⟩⟩
    refine ww_or1 (wt_isNotB (w_call GC (hr.mono (by decide)) ?_))
    (repeat (first | (first | refine w_nm 0 ?_ | refine w_nm 1 ?_ | refine w_nm 2 ?_ | refine w_nm 3 ?_ | refine w_nm 4 ?_ | refine w_nm 5 ?_ | refine w_nm 6 ?_ | refine w_nm 7 ?_ | refine w_nm 8 ?_ | refine w_nm 9 ?_ | refine w_nm 10 ?_ | refine w_nm 11 ?_ | refine w_nm 12 ?_ | refine w_nm 13 ?_) | refine w_int ?_ | refine wa_cons ?_))
    refine wa_nil ⟨n, _, _, o, false, rfl, .l, rfl, ob, hx.conf _ _, w_bl ⟨_, _, rfl, rfl, ?_⟩⟩
    exact wss_nil ⟨⟨_, _, _, rfl⟩, rfl⟩
  rintro ρ' C ⟨⟨z6, z7, z8, rfl⟩, rfl⟩
  refine wss_cons (ws_lcI false 9 10 rfl c__law_right.nd (sw_true rfl rfl rfl (by decide +kernel)) (blkOk_by (N := n__law_right) (sc := defScope s__law_right) (by decide +kernel)) (fun _ _ _ _ _ => pg_name (FnScope.nd c__law_right) rfl (.inl rfl)) ?_)
  (first | refine w_nm 0 ?_ | refine w_nm 1 ?_ | refine w_nm 2 ?_ | refine w_nm 3 ?_ | refine w_nm 4 ?_ | refine w_nm 5 ?_ | refine w_nm 6 ?_ | refine w_nm 7 ?_ | refine w_nm 8 ?_ | refine w_nm 9 ?_ | refine w_nm 10 ?_ | refine w_nm 11 ?_ | refine w_nm 12 ?_ | refine w_nm 13 ?_)
  refine ⟨seenD o, fun t acc C => C = cs.set k s2 ∧ t ≤ o.length ∧ ∃ vs : List Int, acc = vs.map .int ∧ vs.length ≤ t ∧ ∀ v, v ∈ vs ↔ some v ∈ o.take t, ⟨rfl, Nat.zero_le _, [], rfl, Nat.le_refl _, fun v => by simp⟩, ?_, ?_, ?_⟩
  · rintro t acc C ⟨rfl, ht, vs, rfl, hl, _⟩
    exact ⟨.l, by rw [List.length_map]; omega⟩
  · rintro t x acc C hx ⟨rfl, ht, vs, rfl, hl, hmem⟩
    obtain ⟨z, hz, rfl⟩ := seen_get hx
    have htl := (List.getElem?_eq_some_iff.mp hz).1
    intro s20 H20 C2 cl2 fp
    refine wt_isNN ?_
    (first | refine w_nm 0 ?_ | refine w_nm 1 ?_ | refine w_nm 2 ?_ | refine w_nm 3 ?_ | refine w_nm 4 ?_ | refine w_nm 5 ?_ | refine w_nm 6 ?_ | refine w_nm 7 ?_ | refine w_nm 8 ?_ | refine w_nm 9 ?_ | refine w_nm 10 ?_ | refine w_nm 11 ?_ | refine w_nm 12 ?_ | refine w_nm 13 ?_)
    cases z with
    | none =>
      refine ⟨true, by simp [optD], ?_⟩
      exact ⟨rfl, by omega, vs, rfl, by omega, fun v => by rw [hmem, List.take_add_one, hz]; simp⟩
    | some v0 =>
      refine ⟨false, by simp [optD], ?_⟩
      intro s21 H21 C3 cl3 fp2
      (first | refine w_nm 0 ?_ | refine w_nm 1 ?_ | refine w_nm 2 ?_ | refine w_nm 3 ?_ | refine w_nm 4 ?_ | refine w_nm 5 ?_ | refine w_nm 6 ?_ | refine w_nm 7 ?_ | refine w_nm 8 ?_ | refine w_nm 9 ?_ | refine w_nm 10 ?_ | refine w_nm 11 ?_ | refine w_nm 12 ?_ | refine w_nm 13 ?_)
      refine ⟨rfl, by omega, vs ++ [v0], by simp [optD], by simp; omega, fun v => ?_⟩
      rw [List.take_add_one, hz]
      simp [hmem]
  rintro acc C ⟨rfl, _, vs, rfl, hvl, hvm⟩
  have hsl : (seenD o).length = o.length := List.length_map _
  rw [hsl] at hvl hvm
  rw [List.take_length] at hvm
  show WSs _ _ _ _ _ _
  have full : ∀ {ks ws : List Int} {q : List (Option Int)}, ks.Nodup → (∀ v, v ∈ ks ↔ v ∈ ws) → (∀ v, v ∈ ws ↔ some v ∈ q) → (∀ v, some v ∈ q → 0 ≤ v ∧ v < n) → (decide ((ks.length : Int) = n) = true ↔ ∀ v : Int, 0 ≤ v → v < n → some v ∈ q) := fun nd h1 h2' h3 => by
    have fi := full_iff (n := n) (by omega) nd fun v hv => h3 v ((h2' v).mp ((h1 v).mp hv))
    rw [decide_eq_true_iff]
    constructor
    · intro e v v0 v1
      exact (h2' v).mp ((h1 v).mp (fi.mp (by omega) v v0 v1))
    · intro h
      have := fi.mpr fun v v0 v1 => (h1 v).mpr ((h2' v).mpr (h v v0 v1))
      omega
  refine wss_cons (ws_setN false 7 (wn_cat (w_new (wn_rep (w_new (wn_lst (wa_cons (w_eq hr.units (w_lenSet rfl M.len M.set ?_)))))))) c__law_right.nd)
  (first | refine w_nm 0 ?_ | refine w_nm 1 ?_ | refine w_nm 2 ?_ | refine w_nm 3 ?_ | refine w_nm 4 ?_ | refine w_nm 5 ?_ | refine w_nm 6 ?_ | refine w_nm 7 ?_ | refine w_nm 8 ?_ | refine w_nm 9 ?_ | refine w_nm 10 ?_ | refine w_nm 11 ?_ | refine w_nm 12 ?_ | refine w_nm 13 ?_)
  refine ⟨js, .l, by omega, fun ks1 nd1 mem1 => ?_⟩
  (first | refine w_nm 0 ?_ | refine w_nm 1 ?_ | refine w_nm 2 ?_ | refine w_nm 3 ?_ | refine w_nm 4 ?_ | refine w_nm 5 ?_ | refine w_nm 6 ?_ | refine w_nm 7 ?_ | refine w_nm 8 ?_ | refine w_nm 9 ?_ | refine w_nm 10 ?_ | refine w_nm 11 ?_ | refine w_nm 12 ?_ | refine w_nm 13 ?_)
  refine ⟨_, eqd_int, wa_nil ⟨by simp, w_int ⟨_, 2, .l, rfl, by decide, by decide, by simp, ?_⟩⟩⟩
  have f1 := full (q := js.map some) nd1 mem1 (fun v => by simp) fun v hv => hjin v (by simpa using hv)
  generalize decide ((ks1.length : Int) = n) = b1 at f1 ⊢
  refine w_new (wn_lst (wa_cons (w_eq hr.units (w_lenSet rfl M.len M.set ?_))))
  (first | refine w_nm 0 ?_ | refine w_nm 1 ?_ | refine w_nm 2 ?_ | refine w_nm 3 ?_ | refine w_nm 4 ?_ | refine w_nm 5 ?_ | refine w_nm 6 ?_ | refine w_nm 7 ?_ | refine w_nm 8 ?_ | refine w_nm 9 ?_ | refine w_nm 10 ?_ | refine w_nm 11 ?_ | refine w_nm 12 ?_ | refine w_nm 13 ?_)
  refine ⟨vs, .l, by omega, fun ks2 nd2 mem2 => ?_⟩
  (first | refine w_nm 0 ?_ | refine w_nm 1 ?_ | refine w_nm 2 ?_ | refine w_nm 3 ?_ | refine w_nm 4 ?_ | refine w_nm 5 ?_ | refine w_nm 6 ?_ | refine w_nm 7 ?_ | refine w_nm 8 ?_ | refine w_nm 9 ?_ | refine w_nm 10 ?_ | refine w_nm 11 ?_ | refine w_nm 12 ?_ | refine w_nm 13 ?_)
  refine ⟨_, eqd_int, wa_nil ⟨by simp, _, _, .l, .l, by simp, ?_⟩⟩
  have f2 := full (q := o) nd2 mem2 hvm fun v hv => ob.in_ v hv
  generalize decide ((ks2.length : Int) = n) = b2 at f2 ⊢
  refine wss_cons (ws_setN true 8 (wn_lst (wa_cons (w_call GS (hr.mono (by decide)) (wa_cons ?_)))) c__law_right.nd)
  (first | refine w_nm 0 ?_ | refine w_nm 1 ?_ | refine w_nm 2 ?_ | refine w_nm 3 ?_ | refine w_nm 4 ?_ | refine w_nm 5 ?_ | refine w_nm 6 ?_ | refine w_nm 7 ?_ | refine w_nm 8 ?_ | refine w_nm 9 ?_ | refine w_nm 10 ?_ | refine w_nm 11 ?_ | refine w_nm 12 ?_ | refine w_nm 13 ?_)
  refine wa_cons ?_
  (first | refine w_nm 0 ?_ | refine w_nm 1 ?_ | refine w_nm 2 ?_ | refine w_nm 3 ?_ | refine w_nm 4 ?_ | refine w_nm 5 ?_ | refine w_nm 6 ?_ | refine w_nm 7 ?_ | refine w_nm 8 ?_ | refine w_nm 9 ?_ | refine w_nm 10 ?_ | refine w_nm 11 ?_ | refine w_nm 12 ?_ | refine w_nm 13 ?_)
  refine wa_cons (w_tup (wa_cons (w_str (wa_nil ⟨by simp, wa_nil ⟨n, _, _, js, b1, rfl, .l, rfl, hjl, h2, h60, hjin, conf_all f1, wa_cons (w_call GC (hr.mono (by decide)) (wa_cons ?_))⟩⟩))))
  (first | refine w_nm 0 ?_ | refine w_nm 1 ?_ | refine w_nm 2 ?_ | refine w_nm 3 ?_ | refine w_nm 4 ?_ | refine w_nm 5 ?_ | refine w_nm 6 ?_ | refine w_nm 7 ?_ | refine w_nm 8 ?_ | refine w_nm 9 ?_ | refine w_nm 10 ?_ | refine w_nm 11 ?_ | refine w_nm 12 ?_ | refine w_nm 13 ?_)
  refine wa_cons ?_
  (first | refine w_nm 0 ?_ | refine w_nm 1 ?_ | refine w_nm 2 ?_ | refine w_nm 3 ?_ | refine w_nm 4 ?_ | refine w_nm 5 ?_ | refine w_nm 6 ?_ | refine w_nm 7 ?_ | refine w_nm 8 ?_ | refine w_nm 9 ?_ | refine w_nm 10 ?_ | refine w_nm 11 ?_ | refine w_nm 12 ?_ | refine w_nm 13 ?_)
  refine wa_cons (w_tup (wa_cons (w_str (wa_nil ⟨by simp, wa_nil ⟨n, _, _, js.map some, b1, rfl, lS, rfl, obS, conf_all f1, wa_nil ⟨by simp, ?_⟩⟩⟩))))
  show WSs _ _ _ _ _ _
  have g1 : (cs.set k s2 ++ [[D.bl b1, .bl b1]])[(cs.set k s2).length]? = some [.bl b1, .bl b1] := last_at
  refine wss_cons (ws_expr (w_append ?_))
  (first | refine w_nm 0 ?_ | refine w_nm 1 ?_ | refine w_nm 2 ?_ | refine w_nm 3 ?_ | refine w_nm 4 ?_ | refine w_nm 5 ?_ | refine w_nm 6 ?_ | refine w_nm 7 ?_ | refine w_nm 8 ?_ | refine w_nm 9 ?_ | refine w_nm 10 ?_ | refine w_nm 11 ?_ | refine w_nm 12 ?_ | refine w_nm 13 ?_)
  refine ⟨_, rfl, wa_cons (w_call GC (hr.mono (by decide)) (wa_cons ?_))⟩
  (first | refine w_nm 0 ?_ | refine w_nm 1 ?_ | refine w_nm 2 ?_ | refine w_nm 3 ?_ | refine w_nm 4 ?_ | refine w_nm 5 ?_ | refine w_nm 6 ?_ | refine w_nm 7 ?_ | refine w_nm 8 ?_ | refine w_nm 9 ?_ | refine w_nm 10 ?_ | refine w_nm 11 ?_ | refine w_nm 12 ?_ | refine w_nm 13 ?_)
  refine wa_cons ?_
  (first | refine w_nm 0 ?_ | refine w_nm 1 ?_ | refine w_nm 2 ?_ | refine w_nm 3 ?_ | refine w_nm 4 ?_ | refine w_nm 5 ?_ | refine w_nm 6 ?_ | refine w_nm 7 ?_ | refine w_nm 8 ?_ | refine w_nm 9 ?_ | refine w_nm 10 ?_ | refine w_nm 11 ?_ | refine w_nm 12 ?_ | refine w_nm 13 ?_)
  refine wa_cons (w_tup (wa_cons (w_str (wa_nil ⟨by simp, wa_nil ⟨n, _, _, o, b2, rfl, .l, rfl, ob, conf_all f2, wa_nil ⟨_, g1, _, rfl, by simp, ?_⟩⟩⟩))))
  rw [set_last]
  have hclE : (cs.set k s2 ++ [[D.bl b1, .bl b1] ++ [D.bl b2]])[kt]? = some (cl.map clD) := by
    rw [List.getElem?_append_left (List.getElem?_eq_some_iff.mp hclD).1]; exact hclD
  refine wss_one (ws_ret (w_and (w_call GSm (hr.mono (by decide)) ?_)))
  (repeat (first | (first | refine w_nm 0 ?_ | refine w_nm 1 ?_ | refine w_nm 2 ?_ | refine w_nm 3 ?_ | refine w_nm 4 ?_ | refine w_nm 5 ?_ | refine w_nm 6 ?_ | refine w_nm 7 ?_ | refine w_nm 8 ?_ | refine w_nm 9 ?_ | refine w_nm 10 ?_ | refine w_nm 11 ?_ | refine w_nm 12 ?_ | refine w_nm 13 ?_) | refine w_int ?_ | refine wa_cons ?_))
  refine wa_nil ⟨_, _, .list [.bool b1, .bool b1, .bool b2], rfl, .lst (.o last_at) (.cons .bl (.cons .bl (.cons .bl .nil))), .lst .l (.cons .bl (.cons .bl (.cons .bl .nil))), pq_three, true, rfl, ?_⟩
  rw [if_pos rfl]
  refine w_one (w_eqS (w_reprZ hr.gd hr.units M.repr (wa_cons (w_new (wn_lst (wa_cons ?_))))))
  (first | refine w_nm 0 ?_ | refine w_nm 1 ?_ | refine w_nm 2 ?_ | refine w_nm 3 ?_ | refine w_nm 4 ?_ | refine w_nm 5 ?_ | refine w_nm 6 ?_ | refine w_nm 7 ?_ | refine w_nm 8 ?_ | refine w_nm 9 ?_ | refine w_nm 10 ?_ | refine w_nm 11 ?_ | refine w_nm 12 ?_ | refine w_nm 13 ?_)
  refine wa_cons ?_
  (first | refine w_nm 0 ?_ | refine w_nm 1 ?_ | refine w_nm 2 ?_ | refine w_nm 3 ?_ | refine w_nm 4 ?_ | refine w_nm 5 ?_ | refine w_nm 6 ?_ | refine w_nm 7 ?_ | refine w_nm 8 ?_ | refine w_nm 9 ?_ | refine w_nm 10 ?_ | refine w_nm 11 ?_ | refine w_nm 12 ?_ | refine w_nm 13 ?_)
  refine wa_nil ⟨by simp, wa_nil ⟨_, _, rfl, txt hclE, ?_⟩⟩
  (first | refine w_nm 0 ?_ | refine w_nm 1 ?_ | refine w_nm 2 ?_ | refine w_nm 3 ?_ | refine w_nm 4 ?_ | refine w_nm 5 ?_ | refine w_nm 6 ?_ | refine w_nm 7 ?_ | refine w_nm 8 ?_ | refine w_nm 9 ?_ | refine w_nm 10 ?_ | refine w_nm 11 ?_ | refine w_nm 12 ?_ | refine w_nm 13 ?_)
  refine ⟨_, _, rfl, rfl, .inr ⟨cs.length, _, .bl, hb.lowSet hs2, ?_⟩⟩
  rw [decide_eq_true rfl, take_set]
  exact hp s2 (hs2.mono (by omega))
end
end K
set_option Elab.async false
set_option linter.all false
set_option maxRecDepth 100000
set_option maxHeartbeats 4100000
namespace K
open PySem PySem.Spec
open PyProof.Rows L2 Rg
section
variable {P : Program} {w : World} {K : PySem.W.Frag} {mg : Str → Option Value}
variable {base : Heap} {f : Addr} {fd : FuncData}
/-- the same, and a source behind it -/
structure Go (cs : Cs) (k c : Nat) (cs' : Cs) : Prop where
  pre : cs <+: cs'
  ge : cs.length ≤ k
  src : ∃ s e, cs'[k]? = some s ∧ Src e s ∧ e ≤ c
theorem Go.set {cs cs' : Cs} {k c e : Nat} {s : List D} (g : Go cs k c cs') (h : Src e s) (le : e ≤ c) : Go cs k c (cs'.set k s) := by
  obtain ⟨t, ht⟩ := g.pre
  obtain ⟨s0, _, h0, _⟩ := g.src
  refine ⟨⟨t.set (k - cs.length) s, ?_⟩, g.ge, s, e, set_at h0, h, le⟩
  rw [← ht, List.set_append_right _ _ g.ge]
theorem Go.mono {cs cs' : Cs} {k c e : Nat} (g : Go cs k c cs') (le : c ≤ e) : Go cs k e cs' := by
  obtain ⟨s, x, a, b, d⟩ := g.src
  exact ⟨g.pre, g.ge, s, x, a, b, Nat.le_trans d le⟩
theorem Go.app {cs cs' more : Cs} {k c : Nat} (g : Go cs k c cs') : Go cs k c (cs' ++ more) := by
  obtain ⟨s, x, a, b, d⟩ := g.src
  refine ⟨g.pre.trans (List.prefix_append _ _), g.ge, s, x, ?_, b, d⟩
  rw [List.getElem?_append_left (List.getElem?_eq_some_iff.mp a).1]
  exact a
theorem Go.put {cs cs' : Cs} {k c j : Nat} {x : List D} (g : Go cs k c cs') (h : k < j) : Go cs k c (cs'.set j x) := by
  obtain ⟨s, y, a, b, d⟩ := g.src
  obtain ⟨t, ht⟩ := g.pre
  refine ⟨⟨t.set (j - cs.length) x, ?_⟩, g.ge, s, y, ?_, b, d⟩
  · rw [← ht, List.set_append_right _ _ (by have := g.ge; omega)]
  · rw [List.getElem?_set_ne (by omega)]
    exact a
theorem _root_.Rg.BaseOk.lowPre {cs cs' : Cs} {ds : List D} {m : Nat} (b : BaseOk cs ds) (h : cs <+: cs') : Low cs' cs.length m := by
  obtain ⟨t, rfl⟩ := h
  exact b.lowApp
theorem take_pre {cs cs' : Cs} (h : cs <+: cs') : cs'.take cs.length = cs := by
  obtain ⟨t, rfl⟩ := h
  exact List.take_left' rfl
abbrev s__law_clock : Stmt := topS 29
abbrev n__law_clock : List Str := ["feed", "size", "kind", "many", "found", "cut", "lap"]
theorem c__law_clock : FnScope n__law_clock ["feed", "size"] (defScope s__law_clock) := ⟨rfl, rfl, rfl, by decide +kernel, rfl, by decide +kernel, by decide +kernel⟩
abbrev s__law_batches : Stmt := topS 30
abbrev n__law_batches : List Str := ["clock", "time", "spot"]
theorem c__law_batches : FnScope n__law_batches ["clock"] (defScope s__law_batches) := ⟨rfl, rfl, rfl, by decide +kernel, rfl, by decide +kernel, by decide +kernel⟩
abbrev s__law_run : Stmt := topS 31
abbrev n__law_run : List Str := ["size", "rounds_here", "found", "batch", "group"]
theorem c__law_run : FnScope n__law_run ["size", "rounds_here"] (defScope s__law_run) := ⟨rfl, rfl, rfl, by decide +kernel, rfl, by decide +kernel, by decide +kernel⟩
abbrev s__law_all_sets : Stmt := topS 36
abbrev n__law_all_sets : List Str := ["size", "rows", "spot", "row"]
theorem c__law_all_sets : FnScope n__law_all_sets ["size"] (defScope s__law_all_sets) := ⟨rfl, rfl, rfl, by decide +kernel, rfl, by decide +kernel, by decide +kernel⟩
theorem nxs_ok {n : Int} {fs l : List Int} (D : Drps n fs) (h : Nxs n fs l) : l.length = n.toNat ∧ ∀ v ∈ l, 0 ≤ v ∧ v < n := by
  refine ⟨h.1, fun v hv => ?_⟩
  obtain ⟨i, hi⟩ := List.getElem?_of_mem hv
  have hil : i < l.length := (List.getElem?_eq_some_iff.mp hi).1
  have hn := h.1
  obtain ⟨far, _, ev, _⟩ := h.2 i (by omega)
  rw [wAt_nat hil] at hi
  have ev2 := Option.some.inj hi
  have z0 : ((n.toNat : Nat) : Int) ≠ 0 := by omega
  have q0 := Int.emod_nonneg ((i : Int) + (far : Int)) z0
  have q1 := Int.emod_lt_of_pos ((i : Int) + (far : Int)) (show (0 : Int) < ((n.toNat : Nat) : Int) by omega)
  omega
def g_law (K : PySem.W.Frag) : GD := fun ds cs P => ∃ d ns, ds = [d] ∧ ScrD K d ns ∧ P (.bl true) cs
structure Js (n : Int) (js : List Int) : Prop where
  len : js.length = n.toNat
  in_ : ∀ v ∈ js, 0 ≤ v ∧ v < n
abbrev s_law : Stmt := topS 41
abbrev n_law : List Str := ["script", "k", "feed", "turn", "size", "stops", "things", "group", "spot", "lap", "mate"]
theorem c_law : FnScope n_law ["script"] (defScope s_law) := ⟨rfl, rfl, rfl, by decide +kernel, rfl, by decide +kernel, by decide +kernel⟩
theorem ok_law (M : Bl mg) (GSo : FnD P w K mg base 1 "_law_feed" ["script", "k"] (spN (g_source K))) (GP : FnD P w K mg base 1 "_law_pick" ["feed", "wide"] (spD g_pick)) (GZ : FnD P w K mg base 2 "_law_size" ["feed"] (spD g_size)) (GSub : FnD P w K mg base 2 "_law_subset" ["feed", "size"] (spN g_subset)) (GSt : FnD P w K mg base 1 "_law_stops" ["size", "falls"] (spN g_stops)) (GSh : FnD P w K mg base 2 "_law_shuffle" ["feed", "values"] (spN g_shuffled)) (GR : FnD P w K mg base 5 "_law_right" ["feed", "size", "stops", "things"] (spD g_right15)) (GS : FnD P w K mg base 4 "shows" ["n", "assignment", "thing"] (spD g_showsX)) (GC : FnD P w K mg base 4 "shows_conflict" ["n", "seen", "thing"] (spD g_showsC)) (F : FnP K "law" s_law f fd) : FnG P w K mg base CX0 9 f fd ["script"] (spD (g_law K)) := by
  refine fnD F c_law (fun ds cs P ⟨d, ns, e, _⟩ => by rw [e]; rfl) fun cdv A outer s0 H E hr ds cs P' ⟨d, ns, e, hd, hp⟩ hb => ?_
  subst e
  refine wss_cons (ws_forR (hp := PassesOwn.never) 1 rfl c_law.nd M.range (w_max2 rfl M.max (wa_cons (w_int (wa_cons (w_min2 rfl M.min (wa_cons (w_int (wa_cons (w_lenS M.len ?_))))))))))
  (repeat (first | (first | refine w_nm 0 ?_ | refine w_nm 1 ?_ | refine w_nm 2 ?_ | refine w_nm 3 ?_ | refine w_nm 4 ?_ | refine w_nm 5 ?_ | refine w_nm 6 ?_ | refine w_nm 7 ?_ | refine w_nm 8 ?_ | refine w_nm 9 ?_ | refine w_nm 10 ?_ | refine w_nm 11 ?_ | refine w_nm 12 ?_ | refine w_nm 13 ?_) | refine w_int ?_ | refine wa_cons ?_))
  refine wa_nil ⟨d, ns, rfl, hd, wa_nil ⟨_, _, rfl, wa_nil ⟨_, _, rfl, _, fun j ρ' cs' => (∃ b1 b2 b3 b4 b5 b6 b7, ρ' = [some d, b1, b2, b3, b4, b5, b6, b7, none, none, none]) ∧ cs <+: cs', rfl, ?_, ?_, ⟨⟨_, _, _, _, _, _, _, rfl⟩, List.prefix_refl _⟩, ?_, ?_⟩⟩⟩
  · split <;> split <;> omega
  · split <;> split <;> omega
  · rintro j ρ' cs' hj ⟨⟨b1, b2, b3, b4, b5, b6, b7, rfl⟩, pre⟩
    have hj4 : (j : Int) < 2 := by split at hj <;> split at hj <;> omega
    refine wss_cons (ws_setN true 2 (wn_call GSo (hr.mono (by decide)) ?_) c_law.nd)
    (repeat (first | (first | refine w_nm 0 ?_ | refine w_nm 1 ?_ | refine w_nm 2 ?_ | refine w_nm 3 ?_ | refine w_nm 4 ?_ | refine w_nm 5 ?_ | refine w_nm 6 ?_ | refine w_nm 7 ?_ | refine w_nm 8 ?_ | refine w_nm 9 ?_ | refine w_nm 10 ?_ | refine w_nm 11 ?_ | refine w_nm 12 ?_ | refine w_nm 13 ?_) | refine w_int ?_ | refine wa_cons ?_))
    refine wa_nil ⟨d, ns, j, rfl, hd, by omega, by omega, fun s hs => ?_⟩
    show WSs _ _ _ _ _ _
    have go0 : Go cs cs'.length 0 (cs' ++ [s]) := ⟨pre.trans (List.prefix_append _ _), pre.length_le, s, 0, last_at, hs, Nat.le_refl _⟩
    revert go0
    generalize cs'.length = k
    generalize cs' ++ [s] = cs1
    intro go0
    refine wss_one (ws_forR (hp := PassesOwn.never) 3 rfl c_law.nd M.range (w_int ⟨3, fun u ρ' cs' => (∃ b3 b4 b5 b6 b7, ρ' = [some d, some (.int (j : Nat)), some (.own k), b3, b4, b5, b6, b7, none, none, none]) ∧ Go cs k (500 * u) cs', rfl, by decide, by decide, ⟨⟨_, _, _, _, _, rfl⟩, go0⟩, ?_, ?_⟩))
    · rintro u ρ' cs2 hu ⟨⟨b3, b4, b5, b6, b7, rfl⟩, go⟩
      obtain ⟨s, c, hk, hs, hc⟩ := go.src
      have hkl : k < cs2.length := (List.getElem?_eq_some_iff.mp hk).1
      refine wss_cons (ws_set 4 (w_call GZ (hr.mono (by decide)) ?_) c_law.nd)
      (repeat (first | (first | refine w_nm 0 ?_ | refine w_nm 1 ?_ | refine w_nm 2 ?_ | refine w_nm 3 ?_ | refine w_nm 4 ?_ | refine w_nm 5 ?_ | refine w_nm 6 ?_ | refine w_nm 7 ?_ | refine w_nm 8 ?_ | refine w_nm 9 ?_ | refine w_nm 10 ?_ | refine w_nm 11 ?_ | refine w_nm 12 ?_ | refine w_nm 13 ?_) | refine w_int ?_ | refine wa_cons ?_))
      refine wa_nil ⟨k, s, c, rfl, hk, hs, by omega, fun n s1 h2 h60 hs1 => ?_⟩
      refine wss_cons (ws_lr false 5 8 rfl c_law.nd M.range (sw_true rfl rfl rfl (by decide +kernel)) (blkOk_by (N := n_law) (sc := defScope s_law) (by decide +kernel)) (fun _ _ _ _ _ => pg_name (FnScope.nd c_law) rfl (.inl rfl)) ?_)
      (first | refine w_nm 0 ?_ | refine w_nm 1 ?_ | refine w_nm 2 ?_ | refine w_nm 3 ?_ | refine w_nm 4 ?_ | refine w_nm 5 ?_ | refine w_nm 6 ?_ | refine w_nm 7 ?_ | refine w_nm 8 ?_ | refine w_nm 9 ?_ | refine w_nm 10 ?_ | refine w_nm 11 ?_ | refine w_nm 12 ?_ | refine w_nm 13 ?_)
      refine ⟨n, fun t acc C => ∃ (js : List Int) (s' : List D), acc = js.map .int ∧ js.length = t ∧ (t : Int) ≤ n ∧ (∀ v ∈ js, 0 ≤ v ∧ v < n) ∧ C = cs2.set k s' ∧ Src (c + 3 + t) s', rfl, by omega, by omega, ⟨[], s1, rfl, rfl, by omega, (fun _ z => nomatch z), rfl, hs1⟩, ?_, ?_, ?_⟩
      · rintro t acc C ⟨js, s', rfl, rfl, ht, _⟩
        rw [List.length_map]; omega
      · rintro t acc C ht ⟨js, s', rfl, rfl, _, hin, rfl, hs'⟩
        refine tno ?_
        intro s20 H20 C2 cl fp
        refine w_call GP (hr.mono (by decide)) ?_
        (repeat (first | (first | refine w_nm 0 ?_ | refine w_nm 1 ?_ | refine w_nm 2 ?_ | refine w_nm 3 ?_ | refine w_nm 4 ?_ | refine w_nm 5 ?_ | refine w_nm 6 ?_ | refine w_nm 7 ?_ | refine w_nm 8 ?_ | refine w_nm 9 ?_ | refine w_nm 10 ?_ | refine w_nm 11 ?_ | refine w_nm 12 ?_ | refine w_nm 13 ?_) | refine w_int ?_ | refine wa_cons ?_))
        refine wa_nil ⟨k, n, s', c + 3 + js.length, rfl, set_at hk, hs', by omega, by omega, by omega, fun r s'' r0 r1 hs'' => ?_⟩
        rw [set2]
        refine ⟨js ++ [r], s'', by simp, by simp, by omega, fun v hv => ?_, rfl, hs''⟩
        rcases List.mem_append.mp hv with h | h
        · exact hin v h
        · rw [List.mem_singleton.mp h]; exact ⟨r0, r1⟩
      rintro acc C ⟨js1, s2, rfl, hl1, _, hin1, rfl, hs2⟩
      have J1 : Js n js1 := ⟨hl1, hin1⟩
      show WSs _ _ _ _ _ _
      refine wss_seq (fun ρ' C => ∃ (js : List Int) (s' : List D), ρ' = [some d, some (.int (j : Nat)), some (.own k), some (.int (u : Nat)), some (.int n), some (.lst (js.map .int)), b6, b7, none, none, none] ∧ Js n js ∧ C = cs2.set k s' ∧ Src (c + 140) s') (ws_if (wt_eq hr.units ?_)) ?_
      · (first | refine w_nm 0 ?_ | refine w_nm 1 ?_ | refine w_nm 2 ?_ | refine w_nm 3 ?_ | refine w_nm 4 ?_ | refine w_nm 5 ?_ | refine w_nm 6 ?_ | refine w_nm 7 ?_ | refine w_nm 8 ?_ | refine w_nm 9 ?_ | refine w_nm 10 ?_ | refine w_nm 11 ?_ | refine w_nm 12 ?_ | refine w_nm 13 ?_)
        refine w_int ⟨_, eqd_int, ?_⟩
        by_cases e0 : ((u : Nat) : Int) = 0
        · rw [decide_eq_true e0, if_pos rfl]
          refine wss_one (ws_setN false 5 (wn_call GSt (hr.mono (by decide)) ?_) c_law.nd)
          (repeat (first | (first | refine w_nm 0 ?_ | refine w_nm 1 ?_ | refine w_nm 2 ?_ | refine w_nm 3 ?_ | refine w_nm 4 ?_ | refine w_nm 5 ?_ | refine w_nm 6 ?_ | refine w_nm 7 ?_ | refine w_nm 8 ?_ | refine w_nm 9 ?_ | refine w_nm 10 ?_ | refine w_nm 11 ?_ | refine w_nm 12 ?_ | refine w_nm 13 ?_) | refine w_int ?_ | refine wa_cons ?_))
          refine w_new (wn_call GSub (hr.mono (by decide)) ?_)
          (repeat (first | (first | refine w_nm 0 ?_ | refine w_nm 1 ?_ | refine w_nm 2 ?_ | refine w_nm 3 ?_ | refine w_nm 4 ?_ | refine w_nm 5 ?_ | refine w_nm 6 ?_ | refine w_nm 7 ?_ | refine w_nm 8 ?_ | refine w_nm 9 ?_ | refine w_nm 10 ?_ | refine w_nm 11 ?_ | refine w_nm 12 ?_ | refine w_nm 13 ?_) | refine w_int ?_ | refine wa_cons ?_))
          refine wa_nil ⟨k, n, s2, c + 3 + n.toNat, rfl, set_at hk, hs2, by omega, h2, h60, fun fs s3 Df hs3 => wa_nil ⟨n, _, fs, rfl, .l, Df, h2, h60, fun l hl => ?_⟩⟩
          rw [set2]
          have := nxs_ok Df hl
          exact ⟨l, s3, rfl, ⟨this.1, this.2⟩, rfl, hs3.mono (by omega)⟩
        · rw [decide_eq_false e0, if_neg (by decide)]
          exact wss_nil ⟨js1, s2, rfl, J1, rfl, hs2.mono (by omega)⟩
      rintro ρ' C ⟨js2, s3, rfl, J2, rfl, hs3⟩
      refine wss_seq (fun ρ' C => ∃ (js : List Int) (s' : List D), ρ' = [some d, some (.int (j : Nat)), some (.own k), some (.int (u : Nat)), some (.int n), some (.lst (js.map .int)), b6, b7, none, none, none] ∧ Js n js ∧ C = cs2.set k s' ∧ Src (c + 200) s') (ws_if (wt_eq hr.units ?_)) ?_
      · (first | refine w_nm 0 ?_ | refine w_nm 1 ?_ | refine w_nm 2 ?_ | refine w_nm 3 ?_ | refine w_nm 4 ?_ | refine w_nm 5 ?_ | refine w_nm 6 ?_ | refine w_nm 7 ?_ | refine w_nm 8 ?_ | refine w_nm 9 ?_ | refine w_nm 10 ?_ | refine w_nm 11 ?_ | refine w_nm 12 ?_ | refine w_nm 13 ?_)
        refine w_int ⟨_, eqd_int, ?_⟩
        by_cases e0 : ((u : Nat) : Int) = 1
        · rw [decide_eq_true e0, if_pos rfl]
          refine wss_one (ws_setN false 5 (wn_call GSh (hr.mono (by decide)) (wa_cons ?_)) c_law.nd)
          (first | refine w_nm 0 ?_ | refine w_nm 1 ?_ | refine w_nm 2 ?_ | refine w_nm 3 ?_ | refine w_nm 4 ?_ | refine w_nm 5 ?_ | refine w_nm 6 ?_ | refine w_nm 7 ?_ | refine w_nm 8 ?_ | refine w_nm 9 ?_ | refine w_nm 10 ?_ | refine w_nm 11 ?_ | refine w_nm 12 ?_ | refine w_nm 13 ?_)
          refine wa_cons (w_new (wn_listR rfl M.list M.range ?_))
          (first | refine w_nm 0 ?_ | refine w_nm 1 ?_ | refine w_nm 2 ?_ | refine w_nm 3 ?_ | refine w_nm 4 ?_ | refine w_nm 5 ?_ | refine w_nm 6 ?_ | refine w_nm 7 ?_ | refine w_nm 8 ?_ | refine w_nm 9 ?_ | refine w_nm 10 ?_ | refine w_nm 11 ?_ | refine w_nm 12 ?_ | refine w_nm 13 ?_)
          refine ⟨n, rfl, by omega, by omega, ?_⟩
          refine wa_nil ⟨k, _, rgD 0 n, s3, c + 140, rfl, set_at hk, hs3, by omega, .l, (fun z => by cases z), by simp [rgD]; omega, fun ns' s4 perm hs4 => ?_⟩
          rw [set2]
          refine ⟨ns', s4, rfl, ⟨by rw [perm.length_eq]; simp [rgD], fun v hv => ?_⟩, rfl, hs4.mono (by simp [rgD]; omega)⟩
          have := perm.mem_iff.mp hv
          obtain ⟨q, hq, rfl⟩ := List.mem_map.mp this
          have := List.mem_range.mp hq
          omega
        · rw [decide_eq_false e0, if_neg (by decide)]
          exact wss_nil ⟨js2, s3, rfl, J2, rfl, hs3.mono (by omega)⟩
      rintro ρ' C ⟨js, s4, rfl, J, rfl, hs4⟩
      refine wss_cons (ws_lr true 6 9 rfl c_law.nd M.range (sw_true rfl rfl rfl (by decide +kernel)) (blkOk_by (N := n_law) (sc := defScope s_law) (by decide +kernel)) (fun _ _ _ _ _ => pg_name (FnScope.nd c_law) rfl (.inl rfl)) (w_int ?_))
      refine ⟨20, fun t acc C => ∃ (cl : List (Nat × Nat)) (s' : List D), acc = cl.map clD ∧ cl.length = t ∧ t ≤ 20 ∧ (∀ q ∈ cl, q.1 < n.toNat ∧ q.2 < n.toNat) ∧ C = cs2.set k s' ∧ Src (c + 200 + 2 * t) s', rfl, by decide, by decide, ⟨[], s4, rfl, rfl, by decide, (fun _ z => nomatch z), rfl, hs4⟩, ?_, ?_, ?_⟩
      · rintro t acc C ⟨cl, s', rfl, rfl, ht, _⟩
        rw [List.length_map]; omega
      · rintro t acc C ht ⟨cl, s', rfl, rfl, _, hin, rfl, hs'⟩
        refine tno ?_
        intro s20 H20 C2 cl2 fp
        refine w_tup (wa_cons (w_str (wa_cons (w_call GP (hr.mono (by decide)) ?_))))
        (repeat (first | (first | refine w_nm 0 ?_ | refine w_nm 1 ?_ | refine w_nm 2 ?_ | refine w_nm 3 ?_ | refine w_nm 4 ?_ | refine w_nm 5 ?_ | refine w_nm 6 ?_ | refine w_nm 7 ?_ | refine w_nm 8 ?_ | refine w_nm 9 ?_ | refine w_nm 10 ?_ | refine w_nm 11 ?_ | refine w_nm 12 ?_ | refine w_nm 13 ?_) | refine w_int ?_ | refine wa_cons ?_))
        refine wa_nil ⟨k, n, s', c + 200 + 2 * cl.length, rfl, set_at hk, hs', by omega, by omega, by omega, fun r1 s5 x0 x1 hs5 => wa_cons (w_call GP (hr.mono (by decide)) ?_)⟩
        rw [set2]
        (repeat (first | (first | refine w_nm 0 ?_ | refine w_nm 1 ?_ | refine w_nm 2 ?_ | refine w_nm 3 ?_ | refine w_nm 4 ?_ | refine w_nm 5 ?_ | refine w_nm 6 ?_ | refine w_nm 7 ?_ | refine w_nm 8 ?_ | refine w_nm 9 ?_ | refine w_nm 10 ?_ | refine w_nm 11 ?_ | refine w_nm 12 ?_ | refine w_nm 13 ?_) | refine w_int ?_ | refine wa_cons ?_))
        refine wa_nil ⟨k, n, s5, c + 200 + 2 * cl.length + 1, rfl, set_at hk, hs5, by omega, by omega, by omega, fun r2 s6 y0 y1 hs6 => wa_nil ⟨by simp, ?_⟩⟩
        rw [set2]
        obtain ⟨a1, rfl⟩ : ∃ a : Nat, r1 = (a : Int) := ⟨r1.toNat, by omega⟩
        obtain ⟨a2, rfl⟩ : ∃ a : Nat, r2 = (a : Int) := ⟨r2.toNat, by omega⟩
        refine ⟨cl ++ [(a1, a2)], s6, by simp, by simp, by omega, fun q hq => ?_, rfl, hs6.mono (by omega)⟩
        rcases List.mem_append.mp hq with h | h
        · exact hin q h
        · rw [List.mem_singleton.mp h]
          exact ⟨by show a1 < n.toNat; omega, by show a2 < n.toNat; omega⟩
      rintro acc C ⟨cl0, s5, rfl, hcl0, _, hclin0, rfl, hs5⟩
      have hcl0 : cl0.length = 20 := hcl0
      show WSs _ _ _ _ _ _
      rw [List.length_set]
      have hkX : (cs2.set k s5)[k]? = some s5 := set_at hk
      have hXl : (cs2.set k s5).length = cs2.length := by simp
      refine wss_seq (fun ρ' C => ∃ (cl : List (Nat × Nat)) (z7 : Option D), ρ' = [some d, some (.int (j : Nat)), some (.own k), some (.int (u : Nat)), some (.int n), some (.lst (js.map .int)), some (.own cs2.length), z7, none, none, none] ∧ cl.length ≤ 100 ∧ (∀ q ∈ cl, q.1 < n.toNat ∧ q.2 < n.toNat) ∧ C = cs2.set k s5 ++ [cl.map clD]) (ws_if (wt_lt ?_)) ?_
      · (first | refine w_nm 0 ?_ | refine w_nm 1 ?_ | refine w_nm 2 ?_ | refine w_nm 3 ?_ | refine w_nm 4 ?_ | refine w_nm 5 ?_ | refine w_nm 6 ?_ | refine w_nm 7 ?_ | refine w_nm 8 ?_ | refine w_nm 9 ?_ | refine w_nm 10 ?_ | refine w_nm 11 ?_ | refine w_nm 12 ?_ | refine w_nm 13 ?_)
        refine w_int ⟨_, _, rfl, rfl, ?_⟩
        by_cases e8 : n < 8
        · rw [decide_eq_true e8, if_pos rfl]
          refine wss_one (ws_forR (hp := PassesOwn.never) 7 rfl c_law.nd M.range ?_)
          (first | refine w_nm 0 ?_ | refine w_nm 1 ?_ | refine w_nm 2 ?_ | refine w_nm 3 ?_ | refine w_nm 4 ?_ | refine w_nm 5 ?_ | refine w_nm 6 ?_ | refine w_nm 7 ?_ | refine w_nm 8 ?_ | refine w_nm 9 ?_ | refine w_nm 10 ?_ | refine w_nm 11 ?_ | refine w_nm 12 ?_ | refine w_nm 13 ?_)
          refine ⟨n, fun g ρ' C => ∃ (cl : List (Nat × Nat)) (z7 : Option D), ρ' = [some d, some (.int (j : Nat)), some (.own k), some (.int (u : Nat)), some (.int n), some (.lst (js.map .int)), some (.own cs2.length), z7, none, none, none] ∧ cl.length ≤ 20 + 8 * g ∧ (g : Int) ≤ n ∧ (∀ q ∈ cl, q.1 < n.toNat ∧ q.2 < n.toNat) ∧ C = cs2.set k s5 ++ [cl.map clD], rfl, by omega, by omega, ⟨cl0, _, rfl, by omega, by omega, hclin0, rfl⟩, ?_, ?_⟩
          · rintro g ρ' C hg ⟨cl, z7, rfl, hll, hgn, hin, rfl⟩
            refine wss_one (ws_expr (w_extend ?_))
            (first | refine w_nm 0 ?_ | refine w_nm 1 ?_ | refine w_nm 2 ?_ | refine w_nm 3 ?_ | refine w_nm 4 ?_ | refine w_nm 5 ?_ | refine w_nm 6 ?_ | refine w_nm 7 ?_ | refine w_nm 8 ?_ | refine w_nm 9 ?_ | refine w_nm 10 ?_ | refine w_nm 11 ?_ | refine w_nm 12 ?_ | refine w_nm 13 ?_)
            refine ⟨cs2.length, rfl, wa_cons (w_new (wn_lr 10 rfl c_law.nd M.range (blkOk_by (N := n_law) (sc := defScope s_law) (by decide +kernel)) (fun _ _ _ _ _ => pg_name (FnScope.nd c_law) rfl (.inl rfl)) ?_))⟩
            (first | refine w_nm 0 ?_ | refine w_nm 1 ?_ | refine w_nm 2 ?_ | refine w_nm 3 ?_ | refine w_nm 4 ?_ | refine w_nm 5 ?_ | refine w_nm 6 ?_ | refine w_nm 7 ?_ | refine w_nm 8 ?_ | refine w_nm 9 ?_ | refine w_nm 10 ?_ | refine w_nm 11 ?_ | refine w_nm 12 ?_ | refine w_nm 13 ?_)
            refine ⟨n, fun t acc C => C = cs2.set k s5 ++ [cl.map clD] ∧ (t : Int) ≤ n ∧ acc = ((List.range t).map fun m => (g, m)).map clD, rfl, by omega, by omega, ⟨rfl, by omega, rfl⟩, ?_, ?_, ?_⟩
            · rintro t acc C ⟨_, ht, rfl⟩
              rw [List.length_map, List.length_map, List.length_range]; omega
            · rintro t acc C ht ⟨rfl, _, rfl⟩
              refine tno ?_
              intro s20 H20 C2 cl2 fp
              refine w_tup (wa_cons (w_str (wa_cons ?_)))
              (first | refine w_nm 0 ?_ | refine w_nm 1 ?_ | refine w_nm 2 ?_ | refine w_nm 3 ?_ | refine w_nm 4 ?_ | refine w_nm 5 ?_ | refine w_nm 6 ?_ | refine w_nm 7 ?_ | refine w_nm 8 ?_ | refine w_nm 9 ?_ | refine w_nm 10 ?_ | refine w_nm 11 ?_ | refine w_nm 12 ?_ | refine w_nm 13 ?_)
              refine wa_cons (w_nm 10 ?_)
              exact wa_nil ⟨by simp, rfl, by omega, by rw [List.range_succ]; simp⟩
            rintro acc C ⟨rfl, _, rfl⟩
            have e1 : (cs2.set k s5 ++ [cl.map clD])[cs2.length]? = some (cl.map clD) := by rw [← hXl]; exact last_at
            refine wa_nil ⟨_, e1, _, _, rfl, .l, by simp; omega, ?_⟩
            have e2 : (cs2.set k s5 ++ [cl.map clD]).set cs2.length (cl.map clD ++ ((List.range n.toNat).map fun m => (g, m)).map clD) = cs2.set k s5 ++ [(cl ++ (List.range n.toNat).map fun m => (g, m)).map clD] := by
              rw [← hXl, set_last, List.map_append]
            rw [e2]
            refine ⟨_, _, rfl, by simp; omega, by omega, fun q hq => ?_, rfl⟩
            rcases List.mem_append.mp hq with h | h
            · exact hin q h
            · obtain ⟨m, hm, rfl⟩ := List.mem_map.mp h
              have := List.mem_range.mp hm
              exact ⟨by show g < n.toNat; omega, by show m < n.toNat; omega⟩
          · rintro ρ' C ⟨cl, z7, rfl, hll, hgn, hin, rfl⟩
            exact ⟨cl, z7, rfl, by omega, hin, rfl⟩
        · rw [decide_eq_false e8, if_neg (by decide)]
          exact wss_nil ⟨cl0, _, rfl, by omega, hclin0, rfl⟩
      rintro ρ' C ⟨cl, z7, rfl, hll, hclin, rfl⟩
      have hkt : k ≠ cs2.length := by omega
      have e1 : (cs2.set k s5 ++ [cl.map clD])[cs2.length]? = some (cl.map clD) := by rw [← hXl]; exact last_at
      have ek : (cs2.set k s5 ++ [cl.map clD])[k]? = some s5 := set_app_at hk
      have goF : Go cs k (c + 240) (cs2.set k s5 ++ [cl.map clD]) := ⟨((go.mono (e := max (500 * u) (c + 240)) (by omega)).set hs5 (by omega)).app.pre, go.ge, s5, c + 240, ek, hs5.mono (by omega), Nat.le_refl _⟩
      refine wss_one (ws_if (wt_not (wt_val (w_call GR (hr.mono (by decide)) ?_))))
      (repeat (first | (first | refine w_nm 0 ?_ | refine w_nm 1 ?_ | refine w_nm 2 ?_ | refine w_nm 3 ?_ | refine w_nm 4 ?_ | refine w_nm 5 ?_ | refine w_nm 6 ?_ | refine w_nm 7 ?_ | refine w_nm 8 ?_ | refine w_nm 9 ?_ | refine w_nm 10 ?_ | refine w_nm 11 ?_ | refine w_nm 12 ?_ | refine w_nm 13 ?_) | refine w_int ?_ | refine wa_cons ?_))
      refine wa_nil ⟨k, cs2.length, n, js, cl, s5, c + 240, rfl, hkt, ek, hs5.mono (by omega), by omega, e1, h2, h60, J.len, J.in_, hclin, hll, fun s6 hs6 => ⟨true, rfl, ?_⟩⟩
      exact wss_nil ⟨⟨_, _, _, _, _, rfl⟩, (goF.mono (e := max (500 * (u + 1)) (c + 340)) (by omega)).set hs6 (by omega) |> fun g => ⟨g.pre, g.ge, s6, c + 340, set_at ek, hs6, by omega⟩⟩
    · rintro ρ' cs2 ⟨⟨b3, b4, b5, b6, b7, rfl⟩, go⟩
      exact ⟨⟨_, _, _, _, _, _, _, rfl⟩, go.pre⟩
  · rintro ρ' c1 ⟨⟨b1, b2, b3, b4, b5, b6, b7, rfl⟩, pre⟩
    have fin : Shut cs.length P' (.bl true) c1 := .inr ⟨cs.length, _, .bl, hb.lowPre pre, by rw [take_pre pre]; exact hp⟩
    have ob3 : Obs 3 [none, none, none] := ⟨by decide, by decide, rfl, fun v hv => by simp at hv⟩
    refine wss_one (ws_ret (w_and (w_isB (w_call GC (hr.mono (by decide)) (wa_cons (w_int (wa_cons (w_new (wn_rep (w_new (wn_lst (wa_cons (w_non (wa_nil ⟨by simp, w_int ?_⟩))))))))))))))
    refine ⟨_, 3, .l, rfl, by decide, by decide, by decide, ?_⟩
    refine wa_cons (w_tup (wa_cons (w_str (wa_nil ⟨by simp, ?_⟩))))
    refine wa_nil ⟨3, _, _, [none, none, none], false, rfl, .l, rfl, ob3, conf_all ⟨fun z => Bool.noConfusion z, fun z => by have := z 0 (by decide) (by decide); simp at this⟩, w_bl ⟨_, _, rfl, rfl, true, rfl, ?_⟩⟩
    rw [if_pos rfl]
    refine w_one (w_isB (w_call GS (hr.mono (by decide)) (wa_cons (w_int (wa_cons (w_new (wn_lst (wa_cons (w_int (wa_cons (w_int (wa_nil ⟨by simp, ?_⟩))))))))))))
    refine wa_cons (w_tup (wa_cons (w_str (wa_nil ⟨by simp, ?_⟩))))
    refine wa_nil ⟨2, _, _, [1, 0], true, rfl, .l, rfl, rfl, by decide, by decide, by decide, conf_all ⟨fun _ v v0 v1 => ?_, fun _ => rfl⟩, w_bl ⟨_, _, rfl, rfl, fin⟩⟩
    have : v = 0 ∨ v = 1 := by omega
    rcases this with rfl | rfl <;> simp
end
end K
set_option Elab.async false
set_option linter.all false
set_option maxRecDepth 100000
set_option maxHeartbeats 0
namespace K
open PySem PySem.Spec
open PyProof.Rows L2 Rg
/-- a law's end, where no repr runs around -/
theorem walk_ofG {l : PySem.W.OpenLaw} {n k : Nat} {q : Program} {loose : List Str} {XP : (Str → Option Value) → Heap → Prop} {YP : World → Heap → Prop} {d : DefRec} {x : Str}
    (hmo : l.most = some n) (hle : n ≤ sizeLine) (hnd : d.params.defaults = []) (hr : Room k callerA)
    (F : ∀ (w : World) (mg : Str → Option Value) (fa : Addr) (h : Heap), YP w h →
        h.Ns mainGlobals mg → mg d.name = some (.ref fa) →
      ∃ (K : PySem.W.Frag) (fd : FuncData), K.In h ∧ (∀ (s : Shared) (u : Value), BindsTo s fd ⟨[u], []⟩ [(x, u)]) ∧
        ∀ base : Heap, K.In base → base.Ns mainGlobals mg → FnG l.prog w K mg base CX0 k fa fd [x] (spD (g_law K))) :
    PySem.W.WalkO q loose XP YP l.row.toRowW d
      [] (fun f vs => PySem.call f vs) := by
  refine Att.attach_call hmo hnd fun w s0 s1 mg mb fa o pm cd doc a vs ns G Y _ _ _ hmg hobj hints hlen hg => ?_
  obtain ⟨K, fd, KX, hb, hF⟩ := F w mg fa _ Y G.T.g hmg
  refine law_callG KX G.T.g G.T.b G.T.builtins G.T.nolimit hg hobj hints (Nat.le_trans hlen hle) hr hF hb (fun H hO hS => ?_) fun H e s' z => z
  obtain ⟨d0, hd0, hr0⟩ := scr_only hO hS
  refine ⟨[], [], [d0], [], fun d _ => d = .bl true, ⟨List.nodup_nil, rfl, fun k a h => by simp at h, fun a h => by cases h⟩, .cons hr0 .nil, ⟨d0, ns, rfl, hd0, rfl⟩, ?_⟩
  intro v H1 as1 e cs1 g1 c1 r1 h1
  subst h1
  cases r1
  rfl
theorem gKd_rel (as hs : List Addr) (H : Hp) (ds es : List D) (vs us : List V) (r1 : RepL as hs H ds vs) (r2 : RepL as hs H es us) : RepL as hs H (gKd ds es) (gKd vs us) := by
  cases r1 with
  | cons _ _ => exact .nil
  | nil =>
    match r2 with
    | .nil => exact .nil
    | .cons _ .nil => exact .nil
    | .cons _ (.cons _ .nil) => exact .nil
    | .cons a (.cons b (.cons c .nil)) => exact .cons c (.cons b (.cons a .nil))
    | .cons _ (.cons _ (.cons _ (.cons _ _))) => exact .nil
theorem kbd1 {K : PySem.W.Frag} {f : Addr} {fd : FuncData} (F : FnP K "shows" s_shows f fd) : KBinds K fd ["n", "assignment", "thing"] ["thing", "assignment", "n"] gKd gKd := by
  obtain ⟨c1, c2, dV, kV, c3, c4, c5, c6, c7, c8, rfl, _, _, hD, _⟩ := F.ex
  rcases hD with ⟨_, rfl⟩ | ⟨ne, _⟩
  · refine ⟨fun s us ws _ hl => ?_, fun {vs us zs ws} r1 r2 => ?_⟩
    · match us, ws, hl with
      | [], [j, i, n], _ => exact .of_eq rfl
      | _ :: _, _, h => cases h
      | [], [], h => cases h
      | [], [_], h => cases h
      | [], [_, _], h => cases h
      | [], _ :: _ :: _ :: _ :: _, h => cases h
    · cases r1 with
      | cons _ _ => exact .nil
      | nil =>
        match r2 with
        | .nil => exact .nil
        | .cons _ .nil => exact .nil
        | .cons _ (.cons _ .nil) => exact .nil
        | .cons a (.cons b (.cons c .nil)) => exact .cons c (.cons b (.cons a .nil))
        | .cons _ (.cons _ (.cons _ (.cons _ _))) => exact .nil
  · exact absurd rfl ne
theorem kbd2 {K : PySem.W.Frag} {f : Addr} {fd : FuncData} (F : FnP K "shows_conflict" s_shows_conflict f fd) : KBinds K fd ["n", "seen", "thing"] ["thing", "seen", "n"] gKd gKd := by
  obtain ⟨c1, c2, dV, kV, c3, c4, c5, c6, c7, c8, rfl, _, _, hD, _⟩ := F.ex
  rcases hD with ⟨_, rfl⟩ | ⟨ne, _⟩
  · refine ⟨fun s us ws _ hl => ?_, fun {vs us zs ws} r1 r2 => ?_⟩
    · match us, ws, hl with
      | [], [j, i, n], _ => exact .of_eq rfl
      | _ :: _, _, h => cases h
      | [], [], h => cases h
      | [], [_], h => cases h
      | [], [_, _], h => cases h
      | [], _ :: _ :: _ :: _ :: _, h => cases h
    · cases r1 with
      | cons _ _ => exact .nil
      | nil =>
        match r2 with
        | .nil => exact .nil
        | .cons _ .nil => exact .nil
        | .cons _ (.cons _ .nil) => exact .nil
        | .cons a (.cons b (.cons c .nil)) => exact .cons c (.cons b (.cons a .nil))
        | .cons _ (.cons _ (.cons _ (.cons _ _))) => exact .nil
  · exact absurd rfl ne
/-! ### the head: facts by names, the run, the end -/
def d_is_ring : He.DefD := ⟨("is_ring", none), "is_ring", "is_ring", defArgs s_is_ring, defBody s_is_ring, defScope s_is_ring, [], []⟩
def d_is_server : He.DefD := ⟨("is_server", none), "is_server", "is_server", defArgs s_is_server, defBody s_is_server, defScope s_is_server, [], []⟩
def d_assignment_ok : He.DefD := ⟨("assignment_ok", none), "assignment_ok", "assignment_ok", defArgs s_assignment_ok, defBody s_assignment_ok, defScope s_assignment_ok, [], []⟩
def d_observation_ok : He.DefD := ⟨("observation_ok", none), "observation_ok", "observation_ok", defArgs s_observation_ok, defBody s_observation_ok, defScope s_observation_ok, [], []⟩
def d_need_ring : He.DefD := ⟨("need_ring", none), "need_ring", "need_ring", defArgs s_need_ring, defBody s_need_ring, defScope s_need_ring, [], []⟩
def d_need_assignment : He.DefD := ⟨("need_assignment", none), "need_assignment", "need_assignment", defArgs s_need_assignment, defBody s_need_assignment, defScope s_need_assignment, [], []⟩
def d_need_observation : He.DefD := ⟨("need_observation", none), "need_observation", "need_observation", defArgs s_need_observation, defBody s_need_observation, defScope s_need_observation, [], []⟩
def d_gap : He.DefD := ⟨("gap", none), "gap", "gap", defArgs s_gap, defBody s_gap, defScope s_gap, [], []⟩
def d_is_conflict : He.DefD := ⟨("is_conflict", none), "is_conflict", "is_conflict", defArgs s_is_conflict, defBody s_is_conflict, defScope s_is_conflict, [], []⟩
def d__passes : He.DefD := ⟨("_passes", none), "_passes", "_passes", defArgs s__passes, defBody s__passes, defScope s__passes, [], []⟩
def d_shows_conflict : He.DefD := ⟨("shows_conflict", none), "shows_conflict", "shows_conflict", defArgs s_shows_conflict, defBody s_shows_conflict, defScope s_shows_conflict, [], []⟩
def d_shows : He.DefD := ⟨("shows", none), "shows", "shows", defArgs s_shows, defBody s_shows, defScope s_shows, [], []⟩
def d__law_feed : He.DefD := ⟨("_law_feed", none), "_law_feed", "_law_feed", defArgs s__law_feed, defBody s__law_feed, defScope s__law_feed, [], []⟩
def d__law_pick : He.DefD := ⟨("_law_pick", none), "_law_pick", "_law_pick", defArgs s__law_pick, defBody s__law_pick, defScope s__law_pick, [], []⟩
def d__law_shuffle : He.DefD := ⟨("_law_shuffle", none), "_law_shuffle", "_law_shuffle", defArgs s__law_shuffle, defBody s__law_shuffle, defScope s__law_shuffle, [], []⟩
def d__law_clock : He.DefD := ⟨("_law_clock", none), "_law_clock", "_law_clock", defArgs s__law_clock, defBody s__law_clock, defScope s__law_clock, [], []⟩
def d__law_batches : He.DefD := ⟨("_law_batches", none), "_law_batches", "_law_batches", defArgs s__law_batches, defBody s__law_batches, defScope s__law_batches, [], []⟩
def d__law_run : He.DefD := ⟨("_law_run", none), "_law_run", "_law_run", defArgs s__law_run, defBody s__law_run, defScope s__law_run, [], []⟩
def d__law_size : He.DefD := ⟨("_law_size", none), "_law_size", "_law_size", defArgs s__law_size, defBody s__law_size, defScope s__law_size, [], []⟩
def d__law_subset : He.DefD := ⟨("_law_subset", none), "_law_subset", "_law_subset", defArgs s__law_subset, defBody s__law_subset, defScope s__law_subset, [], []⟩
def d__law_away : He.DefD := ⟨("_law_away", none), "_law_away", "_law_away", defArgs s__law_away, defBody s__law_away, defScope s__law_away, [], []⟩
def d__law_stops : He.DefD := ⟨("_law_stops", none), "_law_stops", "_law_stops", defArgs s__law_stops, defBody s__law_stops, defScope s__law_stops, [], []⟩
def d__law_all_sets : He.DefD := ⟨("_law_all_sets", none), "_law_all_sets", "_law_all_sets", defArgs s__law_all_sets, defBody s__law_all_sets, defScope s__law_all_sets, [], []⟩
def d__law_same : He.DefD := ⟨("_law_same", none), "_law_same", "_law_same", defArgs s__law_same, defBody s__law_same, defScope s__law_same, [], []⟩
def d__law_true : He.DefD := ⟨("_law_true", none), "_law_true", "_law_true", defArgs s__law_true, defBody s__law_true, defScope s__law_true, [], []⟩
def d__law_odd : He.DefD := ⟨("_law_odd", none), "_law_odd", "_law_odd", defArgs s__law_odd, defBody s__law_odd, defScope s__law_odd, [], []⟩
def d__law_right : He.DefD := ⟨("_law_right", none), "_law_right", "_law_right", defArgs s__law_right, defBody s__law_right, defScope s__law_right, [], []⟩
def d_law : He.DefD := ⟨("law", none), "law", "law", defArgs s_law, defBody s_law, defScope s_law, [], []⟩
def dfs : List He.DefD := [d_is_ring, d_is_server, d_assignment_ok, d_observation_ok, d_need_ring, d_need_assignment, d_need_observation, d_gap, d_is_conflict, d__passes, d_shows_conflict, d_shows, d__law_feed, d__law_pick, d__law_shuffle, d__law_clock, d__law_batches, d__law_run, d__law_size, d__law_subset, d__law_away, d__law_stops, d__law_all_sets, d__law_same, d__law_true, d__law_odd, d__law_right, d_law]
def fcs : List He.Fa := [.glo "is_ring", .glo "is_server", .glo "assignment_ok", .glo "observation_ok", .glo "need_ring", .glo "need_assignment", .glo "need_observation", .glo "gap", .glo "is_conflict", .glo "_passes", .glo "shows_conflict", .glo "shows", .glo "_law_feed", .glo "_law_pick", .glo "_law_shuffle", .glo "_law_clock", .glo "_law_batches", .glo "_law_run", .glo "_law_size", .glo "_law_subset", .glo "_law_away", .glo "_law_stops", .glo "_law_all_sets", .glo "_law_same", .glo "_law_true", .glo "_law_odd", .glo "_law_right", .glo "law", .free "len", .free "range", .free "all", .free "zip", .free "list", .free "sorted", .free "set", .free "isinstance", .free "int", .free "bool", .free "enumerate", .free "abs", .free "max", .free "min", .free "tuple", .free "dict", .free "str", .free "repr", .int "FEWEST_SERVERS" 2, .int "MOST_SERVERS" 60]
abbrev R0 : PySem.W.OpenRow := PySem.W.OpenLaw.row PySem.Challenge.rw_ringrestart_k15_certificates_judged
abbrev hk : PySem.W.Hook := He.hookD 4 fcs dfs
def obv (s : PySem.W.SharedT) : He.AlD := He.obsDG 4 fcs dfs (HandSHeadRun.getT s)
theorem obv_eq (s : PySem.W.SharedT) : obv s = hk.obs s.abs := He.obsDG_eq (HandSHeadRun.getT_eq s)
def nms : List PySem.Str := [("__name__" : PySem.Str), ("RingError" : PySem.Str), ("NoRing" : PySem.Str), ("NoAssignment" : PySem.Str), ("NoObservation" : PySem.Str), ("FEWEST_SERVERS" : PySem.Str), ("MOST_SERVERS" : PySem.Str), ("is_ring" : PySem.Str), ("is_server" : PySem.Str), ("assignment_ok" : PySem.Str), ("observation_ok" : PySem.Str), ("need_ring" : PySem.Str), ("need_assignment" : PySem.Str), ("need_observation" : PySem.Str), ("gap" : PySem.Str), ("is_conflict" : PySem.Str), ("_passes" : PySem.Str), ("shows_conflict" : PySem.Str), ("shows" : PySem.Str), ("_law_feed" : PySem.Str), ("_law_pick" : PySem.Str), ("_law_shuffle" : PySem.Str), ("_law_clock" : PySem.Str), ("_law_batches" : PySem.Str), ("_law_run" : PySem.Str), ("_law_size" : PySem.Str), ("_law_subset" : PySem.Str), ("_law_away" : PySem.Str), ("_law_stops" : PySem.Str), ("_law_all_sets" : PySem.Str), ("_law_same" : PySem.Str), ("_law_true" : PySem.Str), ("_law_odd" : PySem.Str), ("_law_right" : PySem.Str)]
theorem runs (w : World) : HandSHeadRun.RunEq R0 (PySem.W.view R0.prog [41]) hk obv 20000 nms w := by
  intro os
  kernel_rfl
theorem facts {P : Program} {w : World} {K : PySem.W.Frag} {h : Heap} {mg : Str → Option Value} {f : Addr} (X : K.In h) (G : h.Ns mainGlobals mg) (hfa : mg ("law" : Str) = some (.ref f)) (c : He.SaysD fcs dfs K) :
    ∃ fd : FuncData, (∀ (s : Shared) (v : Value), BindsTo s fd ⟨[v], []⟩ [("script", v)]) ∧ ∀ base : Heap, K.In base → base.Ns mainGlobals mg → FnG P w K mg base CX0 9 f fd ["script"] (spD (g_law K)) := by
  obtain ⟨fd_is_ring, F_is_ring⟩ := c.def_ 0 (d := d_is_ring) rfl
  obtain ⟨fd_is_server, F_is_server⟩ := c.def_ 1 (d := d_is_server) rfl
  obtain ⟨fd_assignment_ok, F_assignment_ok⟩ := c.def_ 2 (d := d_assignment_ok) rfl
  obtain ⟨fd_observation_ok, F_observation_ok⟩ := c.def_ 3 (d := d_observation_ok) rfl
  obtain ⟨fd_need_ring, F_need_ring⟩ := c.def_ 4 (d := d_need_ring) rfl
  obtain ⟨fd_need_assignment, F_need_assignment⟩ := c.def_ 5 (d := d_need_assignment) rfl
  obtain ⟨fd_need_observation, F_need_observation⟩ := c.def_ 6 (d := d_need_observation) rfl
  obtain ⟨fd_gap, F_gap⟩ := c.def_ 7 (d := d_gap) rfl
  obtain ⟨fd_is_conflict, F_is_conflict⟩ := c.def_ 8 (d := d_is_conflict) rfl
  obtain ⟨fd__passes, F__passes⟩ := c.def_ 9 (d := d__passes) rfl
  obtain ⟨fd_shows_conflict, F_shows_conflict⟩ := c.def_ 10 (d := d_shows_conflict) rfl
  obtain ⟨fd_shows, F_shows⟩ := c.def_ 11 (d := d_shows) rfl
  obtain ⟨fd__law_feed, F__law_feed⟩ := c.def_ 12 (d := d__law_feed) rfl
  obtain ⟨fd__law_pick, F__law_pick⟩ := c.def_ 13 (d := d__law_pick) rfl
  obtain ⟨fd__law_shuffle, F__law_shuffle⟩ := c.def_ 14 (d := d__law_shuffle) rfl
  obtain ⟨fd__law_clock, F__law_clock⟩ := c.def_ 15 (d := d__law_clock) rfl
  obtain ⟨fd__law_batches, F__law_batches⟩ := c.def_ 16 (d := d__law_batches) rfl
  obtain ⟨fd__law_run, F__law_run⟩ := c.def_ 17 (d := d__law_run) rfl
  obtain ⟨fd__law_size, F__law_size⟩ := c.def_ 18 (d := d__law_size) rfl
  obtain ⟨fd__law_subset, F__law_subset⟩ := c.def_ 19 (d := d__law_subset) rfl
  obtain ⟨fd__law_away, F__law_away⟩ := c.def_ 20 (d := d__law_away) rfl
  obtain ⟨fd__law_stops, F__law_stops⟩ := c.def_ 21 (d := d__law_stops) rfl
  obtain ⟨fd__law_all_sets, F__law_all_sets⟩ := c.def_ 22 (d := d__law_all_sets) rfl
  obtain ⟨fd__law_same, F__law_same⟩ := c.def_ 23 (d := d__law_same) rfl
  obtain ⟨fd__law_true, F__law_true⟩ := c.def_ 24 (d := d__law_true) rfl
  obtain ⟨fd__law_odd, F__law_odd⟩ := c.def_ 25 (d := d__law_odd) rfl
  obtain ⟨fd__law_right, F__law_right⟩ := c.def_ 26 (d := d__law_right) rfl
  obtain ⟨fd_law, F_law⟩ := c.def_ 27 (d := d_law) rfl
  have e := hfa.symm.trans (He.glo_ok X G (c.fact 27 (f := .glo "law") rfl))
  cases e
  have b := FunD.bindsA (ps := ["script"]) F_law fun _ _ _ _ _ _ us hl => match us, hl with | [_], _ => rfl
  refine ⟨fd_law, fun s v => b s [v] rfl, fun base _ _ => ?_⟩
  have M : Bl mg := ⟨He.free_ok X G (c.fact 28 (f := .free "len") rfl), He.free_ok X G (c.fact 29 (f := .free "range") rfl), He.free_ok X G (c.fact 30 (f := .free "all") rfl), He.free_ok X G (c.fact 31 (f := .free "zip") rfl), He.free_ok X G (c.fact 32 (f := .free "list") rfl), He.free_ok X G (c.fact 33 (f := .free "sorted") rfl), He.free_ok X G (c.fact 34 (f := .free "set") rfl), He.free_ok X G (c.fact 35 (f := .free "isinstance") rfl), He.free_ok X G (c.fact 36 (f := .free "int") rfl), He.free_ok X G (c.fact 37 (f := .free "bool") rfl), He.free_ok X G (c.fact 38 (f := .free "enumerate") rfl), He.free_ok X G (c.fact 39 (f := .free "abs") rfl), He.free_ok X G (c.fact 40 (f := .free "max") rfl), He.free_ok X G (c.fact 41 (f := .free "min") rfl), He.free_ok X G (c.fact 42 (f := .free "tuple") rfl), He.free_ok X G (c.fact 43 (f := .free "dict") rfl), He.free_ok X G (c.fact 44 (f := .free "str") rfl), He.free_ok X G (c.fact 45 (f := .free "repr") rfl)⟩
  have h_FEWEST_SERVERS := He.int_ok X G (c.fact 46 (f := .int "FEWEST_SERVERS" 2) rfl)
  have h_MOST_SERVERS := He.int_ok X G (c.fact 47 (f := .int "MOST_SERVERS" 60) rfl)
  have hg__law_clock := He.glo_ok X G (c.fact 15 (f := .glo "_law_clock") rfl)
  have b__law_clock : Binds K fd__law_clock ["feed", "size"] [] := FunD.bindsN F__law_clock fun _ _ _ _ _ _ us hl => match us, hl with | [_, _], _ => rfl
  have hg__law_batches := He.glo_ok X G (c.fact 16 (f := .glo "_law_batches") rfl)
  have b__law_batches : Binds K fd__law_batches ["clock"] [] := FunD.bindsN F__law_batches fun _ _ _ _ _ _ us hl => match us, hl with | [_], _ => rfl
  have hg__law_run := He.glo_ok X G (c.fact 17 (f := .glo "_law_run") rfl)
  have b__law_run : Binds K fd__law_run ["size", "rounds_here"] [] := FunD.bindsN F__law_run fun _ _ _ _ _ _ us hl => match us, hl with | [_, _], _ => rfl
  have hg__law_all_sets := He.glo_ok X G (c.fact 22 (f := .glo "_law_all_sets") rfl)
  have b__law_all_sets : Binds K fd__law_all_sets ["size"] [] := FunD.bindsN F__law_all_sets fun _ _ _ _ _ _ us hl => match us, hl with | [_], _ => rfl
  have hg_is_ring := He.glo_ok X G (c.fact 0 (f := .glo "is_ring") rfl)
  have b_is_ring : Binds K fd_is_ring ["thing"] [] := FunD.bindsN F_is_ring fun _ _ _ _ _ _ us hl => match us, hl with | [_], _ => rfl
  have G_is_ring : FnD P w K mg base 1 "is_ring" ["thing"] (spD g_is_ring) := ⟨_, _, hg_is_ring, ok_is_ring M h_FEWEST_SERVERS h_MOST_SERVERS F_is_ring, F_is_ring.kp, b_is_ring⟩
  have hg_is_server := He.glo_ok X G (c.fact 1 (f := .glo "is_server") rfl)
  have b_is_server : Binds K fd_is_server ["n", "thing"] [] := FunD.bindsN F_is_server fun _ _ _ _ _ _ us hl => match us, hl with | [_, _], _ => rfl
  have G_is_server : FnD P w K mg base 1 "is_server" ["n", "thing"] (spD g_is_server) := ⟨_, _, hg_is_server, ok_is_server M F_is_server, F_is_server.kp, b_is_server⟩
  have hg_assignment_ok := He.glo_ok X G (c.fact 2 (f := .glo "assignment_ok") rfl)
  have b_assignment_ok : Binds K fd_assignment_ok ["n", "thing"] [] := FunD.bindsN F_assignment_ok fun _ _ _ _ _ _ us hl => match us, hl with | [_, _], _ => rfl
  have G_assignment_ok : FnD P w K mg base 1 "assignment_ok" ["n", "thing"] (spD g_assign_ok) := ⟨_, _, hg_assignment_ok, ok_assign_ok M F_assignment_ok, F_assignment_ok.kp, b_assignment_ok⟩
  have hg_observation_ok := He.glo_ok X G (c.fact 3 (f := .glo "observation_ok") rfl)
  have b_observation_ok : Binds K fd_observation_ok ["n", "thing"] [] := FunD.bindsN F_observation_ok fun _ _ _ _ _ _ us hl => match us, hl with | [_, _], _ => rfl
  have G_observation_ok : FnD P w K mg base 1 "observation_ok" ["n", "thing"] (spD g_obs_ok) := ⟨_, _, hg_observation_ok, ok_obs_ok M F_observation_ok, F_observation_ok.kp, b_observation_ok⟩
  have hg_gap := He.glo_ok X G (c.fact 7 (f := .glo "gap") rfl)
  have b_gap : Binds K fd_gap ["n", "i", "j"] [] := FunD.bindsN F_gap fun _ _ _ _ _ _ us hl => match us, hl with | [_, _, _], _ => rfl
  have G_gap : FnD P w K mg base 1 "gap" ["n", "i", "j"] (spD g_gap) := ⟨_, _, hg_gap, ok_gap F_gap, F_gap.kp, b_gap⟩
  have hg__law_feed := He.glo_ok X G (c.fact 12 (f := .glo "_law_feed") rfl)
  have b__law_feed : Binds K fd__law_feed ["script", "k"] [] := FunD.bindsN F__law_feed fun _ _ _ _ _ _ us hl => match us, hl with | [_, _], _ => rfl
  have G__law_feed : FnD P w K mg base 1 "_law_feed" ["script", "k"] (spN (g_source K)) := ⟨_, _, hg__law_feed, ok_feed M F__law_feed, F__law_feed.kp, b__law_feed⟩
  have hg__law_pick := He.glo_ok X G (c.fact 13 (f := .glo "_law_pick") rfl)
  have b__law_pick : Binds K fd__law_pick ["feed", "wide"] [] := FunD.bindsN F__law_pick fun _ _ _ _ _ _ us hl => match us, hl with | [_, _], _ => rfl
  have G__law_pick : FnD P w K mg base 1 "_law_pick" ["feed", "wide"] (spD g_pick) := ⟨_, _, hg__law_pick, ok_fpick F__law_pick, F__law_pick.kp, b__law_pick⟩
  have hg__law_away := He.glo_ok X G (c.fact 20 (f := .glo "_law_away") rfl)
  have b__law_away : Binds K fd__law_away ["size", "here", "there"] [] := FunD.bindsN F__law_away fun _ _ _ _ _ _ us hl => match us, hl with | [_, _, _], _ => rfl
  have G__law_away : FnD P w K mg base 1 "_law_away" ["size", "here", "there"] (spD g_away) := ⟨_, _, hg__law_away, ok_away F__law_away, F__law_away.kp, b__law_away⟩
  have hg__law_stops := He.glo_ok X G (c.fact 21 (f := .glo "_law_stops") rfl)
  have b__law_stops : Binds K fd__law_stops ["size", "falls"] [] := FunD.bindsN F__law_stops fun _ _ _ _ _ _ us hl => match us, hl with | [_, _], _ => rfl
  have G__law_stops : FnD P w K mg base 1 "_law_stops" ["size", "falls"] (spN g_stops) := ⟨_, _, hg__law_stops, ok_stops M F__law_stops, F__law_stops.kp, b__law_stops⟩
  have hg_need_ring := He.glo_ok X G (c.fact 4 (f := .glo "need_ring") rfl)
  have b_need_ring : Binds K fd_need_ring ["n"] [] := FunD.bindsN F_need_ring fun _ _ _ _ _ _ us hl => match us, hl with | [_], _ => rfl
  have G_need_ring : FnD P w K mg base 2 "need_ring" ["n"] (spD g_need_ring) := ⟨_, _, hg_need_ring, ok_need_ring G_is_ring F_need_ring, F_need_ring.kp, b_need_ring⟩
  have hg_need_assignment := He.glo_ok X G (c.fact 5 (f := .glo "need_assignment") rfl)
  have b_need_assignment : Binds K fd_need_assignment ["n", "assignment"] [] := FunD.bindsN F_need_assignment fun _ _ _ _ _ _ us hl => match us, hl with | [_, _], _ => rfl
  have G_need_assignment : FnD P w K mg base 2 "need_assignment" ["n", "assignment"] (spD fun ds cs P => g_assign_ok ds cs fun _ => P .non) := ⟨_, _, hg_need_assignment, ok_need_assignment G_assignment_ok F_need_assignment, F_need_assignment.kp, b_need_assignment⟩
  have hg_need_observation := He.glo_ok X G (c.fact 6 (f := .glo "need_observation") rfl)
  have b_need_observation : Binds K fd_need_observation ["n", "seen"] [] := FunD.bindsN F_need_observation fun _ _ _ _ _ _ us hl => match us, hl with | [_, _], _ => rfl
  have G_need_observation : FnD P w K mg base 2 "need_observation" ["n", "seen"] (spD g_need_obs) := ⟨_, _, hg_need_observation, ok_need_obs G_observation_ok F_need_observation, F_need_observation.kp, b_need_observation⟩
  have hg__passes := He.glo_ok X G (c.fact 9 (f := .glo "_passes") rfl)
  have b__passes : Binds K fd__passes ["n", "seen", "i", "k"] [] := FunD.bindsN F__passes fun _ _ _ _ _ _ us hl => match us, hl with | [_, _, _, _], _ => rfl
  have G__passes : FnD P w K mg base 2 "_passes" ["n", "seen", "i", "k"] (spD g_passO) := ⟨_, _, hg__passes, ok_passO G_gap F__passes, F__passes.kp, b__passes⟩
  have hg__law_shuffle := He.glo_ok X G (c.fact 14 (f := .glo "_law_shuffle") rfl)
  have b__law_shuffle : Binds K fd__law_shuffle ["feed", "values"] [] := FunD.bindsN F__law_shuffle fun _ _ _ _ _ _ us hl => match us, hl with | [_, _], _ => rfl
  have G__law_shuffle : FnD P w K mg base 2 "_law_shuffle" ["feed", "values"] (spN g_shuffled) := ⟨_, _, hg__law_shuffle, ok_shuffle M G__law_pick F__law_shuffle, F__law_shuffle.kp, b__law_shuffle⟩
  have hg__law_size := He.glo_ok X G (c.fact 18 (f := .glo "_law_size") rfl)
  have b__law_size : Binds K fd__law_size ["feed"] [] := FunD.bindsN F__law_size fun _ _ _ _ _ _ us hl => match us, hl with | [_], _ => rfl
  have G__law_size : FnD P w K mg base 2 "_law_size" ["feed"] (spD g_size) := ⟨_, _, hg__law_size, ok_fsize G__law_pick F__law_size, F__law_size.kp, b__law_size⟩
  have hg__law_subset := He.glo_ok X G (c.fact 19 (f := .glo "_law_subset") rfl)
  have b__law_subset : Binds K fd__law_subset ["feed", "size"] [] := FunD.bindsN F__law_subset fun _ _ _ _ _ _ us hl => match us, hl with | [_, _], _ => rfl
  have G__law_subset : FnD P w K mg base 2 "_law_subset" ["feed", "size"] (spN g_subset) := ⟨_, _, hg__law_subset, ok_subset M G__law_pick F__law_subset, F__law_subset.kp, b__law_subset⟩
  have hg__law_true := He.glo_ok X G (c.fact 24 (f := .glo "_law_true") rfl)
  have b__law_true : Binds K fd__law_true ["size", "stops", "claim"] [] := FunD.bindsN F__law_true fun _ _ _ _ _ _ us hl => match us, hl with | [_, _, _], _ => rfl
  have G__law_true : FnD P w K mg base 2 "_law_true" ["size", "stops", "claim"] (spD g_ltrue) := ⟨_, _, hg__law_true, ok_ltrue G__law_away F__law_true, F__law_true.kp, b__law_true⟩
  have hg__law_odd := He.glo_ok X G (c.fact 25 (f := .glo "_law_odd") rfl)
  have b__law_odd : Binds K fd__law_odd ["feed", "size"] [] := FunD.bindsN F__law_odd fun _ _ _ _ _ _ us hl => match us, hl with | [_, _], _ => rfl
  have G__law_odd : FnD P w K mg base 2 "_law_odd" ["feed", "size"] (spN g_odd) := ⟨_, _, hg__law_odd, ok_odd G__law_pick F__law_odd, F__law_odd.kp, b__law_odd⟩
  have hg_is_conflict := He.glo_ok X G (c.fact 8 (f := .glo "is_conflict") rfl)
  have b_is_conflict : Binds K fd_is_conflict ["n", "seen", "thing"] [] := FunD.bindsN F_is_conflict fun _ _ _ _ _ _ us hl => match us, hl with | [_, _, _], _ => rfl
  have G_is_conflict : FnD P w K mg base 3 "is_conflict" ["n", "seen", "thing"] (spD g_isconfX) := ⟨_, _, hg_is_conflict, ok_isconfX M G_is_server G__passes F_is_conflict, F_is_conflict.kp, b_is_conflict⟩
  have hg__law_same := He.glo_ok X G (c.fact 23 (f := .glo "_law_same") rfl)
  have b__law_same : Binds K fd__law_same ["found", "due"] [] := FunD.bindsN F__law_same fun _ _ _ _ _ _ us hl => match us, hl with | [_, _], _ => rfl
  have G_same2 : FnD P w K mg base 3 "_law_same" ["found", "due"] (spD (g_same 2)) := ⟨_, _, hg__law_same, ok_same M F__law_same hg__law_same b__law_same 2, F__law_same.kp, b__law_same⟩
  have hg_shows_conflict := He.glo_ok X G (c.fact 10 (f := .glo "shows_conflict") rfl)
  have b_shows_conflict : Binds K fd_shows_conflict ["n", "seen", "thing"] [] := FunD.bindsN F_shows_conflict fun _ _ _ _ _ _ us hl => match us, hl with | [_, _, _], _ => rfl
  have G_shows_conflict : FnD P w K mg base 4 "shows_conflict" ["n", "seen", "thing"] (spD g_showsC) := ⟨_, _, hg_shows_conflict, ok_showsC G_need_ring G_need_observation G_is_conflict F_shows_conflict, F_shows_conflict.kp, b_shows_conflict⟩
  have GK_shows_conflict : FnK P w K mg base 4 "shows_conflict" ["n", "seen", "thing"] ["thing", "seen", "n"] gKd (spD g_showsC) := ⟨_, _, _, _, hg_shows_conflict, ok_showsC G_need_ring G_need_observation G_is_conflict F_shows_conflict, F_shows_conflict.kp, kbd2 F_shows_conflict, gKd_rel⟩
  have hg_shows := He.glo_ok X G (c.fact 11 (f := .glo "shows") rfl)
  have b_shows : Binds K fd_shows ["n", "assignment", "thing"] [] := FunD.bindsN F_shows fun _ _ _ _ _ _ us hl => match us, hl with | [_, _, _], _ => rfl
  have G_shows : FnD P w K mg base 4 "shows" ["n", "assignment", "thing"] (spD g_showsX) := ⟨_, _, hg_shows, ok_showsX G_need_ring G_need_assignment G_is_conflict F_shows, F_shows.kp, b_shows⟩
  have GK_shows : FnK P w K mg base 4 "shows" ["n", "assignment", "thing"] ["thing", "assignment", "n"] gKd (spD g_showsX) := ⟨_, _, _, _, hg_shows, ok_showsX G_need_ring G_need_assignment G_is_conflict F_shows, F_shows.kp, kbd1 F_shows, gKd_rel⟩
  have hg__law_right := He.glo_ok X G (c.fact 26 (f := .glo "_law_right") rfl)
  have b__law_right : Binds K fd__law_right ["feed", "size", "stops", "things"] [] := FunD.bindsN F__law_right fun _ _ _ _ _ _ us hl => match us, hl with | [_, _, _, _], _ => rfl
  have G__law_right : FnD P w K mg base 5 "_law_right" ["feed", "size", "stops", "things"] (spD g_right15) := ⟨_, _, hg__law_right, ok_right15 M G__law_pick G__law_true G_shows GK_shows G_shows_conflict GK_shows_conflict G__law_odd G_same2 F__law_right, F__law_right.kp, b__law_right⟩
  exact ok_law M G__law_feed G__law_pick G__law_size G__law_subset G__law_stops G__law_shuffle G__law_right G_shows G_shows_conflict F_law
end K
open PySem PySem.W
open PySem.Calls PyProof.Rows
theorem PySem.Challenge.cw_ringrestart_k15_certificates_judged_holds : PySem.Challenge.rw_ringrestart_k15_certificates_judged.Holds := by
  w_on; o_law
  refine HandSHeadRun.head_any (r := OpenLaw.row PySem.Challenge.rw_ringrestart_k15_certificates_judged) (q := view (OpenLaw.row PySem.Challenge.rw_ringrestart_k15_certificates_judged).prog [41]) (H := K.hk) (ob := K.obv) (M := 20000) (loose := K.nms) (d := HandSHeadRun.topDef (OpenLaw.row PySem.Challenge.rw_ringrestart_k15_certificates_judged).prog 41) (kwd := []) K.obv_eq
    (by kernel_rfl) (fun s => by kernel_rfl) K.runs (by kernel_rfl) (by kernel_rfl) (by kernel_rfl) (by rfl) (by first | assumption | decide +kernel) (by decide +kernel) ⟨rfl, rfl, rfl, rfl, rfl, by decide +kernel⟩ ?hw ?hc
  case hw => w_witness2
  case hc =>
    refine K.walk_ofG (l := PySem.Challenge.rw_ringrestart_k15_certificates_judged) (n := 63) (k := 9) (x := "script") rfl (by decide) (by kernel_rfl) ⟨rfl, by decide, by decide⟩ ?F
    intro w mg fa h Y G hmg0
    obtain ⟨K0, KX, c⟩ := Y
    have hname : mg ("law" : PySem.Str) = some (.ref fa) := by
      have e : (HandSHeadRun.topDef (OpenLaw.row PySem.Challenge.rw_ringrestart_k15_certificates_judged).prog 41).name = ("law" : PySem.Str) := by kernel_rfl
      rw [← e]
      exact hmg0
    obtain ⟨fd, hb, hF⟩ := K.facts (P := (PySem.Challenge.rw_ringrestart_k15_certificates_judged).prog) (w := w) KX G hname c
    exact ⟨K0, fd, KX, hb, hF⟩
