import PyProof.Rows.All
import Wide.All
import OpenK.AllK
import Wide.FinOn
import HandS.ForMost
import HandS.Evl
import HandS.IsInst
import HandS.WideBits
import HandS.Style
import HandS.Deep
import HandS.Sort
import HandS.SortInts
import HandS.RevRange
import HandS.Zip
import PyProof.ReprRoads
import HandS.Walk
import HandS.Dict
import HandS.Conv
import HandS.Comp
import PySem.Challenge.RW_supermoves_k19_whole_sides_of_capacity
set_option Elab.async false
set_option linter.all false
set_option maxRecDepth 100000
set_option maxHeartbeats 4000000
namespace DL
open PySem PySem.Spec PyProof.Rows L2 Evl

/-! ### plain data as it stands in the tracked heap -/
mutual
inductive Da (K : PySem.W.Frag) (H : Hp) : V → PyData → Prop
  | non : Da K H .non .none
  | bl (b : Bool) : Da K H (.bl b) (.bool b)
  | int (i : Int) : Da K H (.int i) (.int i)
  | str (x : Str) : Da K H (.str x) (.str x)
  | lst {a : Addr} {xs : List V} {ds : List PyData} : SqL K H a xs → DaAll K H xs ds → Da K H (.ref a) (.list ds)
  | tup {a : Addr} {xs : List V} {ds : List PyData} : SqT K H a xs → DaAll K H xs ds → Da K H (.ref a) (.tuple ds)
  | dct {a : Addr} : H a = some (.dK []) → Da K H (.ref a) (.dict [])
inductive DaAll (K : PySem.W.Frag) (H : Hp) : List V → List PyData → Prop
  | nil : DaAll K H [] []
  | cons {v : V} {vs : List V} {d : PyData} {ds : List PyData} : Da K H v d → DaAll K H vs ds → DaAll K H (v :: vs) (d :: ds)
end
section
variable {K : PySem.W.Frag} {H H' : Hp}
mutual
theorem Da.mono (e : Ex H H') : ∀ (d : PyData) (v : V), Da K H v d → Da K H' v d
  | .none, _, h => by cases h; exact .non
  | .bool _, _, h => by cases h; exact .bl _
  | .int _, _, h => by cases h; exact .int _
  | .str _, _, h => by cases h; exact .str _
  | .list ds, _, h => by
    cases h with
    | lst hs ha => exact .lst (ex_l e hs) (DaAll.mono e ds _ ha)
  | .tuple ds, _, h => by
    cases h with
    | tup hs ha => exact .tup (ex_t e hs) (DaAll.mono e ds _ ha)
  | .dict _, _, h => by
    cases h with
    | dct hs => exact .dct (e _ _ hs)
theorem DaAll.mono (e : Ex H H') : ∀ (ds : List PyData) (vs : List V), DaAll K H vs ds → DaAll K H' vs ds
  | [], _, h => by cases h; exact .nil
  | d :: ds, _, h => by
    cases h with
    | cons h1 h2 => exact .cons (Da.mono e d _ h1) (DaAll.mono e ds _ h2)
end
theorem DaAll.len : ∀ {vs : List V} {ds : List PyData}, DaAll K H vs ds → vs.length = ds.length
  | _, _, .nil => rfl
  | _, _, .cons _ t => by rw [List.length_cons, List.length_cons, DaAll.len t]
theorem DaAll.at_ : ∀ {vs : List V} {ds : List PyData} {i : Nat} {d : PyData}, DaAll K H vs ds → ds[i]? = some d → ∃ v, vs[i]? = some v ∧ Da K H v d
  | _, _, _, _, .nil, h => by simp at h
  | _, _, 0, _, .cons h _, e => by
    simp at e
    subst e
    exact ⟨_, rfl, h⟩
  | _, _, i + 1, _, .cons _ t, e => by
    obtain ⟨v, h1, h2⟩ := DaAll.at_ (i := i) t (by simpa using e)
    exact ⟨v, by simpa using h1, h2⟩
theorem DaAll.atV : ∀ {vs : List V} {ds : List PyData} {i : Nat} {v : V}, DaAll K H vs ds → vs[i]? = some v → ∃ d, ds[i]? = some d ∧ Da K H v d
  | _, _, _, _, .nil, h => by simp at h
  | _, _, 0, _, .cons h _, e => by
    simp at e
    subst e
    exact ⟨_, rfl, h⟩
  | _, _, i + 1, _, .cons _ t, e => by
    obtain ⟨d, h1, h2⟩ := DaAll.atV (i := i) t (by simpa using e)
    exact ⟨d, by simpa using h1, h2⟩
theorem DaAll.app : ∀ {vs ws : List V} {ds es : List PyData}, DaAll K H vs ds → DaAll K H ws es → DaAll K H (vs ++ ws) (ds ++ es)
  | _, _, _, _, .nil, h => h
  | _, _, _, _, .cons a t, h => .cons a (DaAll.app t h)
theorem DaAll.take : ∀ {vs : List V} {ds : List PyData} (n : Nat), DaAll K H vs ds → DaAll K H (vs.take n) (ds.take n)
  | _, _, 0, _ => .nil
  | _, _, _ + 1, .nil => .nil
  | _, _, n + 1, .cons a t => .cons a (DaAll.take n t)
theorem DaAll.drop : ∀ {vs : List V} {ds : List PyData} (n : Nat), DaAll K H vs ds → DaAll K H (vs.drop n) (ds.drop n)
  | _, _, 0, h => h
  | _, _, _ + 1, .nil => .nil
  | _, _, n + 1, .cons _ t => DaAll.drop n t
theorem DaAll.set : ∀ {vs : List V} {ds : List PyData} {v : V} {d : PyData} (n : Nat), DaAll K H vs ds → Da K H v d → DaAll K H (vs.set n v) (ds.set n d)
  | _, _, _, _, _, .nil, _ => .nil
  | _, _, _, _, 0, .cons _ t, h => .cons h t
  | _, _, _, _, n + 1, .cons a t, h => .cons a (DaAll.set n t h)
theorem DaAll.ints : ∀ {vs : List V} {ns : List Int}, DaAll K H vs (ns.map PyData.int) → vs = ns.map V.int
  | _, [], h => by cases h; rfl
  | _, n :: ns, h => by
    cases h with
    | cons a t =>
      cases a
      rw [DaAll.ints t]
      rfl
theorem DaAll.bools : ∀ {vs : List V} {ns : List Bool}, DaAll K H vs (ns.map PyData.bool) → vs = ns.map V.bl
  | _, [], h => by cases h; rfl
  | _, n :: ns, h => by
    cases h with
    | cons a t =>
      cases a
      rw [DaAll.bools t]
      rfl
theorem DaAll.of_ints : ∀ (ns : List Int), DaAll K H (ns.map V.int) (ns.map PyData.int)
  | [] => .nil
  | n :: ns => .cons (.int n) (DaAll.of_ints ns)
end
/-! what the machine reads there -/
section
variable {X : Cx} {pins : List (Addr × Obj)} {σ : L2.St} {s : Shared} {H : Hp}
theorem rd_list (I : Inv X pins σ H s) {a : Addr} {xs : List V} (h : SqL X.K H a xs) : ∃ (its : List Value) (n : Nat) (dd : Option Addr) (sl : Array (Option Value)), Vals xs its ∧ xs.length ≤ sizeLine ∧ s.heap.get? a = some { cls := .type "list", dict := dd, data := .seq its.toArray n, slots := sl } := by
  obtain ⟨its, r, ⟨⟨cls, dd, dt, sl⟩, n, e, h1, h2, h3⟩, z⟩ := I.list h
  simp only at h1 h3
  subst h1 h3
  exact ⟨its, n, dd, sl, r, z, e⟩
theorem rd_dict (I : Inv X pins σ H s) {a : Addr} (hs : H a = some (.dK [])) : Reads s.heap (.ref a) (.dict []) [a] ∧ a ≠ sysModules := by
  obtain ⟨_, y, vs, kv, o, es, ep, ho, hx, hd, _, hp, _⟩ := (show ObjOk X.prog X.w H s.heap a (.dK []) from I.hok _ _ hs)
  have e0 : vs = [] := by cases kv; rfl
  subst e0
  have e1 : es.toList = [] := by
    generalize es.toList = l at hp
    cases hp
    rfl
  refine ⟨Reads.dict (kvs := []) (as := []) (bs := []) ho hx.1 hd (by rw [e1]; exact .nil) (by rw [e1]; exact .nil), ?_⟩
  intro e
  rw [e] at y
  simp at y
mutual
theorem Da.reads (I : Inv X pins σ H s) : ∀ (d : PyData) (v : V) (u : Value), Da X.K H v d → RelV v u → ∃ as, Reads s.heap u d as
  | .none, _, _, h, r => by
    cases h
    cases r
    exact ⟨_, Reads.none⟩
  | .bool b, _, _, h, r => by
    cases h
    cases r
    exact ⟨_, Reads.bool b⟩
  | .int i, _, _, h, r => by
    cases h
    obtain ⟨t, rfl⟩ := r
    exact ⟨_, Reads.int i t⟩
  | .str x, _, _, h, r => by
    cases h
    obtain ⟨t, rfl⟩ := r
    exact ⟨_, Reads.str x t⟩
  | .list ds, _, _, h, r => by
    cases h with
    | lst hs ha =>
      cases r
      obtain ⟨its, n, dd, sl, rv, _, e⟩ := rd_list I hs
      obtain ⟨as, hr⟩ := DaAll.reads I ds _ its ha rv
      exact ⟨_, Reads.list e rfl rfl hr⟩
  | .tuple ds, _, _, h, r => by
    cases h with
    | tup hs ha =>
      cases r
      obtain ⟨its, rv, ⟨o, ho, hc, n, hd⟩, _⟩ := I.tuple hs
      obtain ⟨as, hr⟩ := DaAll.reads I ds _ its ha rv
      exact ⟨_, Reads.tuple ho hc hd hr⟩
  | .dict _, _, _, h, r => by
    cases h with
    | dct hs =>
      cases r
      exact ⟨_, (rd_dict I hs).1⟩
theorem DaAll.reads (I : Inv X pins σ H s) : ∀ (ds : List PyData) (vs : List V) (us : List Value), DaAll X.K H vs ds → Vals vs us → ∃ as, ReadsAll s.heap us ds as
  | [], _, _, h, r => by
    cases h
    cases r
    exact ⟨_, ReadsAll.nil⟩
  | d :: ds, _, _, h, r => by
    cases h with
    | cons h1 h2 =>
      cases r with
      | cons r1 r2 =>
        obtain ⟨as, q1⟩ := Da.reads I d _ _ h1 r1
        obtain ⟨bs, q2⟩ := DaAll.reads I ds _ _ h2 r2
        exact ⟨_, ReadsAll.cons q1 q2⟩
end
end

/-! ### how the heaps grow -/
/-- H0: the known part that stays for good; as: what may change by itself -/
structure Gr (as : List Addr) (H0 H H0' H' : Hp) : Prop where
  e0 : Ex H0 H0'
  e1 : ∀ a o, a ∉ as → H a = some o → H' a = some o
  nw : ∀ a o, a ∉ as → H0' a = some o → H a ≠ none → H0 a = some o
  kp : ∀ a, H a ≠ none → H' a ≠ none
  sub : Ex H0' H'
theorem Gr.refl {as : List Addr} {H0 H : Hp} (h : Ex H0 H) : Gr as H0 H H0 H := ⟨Ex.refl _, fun _ _ _ e => e, fun _ _ _ e _ => e, fun _ h => h, h⟩
theorem Gr.trans {as bs : List Addr} {H0 H H1 H1' H2 H2' : Hp} (p : Gr as H0 H H1 H1') (q : Gr bs H1 H1' H2 H2') (h : ∀ a ∈ bs, a ∈ as ∨ H a = none) : Gr as H0 H H2 H2' where
  e0 := p.e0.trans q.e0
  e1 := fun a o n e => q.e1 a o (fun hb => by
    rcases h a hb with z | z
    · exact n z
    · rw [e] at z; cases z) (p.e1 a o n e)
  nw := fun a o m e n => p.nw a o m (q.nw a o (fun hb => (h a hb).elim m n) e (p.kp a n)) n
  kp := fun a n => q.kp a (p.kp a n)
  sub := q.sub
theorem Gr.mono {as bs : List Addr} {H0 H H1 H1' : Hp} (p : Gr bs H0 H H1 H1') (h : ∀ a ∈ bs, a ∈ as) : Gr as H0 H H1 H1' :=
  ⟨p.e0, fun a o n e => p.e1 a o (fun z => n (h a z)) e, fun a o n e => p.nw a o (fun z => n (h a z)) e, p.kp, p.sub⟩
theorem Gr.tr {as : List Addr} {H0 H H1 H1' H2 H2' : Hp} (p : Gr as H0 H H1 H1') (q : Gr as H1 H1' H2 H2') : Gr as H0 H H2 H2' := p.trans q fun _ h => .inl h
theorem Gr.tr0 {as : List Addr} {H0 H H1 H1' H2 H2' : Hp} (p : Gr as H0 H H1 H1') (q : Gr [] H1 H1' H2 H2') : Gr as H0 H H2 H2' := p.trans q fun _ h => absurd h (by simp)
/-- a new object that stays -/
theorem Gr.new {H0 H : Hp} {p : Addr} {o : HO} (s : Ex H0 H) (h : H p = none) : Gr [] H0 H (upd H0 p o) (upd H p o) where
  e0 := Ex.new (fresh_back s h)
  e1 := fun a u _ e => Ex.new h a u e
  nw := fun a u _ e n => by
    rw [upd_ne (fun z => n (by rw [z]; exact h))] at e
    exact e
  kp := fun a n => by
    rw [upd_ne (fun z => n (by rw [z]; exact h))]
    exact n
  sub := fun a u e => by
    by_cases z : a = p
    · subst z
      rw [upd_same] at e ⊢
      exact e
    · rw [upd_ne z] at e ⊢
      exact s a u e

/-! ### what the names hold: nothing known, data, a list of one's own (by its number) -/
inductive Sl where
  | u
  | d (x : PyData)
  | o (k : Nat)
abbrev Os := List (Option (List PyData))
/-- the lists of one's own -/
structure Own (K : PySem.W.Frag) (as : List Addr) (os : Os) (H0 H : Hp) : Prop where
  nd : as.Nodup
  len : as.length = os.length
  trk : ∀ a ∈ as, H a ≠ none
  at_ : ∀ (k : Nat) (a : Addr) (ds : List PyData), as[k]? = some a → os[k]? = some (some ds) → H0 a = none ∧ ∃ vs, H a = some (.lst vs) ∧ DaAll K H0 vs ds
structure En (K : PySem.W.Frag) (as : List Addr) (ρ : List Sl) (os : Os) (σ : L2.St) (H0 H : Hp) : Prop where
  sub : Ex H0 H
  len : σ.length = ρ.length
  dat : ∀ (i : Nat) (x : PyData), ρ[i]? = some (.d x) → ∃ v, σ[i]? = some (some v) ∧ Da K H0 v x
  ref : ∀ (i k : Nat), ρ[i]? = some (.o k) → ∃ a, as[k]? = some a ∧ σ[i]? = some (some (.ref a))
  ow : Own K as os H0 H
section
variable {K : PySem.W.Frag} {as : List Addr} {ρ : List Sl} {os : Os} {σ : L2.St} {H0 H H0' H' : Hp}
theorem Own.grow (w : Own K as os H0 H) (g : Gr [] H0 H H0' H') : Own K as os H0' H' := ⟨w.nd, w.len, fun a h => g.kp a (w.trk a h), fun k a ds h1 h2 => by
  obtain ⟨n, vs, e, r⟩ := w.at_ k a ds h1 h2
  refine ⟨?_, vs, g.e1 a _ (by simp) e, DaAll.mono g.e0 _ _ r⟩
  cases q : H0' a with
  | none => rfl
  | some o =>
    have := g.nw a o (by simp) q (by rw [e]; simp)
    rw [n] at this
    cases this⟩
theorem En.grow (n : En K as ρ os σ H0 H) (g : Gr [] H0 H H0' H') : En K as ρ os σ H0' H' :=
  ⟨g.sub, n.len, fun i x h => by
    obtain ⟨v, e, r⟩ := n.dat i x h
    exact ⟨v, e, Da.mono g.e0 _ _ r⟩, n.ref, n.ow.grow g⟩
end
end DL

set_option Elab.async false
set_option linter.all false
set_option maxRecDepth 100000
set_option maxHeartbeats 4000000
namespace DL
open PySem PySem.Spec PyProof.Rows L2 Evl

/-! ### operations on data -/
abbrev bitsOf (i : Int) : Int := (Builtin.Int.intBits i : Int)
def addD : PyData → PyData → Option PyData
  | .int a, .int b => some (.int (a + b))
  | .str a, .str b => if a.length + b.length ≤ sizeLine then some (.str (a ++ b)) else none
  | .list a, .list b => if a.length + b.length ≤ sizeLine then some (.list (a ++ b)) else none
  | _, _ => none
def subD : PyData → PyData → Option PyData
  | .int a, .int b => some (.int (a - b))
  | _, _ => none
def mulD : PyData → PyData → Option PyData
  | .int a, .int b => if bitsOf a + bitsOf b ≤ 134217728 then some (.int (a * b)) else none
  | _, _ => none
def modD : PyData → PyData → Option PyData
  | .int a, .int b => if 0 < b then some (.int (a % b)) else none
  | _, _ => none
def fdivD : PyData → PyData → Option PyData
  | .int a, .int b => if 0 < b ∧ Builtin.Int.intBits a ≤ Builtin.Int.intBits b + 4000 then some (.int (a / b)) else none
  | _, _ => none
def shlD : PyData → PyData → Option PyData
  | .int a, .int b => if 0 ≤ b ∧ bitsOf a + b ≤ 134217728 then some (.int (a * 2 ^ b.toNat)) else none
  | _, _ => none
def powD : PyData → PyData → Option PyData
  | .int a, .int b => if 0 ≤ b ∧ bitsOf a * b ≤ 134217728 then some (.int (a ^ b.toNat)) else none
  | _, _ => none
def cmpD (f : Int → Int → Bool) : PyData → PyData → Option PyData
  | .int a, .int b => some (.bool (f a b))
  | _, _ => none
def eqD : PyData → PyData → Option PyData
  | .str a, .str b => some (.bool (decide (a = b)))
  | x, y => if SeqAt.shaped x = true ∧ SeqAt.shaped y = true then some (.bool (PyData.eqv x y)) else none
def neD : PyData → PyData → Option PyData
  | .str a, .str b => some (.bool (!decide (a = b)))
  | x, y => if SeqAt.shaped x = true ∧ SeqAt.shaped y = true then some (.bool (!PyData.eqv x y)) else none
def strsOf : List PyData → Option (List Str)
  | [] => some []
  | .str x :: r => (strsOf r).map (x :: ·)
  | _ => none
theorem strsOf_map : ∀ ns : List Str, strsOf (ns.map PyData.str) = some ns
  | [] => rfl
  | n :: r => by
    show (strsOf (r.map PyData.str)).map (n :: ·) = _
    rw [strsOf_map r]
    rfl
theorem strsOf_eq : ∀ {ds : List PyData} {ns : List Str}, strsOf ds = some ns → ds = ns.map PyData.str
  | [], _, h => by cases h; rfl
  | d :: r, ns, h => by
    cases d with
    | str i =>
      simp only [strsOf] at h
      cases q : strsOf r with
      | none => rw [q] at h; cases h
      | some ms =>
        rw [q] at h
        cases h
        rw [strsOf_eq q]
        rfl
    | _ => cases h
/-- a text among texts -/
def inS (neg : Bool) (x c : PyData) : Option PyData := match x, c with
  | .str a, .list c => (strsOf c).map fun cs => .bool (if neg then !decide (a ∈ cs) else decide (a ∈ cs))
  | .str a, .tuple c => (strsOf c).map fun cs => .bool (if neg then !decide (a ∈ cs) else decide (a ∈ cs))
  | _, _ => none
def inG (neg : Bool) (x : PyData) : PyData → Option PyData
  | .list c => if SeqAt.shaped x = true ∧ PyData.canLayAll0 c = true then some (.bool (if neg then !(c.any fun y => PyData.eqv y x) else c.any fun y => PyData.eqv y x)) else none
  | .tuple c => if SeqAt.shaped x = true ∧ PyData.canLayAll0 c = true then some (.bool (if neg then !(c.any fun y => PyData.eqv y x) else c.any fun y => PyData.eqv y x)) else none
  | _ => none
def inD (neg : Bool) (x c : PyData) : Option PyData := match inS neg x c with
  | some z => some z
  | none => inG neg x c
def noneD : PyData → Bool
  | .none => true
  | _ => false
def isD (neg : Bool) : PyData → PyData → Option PyData
  | x, .none => some (.bool (if neg then !noneD x else noneD x))
  | .bool a, .bool b => some (.bool (if neg then !decide (a = b) else decide (a = b)))
  | _, _ => none
def negD : PyData → Option PyData
  | .int a => some (.int (-a))
  | _ => none
def truthD : PyData → Option Bool
  | .none => some false
  | .bool b => some b
  | .int i => some (i != 0)
  | .str x => if x.length ≤ sizeLine then some ((x.length : Int) != 0) else none
  | .list c => some !c.isEmpty
  | .tuple c => some !c.isEmpty
  | .dict _ => some false

/-! ### how they are done on values -/
def rD (K : PySem.W.Frag) (f : PyData → PyData → Option PyData) : R2 := fun u v H Q => ∃ H0 d e z, Ex H0 H ∧ Da K H0 u d ∧ Da K H0 v e ∧ f d e = some z ∧ ∀ w H0' H', Gr [] H0 H H0' H' → Da K H0' w z → Q w H'
def rU1 (K : PySem.W.Frag) (f : PyData → Option PyData) : V → Hp → VK → Prop := fun u H Q => ∃ H0 d z, Ex H0 H ∧ Da K H0 u d ∧ f d = some z ∧ ∀ w H0' H', Gr [] H0 H H0' H' → Da K H0' w z → Q w H'
def rC (K : PySem.W.Frag) (f : List PyData → Option PyData) : List V → Hp → VK → Prop := fun us H Q => ∃ H0 ds z, Ex H0 H ∧ DaAll K H0 us ds ∧ f ds = some z ∧ ∀ w H0' H', Gr [] H0 H H0' H' → Da K H0' w z → Q w H'
section
variable {X : Cx}
theorem da_intI {K : PySem.W.Frag} {H : Hp} {v : V} {i : Int} (h : Da K H v (.int i)) : v = .int i := by cases h; rfl
theorem opd {f : Value → Value → Sem Value} {g : PyData → PyData → Option PyData}
    (h : ∀ (pins : List (Addr × Obj)) (s : Shared) (σ : L2.St) (H H0 : Hp) (x y : V) (v u : Value) (Q : VK) (d e z : PyData), Inv X pins σ H s → RelV x v → RelV y u → Ex H0 H → Da X.K H0 x d → Da X.K H0 y e → g d e = some z → (∀ w H0' H', Gr [] H0 H H0' H' → Da X.K H0' w z → Q w H') →
      wpAny (model X.prog X.w) X.A (f v u) (EP X pins σ Q) X.xe s) : OpR X f (rD X.K g) := by
  intro pins s σ H x y v u Q I rx ry q
  obtain ⟨H0, d, e, z, h1, h2, h3, h4, h5⟩ := q
  exact h pins s σ H H0 x y v u Q d e z I rx ry h1 h2 h3 h4 h5
theorem opI2 {f : Value → Value → Sem Value} {g : PyData → PyData → Option PyData} (hg : ∀ d e z, g d e = some z → ∃ i j, d = .int i ∧ e = .int j)
    (h : ∀ (i j : Int) (z : PyData), g (.int i) (.int j) = some z → ∃ z', (∀ (K : PySem.W.Frag) H, Da K H z' z) ∧ OpR X f (fun x y H Q => x = .int i ∧ y = .int j ∧ Q z' H)) : OpR X f (rD X.K g) :=
  opd fun pins s σ H H0 x y v u Q d e z I rx ry s0 hd he hf q => by
    obtain ⟨i, j, rfl, rfl⟩ := hg d e z hf
    obtain ⟨z', hz, r⟩ := h i j z hf
    exact r pins s σ H x y v u Q I rx ry ⟨da_intI hd, da_intI he, q z' H0 H (Gr.refl s0) (hz _ _)⟩
theorem op_addD : OpR X (binaryOp .Add) (rD X.K addD) := opd fun pins s σ H H0 x y v u Q d e z I rx ry s0 hd he hf q => by
  cases hd with
  | int i =>
    cases he with
    | int j =>
      cases hf
      exact op_add pins s σ H _ _ v u Q I rx ry ⟨i, j, rfl, rfl, q _ H0 H (Gr.refl s0) (.int _)⟩
    | _ => cases hf
  | str i =>
    cases he with
    | str j =>
      simp only [addD] at hf
      split at hf
      · cases hf
        exact op_add_str pins s σ H _ _ v u Q I rx ry ⟨i, j, rfl, rfl, by assumption, q _ H0 H (Gr.refl s0) (.str _)⟩
      · cases hf
    | _ => cases hf
  | @lst l xs ds h1 h2 =>
    cases he with
    | @lst b ys es h3 h4 =>
      simp only [addD] at hf
      split at hf
      · rename_i hz
        cases hf
        cases rx
        cases ry
        obtain ⟨its, n, dd, sl, r, hl, e⟩ := rd_list I (ex_l s0 h1)
        obtain ⟨its2, n2, dd2, sl2, r2, hl2, e2⟩ := rd_list I (ex_l s0 h3)
        have l1 := h2.len
        have l2 := h4.len
        have l3 := r.length
        have l4 := r2.length
        have ea : its.toArray ++ its2.toArray = (its ++ its2).toArray := by simp
        refine concat_meets ⟨_, e, rfl⟩ ⟨_, e2, rfl⟩ noFill_list_add seq_list_add PySem.F.slot_list_add PySem.F.entry_list_add (PySem.F.args_list_add_2 _ _) (list_addW l b its.toArray its2.toArray n n2 dd dd2 sl sl2 (by rw [List.size_toArray, List.size_toArray]; omega)) ⟨e, e2, ?_⟩
        rw [ea]
        exact ⟨.ref _, _, I.lnew (t' := s.toks) (r.append r2) (by rw [List.length_append]; omega), rfl, q _ _ _ (Gr.new s0 I.fresh) (.lst (SqL.of upd_same) ((DaAll.app h2 h4).mono (Ex.new (fresh_back s0 I.fresh))))⟩
      · cases hf
    | _ => cases hf
  | _ => cases hf
theorem op_subD : OpR X (binaryOp .Sub) (rD X.K subD) := opI2 (fun d e z h => by cases d <;> cases e <;> first | (cases h; done) | exact ⟨_, _, rfl, rfl⟩) fun i j z h => by
  cases h
  exact ⟨.int (i - j), fun _ _ => .int _, fun pins s σ H x y v u Q I rx ry q => op_sub pins s σ H x y v u Q I rx ry ⟨i, j, q⟩⟩
theorem op_modD : OpR X (binaryOp .Mod) (rD X.K modD) := opI2 (fun d e z h => by cases d <;> cases e <;> first | (cases h; done) | exact ⟨_, _, rfl, rfl⟩) fun i j z h => by
  simp only [modD] at h
  split at h
  · cases h
    exact ⟨.int (i % j), fun _ _ => .int _, fun pins s σ H x y v u Q I rx ry q => op_mod pins s σ H x y v u Q I rx ry ⟨i, j, q.1, q.2.1, by assumption, q.2.2⟩⟩
  · cases h
theorem op_fdivD : OpR X (binaryOp .FloorDiv) (rD X.K fdivD) := opI2 (fun d e z h => by cases d <;> cases e <;> first | (cases h; done) | exact ⟨_, _, rfl, rfl⟩) fun i j z h => by
  simp only [fdivD] at h
  split at h
  · rename_i hc
    cases h
    refine ⟨.int (i / j), fun _ _ => .int _, fun pins s σ H x y v u Q I rx ry q => ?_⟩
    obtain ⟨rfl, rfl, q⟩ := q
    obtain ⟨t, rfl⟩ := rx
    obtain ⟨t', rfl⟩ := ry
    refine floordiv_int (by omega) ?_ (.inl (divp_ok hc.1 hc.2).2)
    rw [Int.fdiv_eq_ediv_of_nonneg _ (by omega)]
    exact ⟨.int _, H, I.tok _, ⟨_, rfl⟩, q⟩
  · cases h
theorem op_shlD : OpR X (binaryOp .LShift) (rD X.K shlD) := opI2 (fun d e z h => by cases d <;> cases e <;> first | (cases h; done) | exact ⟨_, _, rfl, rfl⟩) fun i j z h => by
  simp only [shlD] at h
  split at h
  · rename_i hc
    cases h
    have e27 : (2 : Int) ^ 27 = 134217728 := by decide
    exact ⟨_, fun _ _ => .int _, fun pins s σ H x y v u Q I rx ry q => op_shlW pins s σ H x y v u Q I rx ry ⟨i, j, q.1, q.2.1, ⟨hc.1, by rw [e27]; exact hc.2⟩, q.2.2⟩⟩
  · cases h
theorem op_powD : OpR X (binaryOp .Pow) (rD X.K powD) := opI2 (fun d e z h => by cases d <;> cases e <;> first | (cases h; done) | exact ⟨_, _, rfl, rfl⟩) fun i j z h => by
  simp only [powD] at h
  split at h
  · rename_i hc
    cases h
    have e27 : (2 : Int) ^ 27 = 134217728 := by decide
    refine ⟨_, fun _ _ => .int _, fun pins s σ H x y v u Q I rx ry q => ?_⟩
    obtain ⟨rfl, rfl, q⟩ := q
    obtain ⟨t, rfl⟩ := rx
    obtain ⟨t', rfl⟩ := ry
    exact pow_int hc.1 (by rw [e27]; exact hc.2) ⟨.int _, H, I.tok _, ⟨_, rfl⟩, q⟩
  · cases h
theorem op_mulD : OpR X (binaryOp .Mult) (rD X.K mulD) := opd fun pins s σ H H0 x y v u Q d e z I rx ry s0 hd he hf q => by
  cases hd with
  | int i =>
    cases he with
    | int j =>
      simp only [mulD] at hf
      split at hf
      · cases hf
        exact op_mulX pins s σ H _ _ v u Q I rx ry ⟨i, j, rfl, rfl, by assumption, q _ H0 H (Gr.refl s0) (.int _)⟩
      · cases hf
    | _ => cases hf
  | _ => cases he <;> cases hf
theorem cmp_ok {op : CmpOp} {f : Int → Int → Bool} (h : OpR X (compareOp op) (rI0 fun i j => .bl (f i j))) : OpR X (compareOp op) (rD X.K (cmpD f)) := opI2 (fun d e z h => by cases d <;> cases e <;> first | (cases h; done) | exact ⟨_, _, rfl, rfl⟩) fun i j z hz => by
  cases hz
  exact ⟨.bl (f i j), fun _ _ => .bl _, fun pins s σ H x y v u Q I rx ry q => h pins s σ H x y v u Q I rx ry ⟨i, j, q⟩⟩
theorem op_ltD : OpR X (compareOp .Lt) (rD X.K (cmpD fun i j => decide (i < j))) := cmp_ok op_lt
theorem op_leD : OpR X (compareOp .LtE) (rD X.K (cmpD fun i j => decide (i ≤ j))) := cmp_ok op_le
theorem op_gtD : OpR X (compareOp .Gt) (rD X.K (cmpD fun i j => decide (j < i))) := cmp_ok op_gt
theorem op_geD : OpR X (compareOp .GtE) (rD X.K (cmpD fun i j => decide (j ≤ i))) := cmp_ok op_ge
theorem op_eqDD (hu : X.A.units + 64 < cLine) : OpR X (compareOp .Eq) (rD X.K eqD) := opd fun pins s σ H H0 x y v u Q d e z I rx ry s0 hd he hf q => by
  unfold eqD at hf
  split at hf
  · cases hf
    cases hd
    cases he
    rename_i a b
    refine op_eq pins s σ H _ _ v u Q I rx ry ⟨rfl, ?_⟩
    have e : decide (V.str a = V.str b) = decide (a = b) := by simp
    rw [e]
    exact q _ H0 H (Gr.refl s0) (.bl _)
  split at hf
  · rename_i hc
    cases hf
    obtain ⟨as, r1⟩ := Da.reads I d x v (hd.mono s0) rx
    obtain ⟨bs, r2⟩ := Da.reads I e y u (he.mono s0) ry
    exact SeqAt.compareEq_shaped r1 r2 hc.1 hc.2 hu ⟨.bl _, H, I, rfl, q _ H0 H (Gr.refl s0) (.bl _)⟩
  · cases hf
theorem op_neDD (hu : X.A.units + 64 < cLine) : OpR X (compareOp .NotEq) (rD X.K neD) := opd fun pins s σ H H0 x y v u Q d e z I rx ry s0 hd he hf q => by
  unfold neD at hf
  split at hf
  · cases hf
    cases hd
    cases he
    rename_i a b
    refine op_ne pins s σ H _ _ v u Q I rx ry ⟨rfl, ?_⟩
    have e : decide (V.str a = V.str b) = decide (a = b) := by simp
    rw [e]
    exact q _ H0 H (Gr.refl s0) (.bl _)
  split at hf
  · rename_i hc
    cases hf
    obtain ⟨as, r1⟩ := Da.reads I d x v (hd.mono s0) rx
    obtain ⟨bs, r2⟩ := Da.reads I e y u (he.mono s0) ry
    exact SeqAt.compareNe_shaped r1 r2 hc.1 hc.2 hu ⟨.bl _, H, I, rfl, q _ H0 H (Gr.refl s0) (.bl _)⟩
  · cases hf
theorem op_inGG (hu : X.A.units + 65 < cLine) : OpR X (compareOp .In) (rD X.K (inG false)) := opd fun pins s σ H H0 x y v u Q d e z I rx ry s0 hd he hf q => by
  obtain ⟨as, r1⟩ := Da.reads I d x v (hd.mono s0) rx
  obtain ⟨bs, r2⟩ := Da.reads I e y u (he.mono s0) ry
  cases e with
  | list c =>
    simp only [inG] at hf
    split at hf
    · rename_i hc
      cases hf
      exact SeqAt.in_list_reads r2 r1 hc.2 (SeqAt.canLay_of_shaped hc.1) (room_in_shaped hc.1 hu) ⟨.bl _, H, I, rfl, q _ H0 H (Gr.refl s0) (.bl _)⟩
    · cases hf
  | tuple c =>
    simp only [inG] at hf
    split at hf
    · rename_i hc
      cases hf
      exact SeqAt.in_tuple_reads r2 r1 hc.2 (SeqAt.canLay_of_shaped hc.1) (room_in_shaped hc.1 hu) ⟨.bl _, H, I, rfl, q _ H0 H (Gr.refl s0) (.bl _)⟩
    · cases hf
  | _ => cases hf
theorem op_niGG (hu : X.A.units + 65 < cLine) : OpR X (compareOp .NotIn) (rD X.K (inG true)) := opd fun pins s σ H H0 x y v u Q d e z I rx ry s0 hd he hf q => by
  obtain ⟨as, r1⟩ := Da.reads I d x v (hd.mono s0) rx
  obtain ⟨bs, r2⟩ := Da.reads I e y u (he.mono s0) ry
  cases e with
  | list c =>
    simp only [inG] at hf
    split at hf
    · rename_i hc
      cases hf
      exact SeqAt.notIn_list_reads r2 r1 hc.2 (SeqAt.canLay_of_shaped hc.1) (room_in_shaped hc.1 hu) ⟨.bl _, H, I, rfl, q _ H0 H (Gr.refl s0) (.bl _)⟩
    · cases hf
  | tuple c =>
    simp only [inG] at hf
    split at hf
    · rename_i hc
      cases hf
      exact SeqAt.notIn_tuple_reads r2 r1 hc.2 (SeqAt.canLay_of_shaped hc.1) (room_in_shaped hc.1 hu) ⟨.bl _, H, I, rfl, q _ H0 H (Gr.refl s0) (.bl _)⟩
    · cases hf
  | _ => cases hf
theorem daS {K : PySem.W.Frag} {H : Hp} : ∀ {vs : List V} {ns : List Str}, DaAll K H vs (ns.map PyData.str) → vs = ns.map V.str
  | _, [], h => by cases h; rfl
  | _, n :: ns, h => by
    cases h with
    | cons a t =>
      cases a
      rw [daS t]
      rfl
theorem inV_str (a : Str) : ∀ ns : List Str, inV (.str a) (ns.map V.str) = decide (a ∈ ns)
  | [] => by simp [inV]
  | n :: ns => by
    have ih := inV_str a ns
    unfold inV at ih ⊢
    rw [List.map_cons, List.any_cons, ih]
    show ((n == a) || decide (a ∈ ns)) = decide (a ∈ n :: ns)
    by_cases h : n = a
    · subst h
      simp
    · have h2 : ¬ a = n := fun e => h e.symm
      have h3 : (n == a) = false := by simpa using h
      rw [h3]
      simp [h2]
theorem flat_strs (ns : List Str) : (ns.map V.str).all flatV = true := by
  rw [List.all_eq_true]
  intro x hx
  obtain ⟨y, _, rfl⟩ := List.mem_map.mp hx
  rfl
theorem inS_ok {neg : Bool} {op : CmpOp} (ho : OpR X (compareOp op) (rIn X.K neg)) : OpR X (compareOp op) (rD X.K (inS neg)) := opd fun pins s σ H H0 x y v u Q d e z I rx ry s0 hd he hf q => by
  unfold inS at hf
  split at hf
  · rename_i a c
    cases h1 : strsOf c with
    | none => rw [h1] at hf; cases hf
    | some cs =>
      rw [h1] at hf
      cases hf
      have e1 := strsOf_eq h1
      subst e1
      cases hd
      cases he with
      | lst h2 h3 =>
        have e2 := daS h3
        subst e2
        refine ho pins s σ H _ _ v u Q I rx ry ⟨_, _, rfl, .inl (ex_l s0 h2), rfl, flat_strs cs, ?_⟩
        rw [inV_str]
        exact q _ H0 H (Gr.refl s0) (.bl _)
  · rename_i a c
    cases h1 : strsOf c with
    | none => rw [h1] at hf; cases hf
    | some cs =>
      rw [h1] at hf
      cases hf
      have e1 := strsOf_eq h1
      subst e1
      cases hd
      cases he with
      | tup h2 h3 =>
        have e2 := daS h3
        subst e2
        refine ho pins s σ H _ _ v u Q I rx ry ⟨_, _, rfl, .inr (ex_t s0 h2), rfl, flat_strs cs, ?_⟩
        rw [inV_str]
        exact q _ H0 H (Gr.refl s0) (.bl _)
  · cases hf
theorem in_or {neg : Bool} {op : CmpOp} (h1 : OpR X (compareOp op) (rD X.K (inS neg))) (h2 : OpR X (compareOp op) (rD X.K (inG neg))) : OpR X (compareOp op) (rD X.K (inD neg)) := by
  intro pins s σ H x y v u Q I rx ry q
  obtain ⟨H0, d, e, z, s0, hd, he, hf, q⟩ := q
  unfold inD at hf
  split at hf
  · rename_i z' hz
    cases hf
    exact h1 pins s σ H x y v u Q I rx ry ⟨H0, d, e, z, s0, hd, he, hz, q⟩
  · exact h2 pins s σ H x y v u Q I rx ry ⟨H0, d, e, z, s0, hd, he, hf, q⟩
theorem op_inDD (hu : X.A.units + 65 < cLine) : OpR X (compareOp .In) (rD X.K (inD false)) := in_or (inS_ok op_in_seq) (op_inGG hu)
theorem op_niDD (hu : X.A.units + 65 < cLine) : OpR X (compareOp .NotIn) (rD X.K (inD true)) := in_or (inS_ok op_notIn_seq) (op_niGG hu)
theorem da_none {K : PySem.W.Frag} {H : Hp} {v : V} {d : PyData} (h : Da K H v d) : decide (v = .non) = noneD d := by cases h <;> rfl
theorem op_isD : OpR X (compareOp .Is) (rD X.K (isD false)) := opd fun pins s σ H H0 x y v u Q d e z I rx ry s0 hd he hf q => by
  cases he with
  | non =>
    have hz : z = .bool (noneD d) := by
      cases d <;> (cases hf; rfl)
    subst hz
    refine op_isN pins s σ H _ _ v u Q I rx ry ⟨rfl, ?_⟩
    rw [da_none hd]
    exact q _ H0 H (Gr.refl s0) (.bl _)
  | bl b =>
    cases hd with
    | bl a =>
      cases hf
      exact op_isBl pins s σ H _ _ v u Q I rx ry ⟨a, b, rfl, rfl, q _ H0 H (Gr.refl s0) (.bl _)⟩
    | _ => cases hf
  | _ => cases hd <;> cases hf
theorem op_isntD : OpR X (compareOp .IsNot) (rD X.K (isD true)) := opd fun pins s σ H H0 x y v u Q d e z I rx ry s0 hd he hf q => by
  cases he with
  | non =>
    have hz : z = .bool (!noneD d) := by
      cases d <;> (cases hf; rfl)
    subst hz
    refine op_notN pins s σ H _ _ v u Q I rx ry ⟨rfl, ?_⟩
    rw [da_none hd]
    exact q _ H0 H (Gr.refl s0) (.bl _)
  | bl b =>
    cases hd with
    | bl a =>
      cases hf
      exact op_notBl pins s σ H _ _ v u Q I rx ry ⟨a, b, rfl, rfl, q _ H0 H (Gr.refl s0) (.bl _)⟩
    | _ => cases hf
  | _ => cases hd <;> cases hf
theorem un_negD : UnR X (unaryOp .USub) (rU1 X.K negD) := by
  intro pins s σ H x v Q I rx h
  obtain ⟨H0, d, z, s0, hd, hf, q⟩ := h
  cases hd with
  | int i =>
    cases hf
    exact un_neg pins s σ H _ v Q I rx ⟨i, rfl, q _ H0 H (Gr.refl s0) (.int _)⟩
  | _ => cases hf
end
end DL

set_option Elab.async false
set_option linter.all false
set_option maxRecDepth 100000
set_option maxHeartbeats 4000000
namespace DL
open PySem PySem.Spec PyProof.Rows L2 Evl

/-! ### expressions by what they give -/
abbrev XE := List Sl → Os → Option (PyData × Os)
abbrev XT := List Sl → Os → Option (Bool × Os)
abbrev XA := List Sl → Os → Option (List Sl × Os)
def ArgOk (K : PySem.W.Frag) (as : List Addr) (H0 : Hp) (v : V) : Sl → Prop
  | .u => False
  | .d x => Da K H0 v x
  | .o k => ∃ a, as[k]? = some a ∧ v = .ref a
def ArgsOk (K : PySem.W.Frag) (as : List Addr) (H0 : Hp) : List V → List Sl → Prop
  | [], [] => True
  | v :: vs, s :: ss => ArgOk K as H0 v s ∧ ArgsOk K as H0 vs ss
  | _, _ => False
theorem ArgOk.mono {K : PySem.W.Frag} {as : List Addr} {H0 H0' : Hp} {v : V} {s : Sl} (e : Ex H0 H0') (h : ArgOk K as H0 v s) : ArgOk K as H0' v s := by
  cases s with
  | u => exact h
  | d x => exact Da.mono e x v h
  | o k => exact h
def teO (K : PySem.W.Frag) (x : XE) : TE := fun σ H Q => ∃ as ρ os H0 d os', En K as ρ os σ H0 H ∧ x ρ os = some (d, os') ∧ ∀ v H0' H', En K as ρ os' σ H0' H' → Gr as H0 H H0' H' → Da K H0' v d → Q v H'
def ttO (K : PySem.W.Frag) (x : XT) : TT := fun σ H Q => ∃ as ρ os H0 b os', En K as ρ os σ H0 H ∧ x ρ os = some (b, os') ∧ ∀ H0' H', En K as ρ os' σ H0' H' → Gr as H0 H H0' H' → Q b H'
def taO (K : PySem.W.Frag) (x : XA) : TA := fun σ H Q => ∃ as ρ os H0 ss os', En K as ρ os σ H0 H ∧ x ρ os = some (ss, os') ∧ ∀ vs H0' H', En K as ρ os' σ H0' H' → Gr as H0 H H0' H' → ArgsOk K as H0' vs ss → Q vs H'
abbrev PX (X : Cx) (e : Expr) (x : XE) : Prop := PE X e (teO X.K x)
abbrev PXT (X : Cx) (e : Expr) (x : XT) : Prop := PT X e (ttO X.K x)
abbrev PXW (X : Cx) (e : Expr) (x : XT) : Prop := L2.PW X e (ttO X.K x)
abbrev PXA (X : Cx) (es : List Expr) (x : XA) : Prop := PA X es (taO X.K x)

section
variable {X : Cx} {a b c e : Expr} {es rest : List Expr} {xa xb xc : XE} {ta tb : XT} {pos : Pos}
theorem pe_imp {t t' : TE} (h : PE X e t) (k : ∀ σ H Q, t' σ H Q → t σ H Q) : PE X e t' := ⟨fun pins s σ H Q I q => h.run pins s σ H Q I (k _ _ _ q)⟩
theorem pt_imp {t t' : TT} (h : PT X e t) (k : ∀ σ H Q, t' σ H Q → t σ H Q) : PT X e t' := ⟨fun pins s σ H Q I q => h.run pins s σ H Q I (k _ _ _ q)⟩
theorem pw_imp {t t' : TT} (h : L2.PW X e t) (k : ∀ σ H Q, t' σ H Q → t σ H Q) : L2.PW X e t' := ⟨fun whole pins s σ H Q I q => h.run whole pins s σ H Q I (k _ _ _ q)⟩
theorem pa_imp {t t' : TA} (h : PA X es t) (k : ∀ σ H Q, t' σ H Q → t σ H Q) : PA X es t' := ⟨fun pos pins s σ H Q I q => h.run pos pins s σ H Q I (k _ _ _ q)⟩

/-! names, constants -/
def xVar (i : Nat) : XE := fun ρ os => match ρ[i]? with
  | some (.d x) => some (x, os)
  | _ => none
def xC (d : PyData) : XE := fun _ os => some (d, os)
theorem px_var {i : Nat} (h : PE X e (tVar i)) : PX X e (xVar i) := pe_imp h fun σ H Q q => by
  obtain ⟨as, ρ, os, H0, d, os', n, hx, k⟩ := q
  unfold xVar at hx
  split at hx
  · rename_i x hi
    cases hx
    obtain ⟨v, hv, r⟩ := n.dat i _ hi
    exact ⟨v, hv, k v H0 H n (Gr.refl n.sub) r⟩
  · cases hx
theorem px_c {v : V} {d : PyData} (h : PE X e (tC v)) (r : ∀ (K : PySem.W.Frag) H, Da K H v d) : PX X e (xC d) := pe_imp h fun σ H Q q => by
  obtain ⟨as, ρ, os, H0, d', os', n, hx, k⟩ := q
  cases hx
  exact k v H0 H n (Gr.refl n.sub) (r _ _)
theorem px_int {i j} : PX X (.Constant (.int i) j pos) (xC (.int i)) := px_c pe_int fun _ _ => .int i
theorem px_bl {b j} : PX X (.Constant (.bool b) j pos) (xC (.bool b)) := px_c pe_bl fun _ _ => .bl b
theorem px_non {j} : PX X (.Constant .none j pos) (xC .none) := px_c pe_non fun _ _ => .non
theorem px_str {x j} : PX X (.Constant (.str x) j pos) (xC (.str x)) := px_c pe_str fun _ _ => .str x
/-- a module's tuple of texts, a module's text -/
theorem px_globs {x : Str} {v : Str} {u : Value} (hg : Gl X x) (hm : X.mg x = some u) (r : RelV (.str v) u) (hd : (x == ("__debug__" : Str)) = false := by decide) : PX X (.Name x pos) (xC (.str v)) :=
  px_c (pe_glob hg hm r hd) fun _ _ => .str v
theorem px_globt {x : Str} {p : Addr} {vs : List V} {ds : List PyData} (hg : Gl X x) (hm : X.mg x = some (.ref p)) (ht : ∀ H, SqT X.K H p vs) (ha : ∀ H, DaAll X.K H vs ds) (hd : (x == ("__debug__" : Str)) = false := by decide) : PX X (.Name x pos) (xC (.tuple ds)) :=
  pe_imp (pe_glob hg hm (v := .ref p) rfl hd) fun σ H Q q => by
    obtain ⟨as, ρ, os, H0, d', os', n, hx, k⟩ := q
    cases hx
    exact k _ H0 H n (Gr.refl n.sub) (.tup (ht _) (ha _))

/-! operators -/
def xOp (f : PyData → PyData → Option PyData) (xa xb : XE) : XE := fun ρ os => (xa ρ os).bind fun p => (xb ρ p.2).bind fun q => (f p.1 q.1).map fun z => (z, q.2)
theorem xOp_some {f : PyData → PyData → Option PyData} {ρ : List Sl} {os os' : Os} {z : PyData} (h : xOp f xa xb ρ os = some (z, os')) : ∃ x os1 y, xa ρ os = some (x, os1) ∧ xb ρ os1 = some (y, os') ∧ f x y = some z := by
  unfold xOp at h
  cases h1 : xa ρ os with
  | none => rw [h1] at h; cases h
  | some p =>
    rw [h1] at h
    cases h2 : xb ρ p.2 with
    | none => rw [Option.bind_some, h2] at h; cases h
    | some q =>
      rw [Option.bind_some, h2, Option.bind_some] at h
      cases h3 : f p.1 q.1 with
      | none => rw [h3] at h; cases h
      | some w =>
        rw [h3] at h
        cases h
        exact ⟨p.1, p.2, q.1, rfl, h2, h3⟩
theorem to_op {K : PySem.W.Frag} {f : PyData → PyData → Option PyData} {σ : L2.St} {H : Hp} {Q : VK} (q : teO K (xOp f xa xb) σ H Q) : tOp (rD K f) (teO K xa) (teO K xb) σ H Q := by
  obtain ⟨as, ρ, os, H0, d, os', n, hx, k⟩ := q
  obtain ⟨x, os1, y, h1, h2, h3⟩ := xOp_some hx
  refine ⟨as, ρ, os, H0, x, os1, n, h1, fun v H0' H' n1 g1 r1 => ⟨as, ρ, os1, H0', y, os', n1, h2, fun u H0'' H'' n2 g2 r2 => ?_⟩⟩
  exact ⟨H0'', x, y, d, n2.sub, r1.mono g2.e0, r2, h3, fun w H3 H3' g3 r3 => k w H3 H3' (n2.grow g3) ((g1.tr g2).tr0 g3) r3⟩
theorem px_op {op : Operator} {f : PyData → PyData → Option PyData} (ho : OpR X (binaryOp op) (rD X.K f)) (ha : PX X a xa) (hb : PX X b xb) : PX X (.BinOp a op b pos) (xOp f xa xb) := pe_imp (pe_op ho ha hb) fun _ _ _ q => to_op q
theorem px_cmp {op : CmpOp} {f : PyData → PyData → Option PyData} (ho : OpR X (compareOp op) (rD X.K f)) (ha : PX X a xa) (hb : PX X b xb) (hm : behindInMarks op b = false) : PX X (.Compare a [op] [b] pos) (xOp f xa xb) := pe_imp (pe_cmpR ho ha hb hm) fun _ _ _ q => to_op q
def xUn (f : PyData → Option PyData) (xa : XE) : XE := fun ρ os => (xa ρ os).bind fun p => (f p.1).map fun z => (z, p.2)
theorem xUn_some {f : PyData → Option PyData} {ρ : List Sl} {os os' : Os} {z : PyData} (h : xUn f xa ρ os = some (z, os')) : ∃ x, xa ρ os = some (x, os') ∧ f x = some z := by
  unfold xUn at h
  cases h1 : xa ρ os with
  | none => rw [h1] at h; cases h
  | some p =>
    rw [h1, Option.bind_some] at h
    cases h3 : f p.1 with
    | none => rw [h3] at h; cases h
    | some w =>
      rw [h3] at h
      cases h
      exact ⟨p.1, rfl, h3⟩
theorem to_un {K : PySem.W.Frag} {f : PyData → Option PyData} {σ : L2.St} {H : Hp} {Q : VK} (q : teO K (xUn f xa) σ H Q) : tUn (rU1 K f) (teO K xa) σ H Q := by
  obtain ⟨as, ρ, os, H0, d, os', n, hx, k⟩ := q
  obtain ⟨x, h1, h3⟩ := xUn_some hx
  exact ⟨as, ρ, os, H0, x, os', n, h1, fun v H0' H' n1 g1 r1 => ⟨H0', x, d, n1.sub, r1, h3, fun w H3 H3' g3 r3 => k w H3 H3' (n1.grow g3) (g1.tr0 g3) r3⟩⟩
theorem px_un {op : UnaryOp} {f : PyData → Option PyData} (ho : UnR X (unaryOp op) (rU1 X.K f)) (ha : PX X a xa) : PX X (.UnaryOp op a pos) (xUn f xa) := pe_imp (pe_un ho ha) fun _ _ _ q => to_un q

/-! tests -/
/-- a value that is True or False -/
def xBool (xa : XE) : XT := fun ρ os => (xa ρ os).bind fun p => match p.1 with
  | .bool b => some (b, p.2)
  | _ => none
theorem pxt_val (ha : PX X a xa) (he : ∀ whole, isTrue a X.env whole = (do let v ← whole; standAt a.pos; holding [v] (truthy v)) := by intro _; rfl) : PXT X a (xBool xa) := pt_imp (pt_val ha he) fun σ H Q q => by
  obtain ⟨as, ρ, os, H0, d, os', n, hx, k⟩ := q
  unfold xBool at hx
  cases h1 : xa ρ os with
  | none => rw [h1] at hx; cases hx
  | some p =>
    obtain ⟨x, os1⟩ := p
    rw [h1, Option.bind_some] at hx
    cases x with
    | bool b =>
      cases hx
      refine ⟨as, ρ, os, H0, _, _, n, h1, fun v H0' H' n1 g1 r1 => ?_⟩
      cases r1
      exact ⟨_, rfl, k H0' H' n1 g1⟩
    | _ => cases hx
/-- by its truth -/
def xTruth (xa : XE) : XT := fun ρ os => (xa ρ os).bind fun p => (truthD p.1).map fun b => (b, p.2)
theorem da_truth {K : PySem.W.Frag} {H0 H : Hp} {v : V} {d : PyData} {b : Bool} (s : Ex H0 H) (h : Da K H0 v d) (e : truthD d = some b) : TruV K v H b := by
  cases h with
  | non => cases e; rfl
  | bl _ => cases e; rfl
  | int _ => cases e; rfl
  | str x =>
    simp only [truthD] at e
    split at e
    · cases e; exact ⟨by assumption, rfl⟩
    · cases e
  | lst h1 h2 =>
    cases e
    refine .inl ⟨_, ex_l s h1, ?_⟩
    cases h2 <;> rfl
  | tup h1 h2 =>
    cases e
    refine .inr (.inl ⟨_, ex_t s h1, ?_⟩)
    cases h2 <;> rfl
  | dct h1 =>
    cases e
    exact .inr (.inr ⟨[], s _ _ h1, rfl⟩)
theorem pxt_truth (ha : PX X a xa) (he : ∀ whole, isTrue a X.env whole = (do let v ← whole; standAt a.pos; holding [v] (truthy v)) := by intro _; rfl) : PXT X a (xTruth xa) := pt_imp (pt_truth ha he) fun σ H Q q => by
  obtain ⟨as, ρ, os, H0, d, os', n, hx, k⟩ := q
  unfold xTruth at hx
  cases h1 : xa ρ os with
  | none => rw [h1] at hx; cases hx
  | some p =>
    obtain ⟨x, os1⟩ := p
    rw [h1, Option.bind_some] at hx
    cases h2 : truthD x with
    | none => rw [h2] at hx; cases hx
    | some b =>
      rw [h2] at hx
      cases hx
      exact ⟨as, ρ, os, H0, _, _, n, h1, fun v H0' H' n1 g1 r1 => ⟨_, da_truth n1.sub r1 h2, k H0' H' n1 g1⟩⟩
def xNotT (ta : XT) : XT := fun ρ os => (ta ρ os).map fun p => (!p.1, p.2)
theorem pxt_not (ha : PXT X a ta) : PXT X (.UnaryOp .Not a pos) (xNotT ta) := pt_imp (pt_not ha) fun σ H Q q => by
  obtain ⟨as, ρ, os, H0, d, os', n, hx, k⟩ := q
  unfold xNotT at hx
  cases h1 : ta ρ os with
  | none => rw [h1] at hx; cases hx
  | some p =>
    rw [h1] at hx
    cases hx
    exact ⟨as, ρ, os, H0, _, _, n, h1, fun H0' H' n1 g1 => k H0' H' n1 g1⟩
def xAndT (ta tb : XT) : XT := fun ρ os => (ta ρ os).bind fun p => if p.1 = true then tb ρ p.2 else some (false, p.2)
def xOrT (ta tb : XT) : XT := fun ρ os => (ta ρ os).bind fun p => if p.1 = true then some (true, p.2) else tb ρ p.2
theorem to_and {K : PySem.W.Frag} {σ : L2.St} {H : Hp} {Q : Bool → Hp → Prop} (q : ttO K (xAndT ta tb) σ H Q) : tAnd (ttO K ta) (ttO K tb) σ H Q := by
  obtain ⟨as, ρ, os, H0, d, os', n, hx, k⟩ := q
  unfold xAndT at hx
  cases h1 : ta ρ os with
  | none => rw [h1] at hx; cases hx
  | some p =>
    obtain ⟨b, os1⟩ := p
    rw [h1, Option.bind_some] at hx
    refine ⟨as, ρ, os, H0, b, os1, n, h1, fun H0' H' n1 g1 => ?_⟩
    cases b with
    | true => exact ⟨as, ρ, os1, H0', d, os', n1, by simpa using hx, fun H2 H2' n2 g2 => k H2 H2' n2 (g1.tr g2)⟩
    | false =>
      cases hx
      exact k H0' H' n1 g1
theorem to_or {K : PySem.W.Frag} {σ : L2.St} {H : Hp} {Q : Bool → Hp → Prop} (q : ttO K (xOrT ta tb) σ H Q) : tOr (ttO K ta) (ttO K tb) σ H Q := by
  obtain ⟨as, ρ, os, H0, d, os', n, hx, k⟩ := q
  unfold xOrT at hx
  cases h1 : ta ρ os with
  | none => rw [h1] at hx; cases hx
  | some p =>
    obtain ⟨b, os1⟩ := p
    rw [h1, Option.bind_some] at hx
    refine ⟨as, ρ, os, H0, b, os1, n, h1, fun H0' H' n1 g1 => ?_⟩
    cases b with
    | false => exact ⟨as, ρ, os1, H0', d, os', n1, by simpa using hx, fun H2 H2' n2 g2 => k H2 H2' n2 (g1.tr g2)⟩
    | true =>
      cases hx
      exact k H0' H' n1 g1
theorem pxw_and1 (ha : PXT X a ta) : PXW X (.BoolOp .And [a] pos) ta := pw_and1 ha
theorem pxw_or1 (ha : PXT X a ta) : PXW X (.BoolOp .Or [a] pos) ta := pw_or1 ha
theorem pxw_and (ha : PXT X a ta) (hb : PXW X (.BoolOp .And (b :: rest) pos) tb) : PXW X (.BoolOp .And (a :: b :: rest) pos) (xAndT ta tb) := pw_imp (pw_and ha hb) fun _ _ _ q => to_and q
theorem pxw_or (ha : PXT X a ta) (hb : PXW X (.BoolOp .Or (b :: rest) pos) tb) : PXW X (.BoolOp .Or (a :: b :: rest) pos) (xOrT ta tb) := pw_imp (pw_or ha hb) fun _ _ _ q => to_or q
theorem pxw_t (h : PXW X a ta) : PXT X a ta := h.pt

/-! and, or, not as values: of truth values -/
def xAndV (xa xb : XE) : XE := fun ρ os => (xa ρ os).bind fun p => match p.1 with
  | .bool true => xb ρ p.2
  | .bool false => some (.bool false, p.2)
  | _ => none
def xOrV (xa xb : XE) : XE := fun ρ os => (xa ρ os).bind fun p => match p.1 with
  | .bool false => xb ρ p.2
  | .bool true => some (.bool true, p.2)
  | _ => none
def notD : PyData → Option PyData
  | .bool b => some (.bool (!b))
  | _ => none
theorem px_one {op} (h : PX X a xa) : PX X (.BoolOp op [a] pos) xa := pe_one h
theorem px_and (ha : PX X a xa) (hb : PX X (.BoolOp .And (b :: rest) pos) xb) : PX X (.BoolOp .And (a :: b :: rest) pos) (xAndV xa xb) := pe_imp (pe_and ha hb) fun σ H Q q => by
  obtain ⟨as, ρ, os, H0, d, os', n, hx, k⟩ := q
  unfold xAndV at hx
  cases h1 : xa ρ os with
  | none => rw [h1] at hx; cases hx
  | some p =>
    obtain ⟨x, os1⟩ := p
    rw [h1, Option.bind_some] at hx
    cases x with
    | bool c =>
      refine ⟨as, ρ, os, H0, _, os1, n, h1, fun v H0' H' n1 g1 r1 => ?_⟩
      cases r1
      refine ⟨c, rfl, ?_⟩
      cases c with
      | true => exact ⟨as, ρ, os1, H0', d, os', n1, hx, fun w H2 H2' n2 g2 r2 => k w H2 H2' n2 (g1.tr g2) r2⟩
      | false =>
        cases hx
        exact k _ H0' H' n1 g1 (.bl _)
    | _ => cases hx
theorem px_or (ha : PX X a xa) (hb : PX X (.BoolOp .Or (b :: rest) pos) xb) : PX X (.BoolOp .Or (a :: b :: rest) pos) (xOrV xa xb) := pe_imp (pe_or ha hb) fun σ H Q q => by
  obtain ⟨as, ρ, os, H0, d, os', n, hx, k⟩ := q
  unfold xOrV at hx
  cases h1 : xa ρ os with
  | none => rw [h1] at hx; cases hx
  | some p =>
    obtain ⟨x, os1⟩ := p
    rw [h1, Option.bind_some] at hx
    cases x with
    | bool c =>
      refine ⟨as, ρ, os, H0, _, os1, n, h1, fun v H0' H' n1 g1 r1 => ?_⟩
      cases r1
      refine ⟨c, rfl, ?_⟩
      cases c with
      | false => exact ⟨as, ρ, os1, H0', d, os', n1, hx, fun w H2 H2' n2 g2 r2 => k w H2 H2' n2 (g1.tr g2) r2⟩
      | true =>
        cases hx
        exact k _ H0' H' n1 g1 (.bl _)
    | _ => cases hx
theorem px_not (ha : PX X a xa) : PX X (.UnaryOp .Not a pos) (xUn notD xa) := pe_imp (pe_not ha) fun σ H Q q => by
  obtain ⟨as, ρ, os, H0, d, os', n, hx, k⟩ := q
  obtain ⟨x, h1, h3⟩ := xUn_some hx
  refine ⟨as, ρ, os, H0, x, os', n, h1, fun v H0' H' n1 g1 r1 => ?_⟩
  cases r1 with
  | bl c =>
    cases h3
    exact ⟨c, rfl, k _ H0' H' n1 g1 (.bl _)⟩
  | _ => cases h3
def xIf (t : XT) (xa xb : XE) : XE := fun ρ os => (t ρ os).bind fun p => if p.1 = true then xa ρ p.2 else xb ρ p.2
theorem px_if (hc : PXT X c ta) (ha : PX X a xa) (hb : PX X b xb) : PX X (.IfExp c a b pos) (xIf ta xa xb) := pe_imp (pe_ifExp hc ha hb) fun σ H Q q => by
  obtain ⟨as, ρ, os, H0, d, os', n, hx, k⟩ := q
  unfold xIf at hx
  cases h1 : ta ρ os with
  | none => rw [h1] at hx; cases hx
  | some p =>
    obtain ⟨c, os1⟩ := p
    rw [h1, Option.bind_some] at hx
    refine ⟨as, ρ, os, H0, c, os1, n, h1, fun H0' H' n1 g1 => ?_⟩
    cases c with
    | true => exact ⟨as, ρ, os1, H0', d, os', n1, by simpa using hx, fun w H2 H2' n2 g2 r2 => k w H2 H2' n2 (g1.tr g2) r2⟩
    | false => exact ⟨as, ρ, os1, H0', d, os', n1, by simpa using hx, fun w H2 H2' n2 g2 r2 => k w H2 H2' n2 (g1.tr g2) r2⟩

/-! arguments -/
def xaNil : XA := fun _ os => some ([], os)
def xaD (xa : XE) (r : XA) : XA := fun ρ os => (xa ρ os).bind fun p => (r ρ p.2).map fun q => (.d p.1 :: q.1, q.2)
/-- a list of one's own, handed on as it is -/
def xaO (i : Nat) (r : XA) : XA := fun ρ os => match ρ[i]? with
  | some (.o k) => (r ρ os).map fun q => (.o k :: q.1, q.2)
  | _ => none
theorem pxa_nil : PXA X [] xaNil := pa_imp pa_nil fun σ H Q q => by
  obtain ⟨as, ρ, os, H0, d, os', n, hx, k⟩ := q
  cases hx
  exact k [] H0 H n (Gr.refl n.sub) True.intro
variable {ra : XA}
theorem pxa_d (ha : PX X e xa) (hr : PXA X es ra) (hs : starEach (e :: es) X.env = (false, eval e X.env) :: starEach es X.env := by rfl) : PXA X (e :: es) (xaD xa ra) := pa_imp (pa_cons ha hr hs) fun σ H Q q => by
  obtain ⟨as, ρ, os, H0, d, os', n, hx, k⟩ := q
  unfold xaD at hx
  cases h1 : xa ρ os with
  | none => rw [h1] at hx; cases hx
  | some p =>
    rw [h1, Option.bind_some] at hx
    cases h2 : ra ρ p.2 with
    | none => rw [h2] at hx; cases hx
    | some q =>
      rw [h2] at hx
      cases hx
      refine ⟨as, ρ, os, H0, p.1, p.2, n, h1, fun v H0' H' n1 g1 r1 => ⟨as, ρ, p.2, H0', q.1, q.2, n1, h2, fun vs H2 H2' n2 g2 r2 => ?_⟩⟩
      exact k (v :: vs) H2 H2' n2 (g1.tr g2) ⟨Da.mono g2.e0 _ _ r1, r2⟩
theorem pxa_o {i : Nat} (ha : PE X e (tVar i)) (hr : PXA X es ra) (hs : starEach (e :: es) X.env = (false, eval e X.env) :: starEach es X.env := by rfl) : PXA X (e :: es) (xaO i ra) := pa_imp (pa_cons ha hr hs) fun σ H Q q => by
  obtain ⟨as, ρ, os, H0, d, os', n, hx, k⟩ := q
  unfold xaO at hx
  split at hx
  · rename_i j hi
    obtain ⟨a, ea, es⟩ := n.ref i j hi
    cases h2 : ra ρ os with
    | none => rw [h2] at hx; cases hx
    | some q =>
      rw [h2] at hx
      cases hx
      exact ⟨_, es, as, ρ, os, H0, q.1, q.2, n, h2, fun vs H2 H2' n2 g2 r2 => k _ H2 H2' n2 g2 ⟨⟨a, ea, rfl⟩, r2⟩⟩
  · cases hx
/-- all are data -/
def datas : List Sl → Option (List PyData)
  | [] => some []
  | .d x :: r => (datas r).map (x :: ·)
  | _ => none
theorem args_datas {K : PySem.W.Frag} {as : List Addr} {H0 : Hp} : ∀ {ss : List Sl} {vs : List V} {ds : List PyData}, ArgsOk K as H0 vs ss → datas ss = some ds → DaAll K H0 vs ds
  | [], [], _, _, e => by cases e; exact .nil
  | [], _ :: _, _, h, _ => h.elim
  | _ :: _, [], _, h, _ => by cases h
  | .d x :: r, v :: vs, ds, h, e => by
    simp only [datas] at e
    cases h2 : datas r with
    | none => rw [h2] at e; cases e
    | some q =>
      rw [h2] at e
      cases e
      exact .cons h.1 (args_datas h.2 h2)
  | .u :: _, _ :: _, _, _, e => by cases e
  | .o _ :: _, _ :: _, _, _, e => by cases e
/-- a built-in of the arguments' data -/
def xCall (f : List PyData → Option PyData) (ra : XA) : XE := fun ρ os => (ra ρ os).bind fun p => (datas p.1).bind fun ds => (f ds).map fun z => (z, p.2)
theorem xCall_some {f : List PyData → Option PyData} {ρ : List Sl} {os os' : Os} {z : PyData} (h : xCall f ra ρ os = some (z, os')) : ∃ ss ds, ra ρ os = some (ss, os') ∧ datas ss = some ds ∧ f ds = some z := by
  unfold xCall at h
  cases h1 : ra ρ os with
  | none => rw [h1] at h; cases h
  | some p =>
    rw [h1, Option.bind_some] at h
    cases h2 : datas p.1 with
    | none => rw [h2] at h; cases h
    | some ds =>
      rw [h2, Option.bind_some] at h
      cases h3 : f ds with
      | none => rw [h3] at h; cases h
      | some w =>
        rw [h3] at h
        cases h
        exact ⟨p.1, ds, rfl, h2, h3⟩
theorem to_call {K : PySem.W.Frag} {f : List PyData → Option PyData} {σ : L2.St} {H : Hp} {Q : VK} (q : teO K (xCall f ra) σ H Q) : tCB (rC K f) (taO K ra) σ H Q := by
  obtain ⟨as, ρ, os, H0, d, os', n, hx, k⟩ := q
  obtain ⟨ss, ds, h1, h2, h3⟩ := xCall_some hx
  exact ⟨as, ρ, os, H0, ss, os', n, h1, fun vs H1 H1' n1 g1 r1 => ⟨H1, ds, d, n1.sub, args_datas r1 h2, h3, fun w H3 H3' g3 r3 => k w H3 H3' (n1.grow g3) (g1.tr0 g3) r3⟩⟩

/-! displays -/
def tupD (ds : List PyData) : Option PyData := if ds.length ≤ sizeLine then some (.tuple ds) else none
def lstD (ds : List PyData) : Option PyData := if ds.length ≤ sizeLine then some (.list ds) else none
theorem px_tup {x1} (h : PXA X es ra) : PX X (.Tuple es x1 pos) (xCall tupD ra) := pe_imp (pe_tup h) fun σ H Q q => by
  obtain ⟨as, ρ, os, H0, d, os', n, hx, k⟩ := q
  obtain ⟨ss, ds, h1, h2, h3⟩ := xCall_some hx
  unfold tupD at h3
  split at h3
  · rename_i hz
    cases h3
    refine ⟨as, ρ, os, H0, ss, os', n, h1, fun vs H1 H1' n1 g1 r1 => ⟨by rw [(args_datas r1 h2).len]; exact hz, fun p hp => ?_⟩⟩
    exact k _ _ _ (n1.grow (Gr.new n1.sub hp)) (g1.tr0 (Gr.new n1.sub hp)) (.tup (.inl (.inl upd_same)) ((args_datas r1 h2).mono (Ex.new (fresh_back n1.sub hp))))
  · cases h3
theorem px_lst (h : PXA X es ra) : PX X (.List es pos) (xCall lstD ra) := pe_imp (pe_lst h) fun σ H Q q => by
  obtain ⟨as, ρ, os, H0, d, os', n, hx, k⟩ := q
  obtain ⟨ss, ds, h1, h2, h3⟩ := xCall_some hx
  unfold lstD at h3
  split at h3
  · rename_i hz
    cases h3
    refine ⟨as, ρ, os, H0, ss, os', n, h1, fun vs H1 H1' n1 g1 r1 => ⟨by rw [(args_datas r1 h2).len]; exact hz, fun p hp => ?_⟩⟩
    exact k _ _ _ (n1.grow (Gr.new n1.sub hp)) (g1.tr0 (Gr.new n1.sub hp)) (.lst (SqL.of upd_same) ((args_datas r1 h2).mono (Ex.new (fresh_back n1.sub hp))))
  · cases h3
end
end DL

set_option Elab.async false
set_option linter.all false
set_option maxRecDepth 100000
set_option maxHeartbeats 4000000
namespace DL
open PySem PySem.Spec PyProof.Rows L2 Evl

/-! ### targets: a name, a tuple of targets -/
abbrev XG := PyData → List Sl → Option (List Sl)
def gO (K : PySem.W.Frag) (xg : XG) (js : List Nat) : TG := fun v σ H Q => ∃ as ρ os H0 d ρ', En K as ρ os σ H0 H ∧ Da K H0 v d ∧ xg d ρ = some ρ' ∧ ∀ σ', En K as ρ' os σ' H0 H → (∀ vs, (∀ j ∈ js, j ∈ vs) → wipe σ' vs = wipe σ vs) → Q σ' H
def gsO (K : PySem.W.Frag) (xg : List PyData → List Sl → Option (List Sl)) (js : List Nat) : TGs := fun v σ H Q => ∃ as ρ os H0 d ρ', En K as ρ os σ H0 H ∧ DaAll K H0 v d ∧ xg d ρ = some ρ' ∧ ∀ σ', En K as ρ' os σ' H0 H → (∀ vs, (∀ j ∈ js, j ∈ vs) → wipe σ' vs = wipe σ vs) → Q σ' H
theorem En.set {K : PySem.W.Frag} {as : List Addr} {ρ : List Sl} {os : Os} {σ : L2.St} {H0 H : Hp} {v : V} {d : PyData} (n : En K as ρ os σ H0 H) (i : Nat) (r : Da K H0 v d) : En K as (ρ.set i (.d d)) os (σ.set i (some v)) H0 H := by
  refine ⟨n.sub, by rw [List.length_set, List.length_set]; exact n.len, fun j x h => ?_, fun j k h => ?_, n.ow⟩
  · by_cases e : i = j
    · subst e
      by_cases hl : i < ρ.length
      · rw [List.getElem?_set_self hl] at h
        cases h
        exact ⟨v, List.getElem?_set_self (by rw [n.len]; exact hl), r⟩
      · rw [List.getElem?_eq_none_iff.mpr (by rw [List.length_set]; omega)] at h
        cases h
    · rw [List.getElem?_set_ne e] at h ⊢
      exact n.dat j x h
  · by_cases e : i = j
    · subst e
      by_cases hl : i < ρ.length
      · rw [List.getElem?_set_self hl] at h
        cases h
      · rw [List.getElem?_eq_none_iff.mpr (by rw [List.length_set]; omega)] at h
        cases h
    · rw [List.getElem?_set_ne e] at h ⊢
      exact n.ref j k h
theorem wipe_get : ∀ (vs : List Nat) (σ : L2.St) (i : Nat), (wipe σ vs)[i]? = if i ∈ vs then (if i < σ.length then some none else none) else σ[i]?
  | [], σ, i => by simp [wipe]
  | v :: vs, σ, i => by
    unfold wipe
    by_cases e : v = i
    · subst e
      have hl : (wipe σ vs).length = σ.length := wipe_length σ vs
      by_cases h2 : v < σ.length
      · rw [List.getElem?_set_self (by rw [hl]; exact h2)]
        simp [h2]
      · rw [List.getElem?_eq_none_iff.mpr (by rw [List.length_set, hl]; omega)]
        simp [h2]
    · rw [List.getElem?_set_ne e, wipe_get vs σ i]
      by_cases hm : i ∈ vs
      · simp [hm]
      · have : ¬ i ∈ v :: vs := fun z => by
          rcases List.mem_cons.mp z with z | z
          · exact e z.symm
          · exact hm z
        rw [if_neg hm, if_neg this]
theorem wipe_set {σ : L2.St} {x : Option V} {i : Nat} {vs : List Nat} (h : i ∈ vs) : wipe (σ.set i x) vs = wipe σ vs := by
  refine List.ext_getElem? fun j => ?_
  rw [wipe_get, wipe_get, List.length_set]
  by_cases hj : j ∈ vs
  · rw [if_pos hj, if_pos hj]
  · rw [if_neg hj, if_neg hj, List.getElem?_set_ne (fun e => hj (by rw [← e]; exact h))]
theorem wipe_wipe {σ : L2.St} {vs : List Nat} : wipe (wipe σ vs) vs = wipe σ vs := by
  refine List.ext_getElem? fun j => ?_
  rw [wipe_get, wipe_get, wipe_length]
  by_cases hj : j ∈ vs
  · rw [if_pos hj, if_pos hj]
  · rw [if_neg hj]
def wipeR (ρ : List Sl) : List Nat → List Sl
  | [] => ρ
  | v :: vs => (wipeR ρ vs).set v .u
theorem En.unset {K : PySem.W.Frag} {as : List Addr} {ρ : List Sl} {os : Os} {σ : L2.St} {H0 H : Hp} (n : En K as ρ os σ H0 H) (i : Nat) (x : Option V) : En K as (ρ.set i .u) os (σ.set i x) H0 H := by
  refine ⟨n.sub, by rw [List.length_set, List.length_set]; exact n.len, fun j y h => ?_, fun j k h => ?_, n.ow⟩
  · by_cases e : i = j
    · subst e
      by_cases hl : i < ρ.length
      · rw [List.getElem?_set_self hl] at h
        cases h
      · rw [List.getElem?_eq_none_iff.mpr (by rw [List.length_set]; omega)] at h
        cases h
    · rw [List.getElem?_set_ne e] at h ⊢
      exact n.dat j y h
  · by_cases e : i = j
    · subst e
      by_cases hl : i < ρ.length
      · rw [List.getElem?_set_self hl] at h
        cases h
      · rw [List.getElem?_eq_none_iff.mpr (by rw [List.length_set]; omega)] at h
        cases h
    · rw [List.getElem?_set_ne e] at h ⊢
      exact n.ref j k h
theorem En.wipe {K : PySem.W.Frag} {as : List Addr} {ρ : List Sl} {os : Os} {σ : L2.St} {H0 H : Hp} (n : En K as ρ os σ H0 H) : ∀ vs : List Nat, En K as (wipeR ρ vs) os (L2.wipe σ vs) H0 H
  | [] => n
  | v :: vs => (En.wipe n vs).unset v none
def gNm (i : Nat) : XG := fun d ρ => some (ρ.set i (.d d))
def gTp (n : Nat) (xs : List PyData → List Sl → Option (List Sl)) : XG := fun d ρ => match d with
  | .tuple ds => if ds.length = n then xs ds ρ else none
  | _ => none
def gsNil : List PyData → List Sl → Option (List Sl) := fun ds ρ => match ds with
  | [] => some ρ
  | _ => none
def gsCons (g : XG) (r : List PyData → List Sl → Option (List Sl)) : List PyData → List Sl → Option (List Sl) := fun ds ρ => match ds with
  | d :: ds => (g d ρ).bind (r ds)
  | _ => none
section
variable {X : Cx} {tg e : Expr} {es : List Expr} {pos : Pos}
abbrev PXG (X : Cx) (tg : Expr) (xg : XG) (js : List Nat) : Prop := PG X tg (gO X.K xg js)
abbrev PXGs (X : Cx) (ts : List Expr) (xg : List PyData → List Sl → Option (List Sl)) (js : List Nat) : Prop := PGs X ts (gsO X.K xg js)
theorem pg_imp {t t' : TG} (h : PG X tg t) (k : ∀ v σ H Q, t' v σ H Q → t v σ H Q) : PG X tg t' := ⟨fun pins s σ H v u Q I r q => h.run pins s σ H v u Q I r (k _ _ _ _ q)⟩
theorem pgs_imp {t t' : TGs} (h : PGs X es t) (k : ∀ v σ H Q, t' v σ H Q → t v σ H Q) : PGs X es t' := ⟨fun pins s σ H v u Q I r q => h.run pins s σ H v u Q I r (k _ _ _ _ q)⟩
theorem pxg_nm {i : Nat} (h : PG X tg (gName i)) : PXG X tg (gNm i) [i] := pg_imp h fun v σ H Q q => by
  obtain ⟨as, ρ, os, H0, d, ρ', n, r, hx, k⟩ := q
  cases hx
  exact k _ (n.set i r) fun vs hv => wipe_set (hv i (by simp))
theorem pxgs_nil : PXGs X [] gsNil [] := pgs_imp pgs_nil fun v σ H Q q => by
  obtain ⟨as, ρ, os, H0, d, ρ', n, r, hx, k⟩ := q
  cases r with
  | nil =>
    cases hx
    exact ⟨rfl, k σ n fun _ _ => rfl⟩
  | cons _ _ => cases hx
theorem pxgs_cons {g : XG} {r : List PyData → List Sl → Option (List Sl)} {js ks : List Nat} (h1 : PXG X e g js) (h2 : PXGs X es r ks) (hs : (assignEach (e :: es) X.env).map (·.2) = assign e X.env :: (assignEach es X.env).map (·.2) := by rfl) : PXGs X (e :: es) (gsCons g r) (js ++ ks) :=
  pgs_imp (pgs_cons h1 h2 hs) fun v σ H Q q => by
    obtain ⟨as, ρ, os, H0, d, ρ', n, r, hx, k⟩ := q
    cases r with
    | nil => cases hx
    | cons r1 r2 =>
      unfold gsCons at hx
      rename_i v1 vs1 d1 ds1
      simp only at hx
      cases h3 : g d1 ρ with
      | none => rw [h3] at hx; cases hx
      | some ρ1 =>
        rw [h3, Option.bind_some] at hx
        exact ⟨v1, vs1, rfl, as, ρ, os, H0, d1, ρ1, n, r1, h3, fun σ1 n1 w1 => ⟨as, ρ1, os, H0, ds1, ρ', n1, r2, hx, fun σ2 n2 w2 => k σ2 n2 fun vs hv => (w2 vs fun j hj => hv j (by simp [hj])).trans (w1 vs fun j hj => hv j (by simp [hj]))⟩⟩
theorem pxg_tup {kk : Nat} {xs : List PyData → List Sl → Option (List Sl)} {js : List Nat} {n : Nat} (hc : X.calm = true) (h : PXGs X es xs js) (hn : (assignEach es X.env).length = n := by rfl) (hst : (assignEach es X.env).findIdx? (·.1) = none := by rfl) :
    PXG X (.Tuple es kk pos) (gTp n xs) js := pg_imp (pg_tup hc h hn hst) fun v σ H Q q => by
  obtain ⟨as, ρ, os, H0, d, ρ', en, r, hx, k⟩ := q
  cases r with
  | @tup a vs ds r1 r2 =>
    simp only [gTp] at hx
    split at hx
    · rename_i hl
      exact ⟨a, vs, rfl, ex_t en.sub r1, by rw [r2.len]; exact hl, as, ρ, os, H0, ds, ρ', en, r2, hx, k⟩
    · cases hx
  | _ => cases hx
end

/-! ### what is walked -/
structure WalkD (K : PySem.W.Frag) (J : It) (items : List PyData) (H0 : Hp) : Prop where
  goes : ∀ (i : Nat) (H : Hp), i < items.length → Ex H0 H → J.go i H
  stops : ∀ H, Ex H0 H → J.stop items.length H
  yields : ∀ (i : Nat) (H : Hp) (x : V) (H' H1 : Hp), i < items.length → Ex H0 H1 → Ex H1 H → J.yld i H x H' → ∃ H1' d, Gr [] H1 H H1' H' ∧ items[i]? = some d ∧ Da K H1' x d
abbrev XI := List Sl → Os → Option (List PyData × Os)
def tiO (K : PySem.W.Frag) (xi : XI) : TI := fun σ H R => ∃ as ρ os H0 items os', En K as ρ os σ H0 H ∧ xi ρ os = some (items, os') ∧ ∀ J H0' H', En K as ρ os' σ H0' H' → Gr as H0 H H0' H' → WalkD K J items H0' → R J H'
abbrev PXI (X : Cx) (tg iter : Expr) (xi : XI) : Prop := PI X tg iter (tiO X.K xi)
section
variable {X : Cx} {tg iter l : Expr} {xl : XE} {pos p : Pos} {ra : XA}
theorem pi_imp {t t' : TI} (h : PI X tg iter t) (k : ∀ σ H R, t' σ H R → t σ H R) : PI X tg iter t' := ⟨fun pins s σ H R I q => h.run pins s σ H R I (k _ _ _ q)⟩
def iLst (xl : XE) : XI := fun ρ os => (xl ρ os).bind fun p => match p.1 with
  | .list ds => some (ds, p.2)
  | _ => none
def iTpl (xl : XE) : XI := fun ρ os => (xl ρ os).bind fun p => match p.1 with
  | .tuple ds => some (ds, p.2)
  | _ => none
theorem pxi_list (hl : PX X l xl) : PXI X tg l (iLst xl) := pi_imp (pi_list hl) fun σ H R q => by
  obtain ⟨as, ρ, os, H0, items, os', n, hx, k⟩ := q
  unfold iLst at hx
  cases h1 : xl ρ os with
  | none => rw [h1] at hx; cases hx
  | some p =>
    obtain ⟨x, os1⟩ := p
    rw [h1, Option.bind_some] at hx
    cases x with
    | list ds =>
      cases hx
      refine ⟨as, ρ, os, H0, _, _, n, h1, fun v H0' H' n1 g1 r1 => ?_⟩
      cases r1 with
      | @lst a vs _ ha hs =>
        have hl := hs.len
        refine ⟨a, rfl, ⟨vs, ex_l n1.sub ha⟩, k _ H0' H' n1 g1 ⟨fun i H hi e => ?_, fun H e => ?_, fun i H x H' H1 hi e e1 y => ?_⟩⟩
        · exact walk_list.goes i H (by omega) (ex_l e ha)
        · rw [← hl]
          exact walk_list.stops H (ex_l e ha)
        · obtain ⟨e2, e3⟩ := walk_list.yields i H x H' (by omega) (ex_l (e.trans e1) ha) y
          subst e2
          obtain ⟨d, hd, r⟩ := hs.atV e3
          exact ⟨H1, d, Gr.refl e1, hd, Da.mono e _ _ r⟩
    | _ => cases hx
theorem pxi_tuple (hl : PX X l xl) : PXI X tg l (iTpl xl) := pi_imp (pi_tup hl) fun σ H R q => by
  obtain ⟨as, ρ, os, H0, items, os', n, hx, k⟩ := q
  unfold iTpl at hx
  cases h1 : xl ρ os with
  | none => rw [h1] at hx; cases hx
  | some p =>
    obtain ⟨x, os1⟩ := p
    rw [h1, Option.bind_some] at hx
    cases x with
    | tuple ds =>
      cases hx
      refine ⟨as, ρ, os, H0, _, _, n, h1, fun v H0' H' n1 g1 r1 => ?_⟩
      cases r1 with
      | @tup a vs _ ha hs =>
        have hl := hs.len
        refine ⟨a, rfl, ⟨vs, ex_t n1.sub ha⟩, k _ H0' H' n1 g1 ⟨fun i H hi e => ?_, fun H e => ?_, fun i H x H' H1 hi e e1 y => ?_⟩⟩
        · exact walk_tup.goes i H (by omega) (ex_t e ha)
        · rw [← hl]
          exact walk_tup.stops H (ex_t e ha)
        · obtain ⟨e2, e3⟩ := walk_tup.yields i H x H' (by omega) (ex_t (e.trans e1) ha) y
          subst e2
          obtain ⟨d, hd, r⟩ := hs.atV e3
          exact ⟨H1, d, Gr.refl e1, hd, Da.mono e _ _ r⟩
    | _ => cases hx
def rangeD (lo : Int) (n : Nat) : List PyData := (List.range n).map fun (i : Nat) => PyData.int (lo + (i : Int))
theorem walkD_range {K : PySem.W.Frag} {H0 : Hp} {lo : Int} {n : Nat} : WalkD K (Itr lo n) (rangeD lo n) H0 := by
  have hl : (rangeD lo n).length = n := by simp [rangeD]
  refine ⟨fun i H hi _ => ?_, fun H _ => ?_, fun i H x H' H1 hi e e1 y => ?_⟩
  · rw [hl] at hi
    exact hi
  · rw [hl]
    exact Nat.le_refl _
  · obtain ⟨e2, e3⟩ := (show H' = H ∧ x = .int (lo + i) from y)
    subst e2 e3
    rw [hl] at hi
    exact ⟨H1, .int (lo + i), Gr.refl e1, by simp [rangeD, hi], .int _⟩
def iRg (ra : XA) : XI := fun ρ os => (ra ρ os).bind fun p => match p.1 with
  | [.d (.int j)] => if -(2 ^ 62) ≤ j ∧ j < 2 ^ 62 then some (rangeD 0 j.toNat, p.2) else none
  | [.d (.int i), .d (.int j)] => if -(2 ^ 62) ≤ i ∧ i < 2 ^ 62 ∧ -(2 ^ 62) ≤ j ∧ j < 2 ^ 62 then some (rangeD i (j - i).toNat, p.2) else none
  | _ => none
theorem pxi_range1 {a : Expr} (hg : Gl X "range") (hm : X.mg "range" = none) (ha : PXA X [a] ra) (hs : starEach [a] X.env = [(false, eval a X.env)] := by rfl) (h1 : ∀ ρ os ss os', ra ρ os = some (ss, os') → ss.length = 1) : PXI X tg (.Call (.Name "range" p) [a] [] pos) (iRg ra) :=
  pi_imp (pi_range1 hg hm ha hs) fun σ H R q => by
    obtain ⟨as, ρ, os, H0, items, os', n, hx, k⟩ := q
    unfold iRg at hx
    cases h2 : ra ρ os with
    | none => rw [h2] at hx; cases hx
    | some q =>
      obtain ⟨ss, os1⟩ := q
      have hl := h1 _ _ _ _ h2
      rw [h2, Option.bind_some] at hx
      simp only at hx
      split at hx
      · rename_i j
        split at hx
        · rename_i hc
          cases hx
          refine ⟨as, ρ, os, H0, _, _, n, h2, fun vs H1 H1' n1 g1 r1 => ?_⟩
          match vs, r1 with
          | [v], r1 =>
            have e := da_intI r1.1
            subst e
            exact ⟨j, rfl, hc.1, hc.2, k _ H1 H1' n1 g1 walkD_range⟩
        · cases hx
      · cases hl
      · cases hx
theorem pxi_range2 {a b : Expr} (hg : Gl X "range") (hm : X.mg "range" = none) (ha : PXA X [a, b] ra) (hs : starEach [a, b] X.env = [(false, eval a X.env), (false, eval b X.env)] := by rfl) (hs2 : starEach [b] X.env = [(false, eval b X.env)] := by rfl)
    (h1 : ∀ ρ os ss os', ra ρ os = some (ss, os') → ss.length = 2) : PXI X tg (.Call (.Name "range" p) [a, b] [] pos) (iRg ra) :=
  pi_imp (pi_range2 hg hm ha hs hs2) fun σ H R q => by
    obtain ⟨as, ρ, os, H0, items, os', n, hx, k⟩ := q
    unfold iRg at hx
    cases h2 : ra ρ os with
    | none => rw [h2] at hx; cases hx
    | some q =>
      obtain ⟨ss, os1⟩ := q
      have hl := h1 _ _ _ _ h2
      rw [h2, Option.bind_some] at hx
      simp only at hx
      split at hx
      · cases hl
      · rename_i i j
        split at hx
        · rename_i hc
          cases hx
          refine ⟨as, ρ, os, H0, _, _, n, h2, fun vs H1 H1' n1 g1 r1 => ?_⟩
          match vs, r1 with
          | [v, w], r1 =>
            have e := da_intI r1.1
            have e2 := da_intI r1.2.1
            subst e e2
            exact ⟨i, j, rfl, hc, k _ H1 H1' n1 g1 walkD_range⟩
        · cases hx
      · cases hx
def zipD (xs ys : List PyData) : List PyData := (xs.zip ys).map fun p => .tuple [p.1, p.2]
theorem walkD_pair {K : PySem.W.Frag} {H0 : Hp} {J : It} {n : Nat} {G : Hp → Prop} {fx fy : Nat → Option V} {items : List PyData} (w : Walk J n G (YPair fx fy)) (hG : ∀ H, Ex H0 H → G H) (hl : items.length = n)
    (hd : ∀ i x y, i < n → fx i = some x → fy i = some y → ∃ d e, items[i]? = some (.tuple [d, e]) ∧ Da K H0 x d ∧ Da K H0 y e) : WalkD K J items H0 := by
  refine ⟨fun i H hi e => w.goes i H (by omega) (hG H e), fun H e => by rw [hl]; exact w.stops H (hG H e), fun i H v H' H1 hi e e1 y => ?_⟩
  obtain ⟨T, x, z, rfl, hT, rfl, h1, h2⟩ := w.yields i H v H' (by omega) (hG H (e.trans e1)) y
  obtain ⟨d, d2, h3, h4, h5⟩ := hd i x z (by omega) h1 h2
  have e2 := e.trans (Gr.new e1 hT (o := .tup [x, z])).e0
  exact ⟨_, _, Gr.new e1 hT, h3, .tup (.inl (.inl upd_same)) (.cons (h4.mono e2) (.cons (h5.mono e2) .nil))⟩
def iZp (ra : XA) : XI := fun ρ os => (ra ρ os).bind fun p => match p.1 with
  | [.d (.list xs), .d (.list ys)] => some (zipD xs ys, p.2)
  | _ => none
theorem pxi_zip {a b : Expr} {elts : List Expr} {kk : Nat} {tpos : Pos} (hg : Gl X "zip") (hm : X.mg "zip" = none) (ha : PXA X [a, b] ra) (hs : starEach [a, b] X.env = (false, eval a X.env) :: starEach [b] X.env := by rfl) (hpl : (backTo pos (starEach [b] X.env)).any (·.1) = false := by rfl) :
    PXI X (.Tuple elts kk tpos) (.Call (.Name "zip" p) [a, b] [] pos) (iZp ra) := pi_imp (pi_zip hg hm ha hs hpl) fun σ H R q => by
  obtain ⟨as, ρ, os, H0, items, os', n, hx, k⟩ := q
  unfold iZp at hx
  cases h2 : ra ρ os with
  | none => rw [h2] at hx; cases hx
  | some q =>
    obtain ⟨ss, os1⟩ := q
    rw [h2, Option.bind_some] at hx
    simp only at hx
    split at hx
    · rename_i xs ys
      cases hx
      refine ⟨as, ρ, os, H0, _, _, n, h2, fun vs H1 H1' n1 g1 r1 => ?_⟩
      match vs, r1 with
      | [v, w], r1 =>
        have q1 : Da X.K H1 v (.list xs) := r1.1
        have q2 : Da X.K H1 w (.list ys) := r1.2.1
        cases q1 with
        | @lst a1 us _ a2 a3 =>
          cases q2 with
          | @lst b1 ws _ b2 b3 =>
            refine ⟨a1, b1, us, ws, rfl, ex_l n1.sub a2, ex_l n1.sub b2, k _ H1 H1' n1 g1 (walkD_pair (walk_zip rfl) (fun H e => ⟨ex_l e a2, ex_l e b2⟩) ?_ fun i x y hi e1 e2 => ?_)⟩
            · rw [a3.len, b3.len]
              simp [zipD]
            · obtain ⟨d, h3, h4⟩ := a3.atV e1
              obtain ⟨e, h5, h6⟩ := b3.atV e2
              exact ⟨d, e, by simp [zipD, List.getElem?_zip_eq_some, h3, h5], h4, h6⟩
    · cases hx
def enumD (xs : List PyData) : List PyData := xs.zipIdx.map fun p => .tuple [.int (p.2 : Int), p.1]
def iEn (ra : XA) : XI := fun ρ os => (ra ρ os).bind fun p => match p.1 with
  | [.d (.list xs)] => some (enumD xs, p.2)
  | _ => none
theorem pxi_enum {a : Expr} {elts : List Expr} {kk : Nat} {tpos : Pos} (hg : Gl X "enumerate") (hm : X.mg "enumerate" = none) (ha : PXA X [a] ra) (hs : starEach [a] X.env = [(false, eval a X.env)] := by rfl) :
    PXI X (.Tuple elts kk tpos) (.Call (.Name "enumerate" p) [a] [] pos) (iEn ra) := pi_imp (pi_enum hg hm ha hs) fun σ H R q => by
  obtain ⟨as, ρ, os, H0, items, os', n, hx, k⟩ := q
  unfold iEn at hx
  cases h2 : ra ρ os with
  | none => rw [h2] at hx; cases hx
  | some q =>
    obtain ⟨ss, os1⟩ := q
    rw [h2, Option.bind_some] at hx
    simp only at hx
    split at hx
    · rename_i xs
      cases hx
      refine ⟨as, ρ, os, H0, _, _, n, h2, fun vs H1 H1' n1 g1 r1 => ?_⟩
      match vs, r1 with
      | [v], r1 =>
        have q1 : Da X.K H1 v (.list xs) := r1.1
        cases q1 with
        | @lst a1 us _ a2 a3 =>
          refine ⟨a1, us, rfl, ex_l n1.sub a2, k _ H1 H1' n1 g1 (walkD_pair walk_enum (fun H e => ex_l e a2) ?_ fun i x y hi e1 e2 => ?_)⟩
          · rw [a3.len]
            simp [enumD]
          · obtain ⟨d, h3, h4⟩ := a3.atV e2
            cases e1
            exact ⟨.int (i : Nat), d, by simp [enumD, List.getElem?_map, List.getElem?_zipIdx, h3], .int _, h4⟩
    · cases hx
end

/-! ### comprehensions of one for -/
abbrev PXTs (X : Cx) (ifs : List Expr) (t : XT) : Prop := PTs X ifs (ttO X.K t)
def xYes : XT := fun _ os => some (true, os)
def lcRun (xg : XG) (tt : XT) (te : XE) (ρ : List Sl) : List PyData → List PyData → Os → Option (List PyData × Os)
  | [], acc, os => some (acc, os)
  | d :: r, acc, os => (xg d ρ).bind fun ρ1 => (tt ρ1 os).bind fun p => if p.1 = true then (te ρ1 p.2).bind fun q => if acc.length < sizeLine then lcRun xg tt te ρ r (acc ++ [q.1]) q.2 else none else lcRun xg tt te ρ r acc p.2
/-- its items -/
def lcD (xi : XI) (xg : XG) (tt : XT) (te : XE) (vs : List Nat) : XI := fun ρ os => (xi ρ os).bind fun p => lcRun xg tt te (wipeR ρ vs) p.1 [] p.2
/-- a new list that nothing else holds -/
def teF (K : PySem.W.Frag) (x : XI) : TE := fun σ H Q => ∃ as ρ os H0 ds os', En K as ρ os σ H0 H ∧ x ρ os = some (ds, os') ∧ ∀ p vs H0' H', H p = none → En K as ρ os' σ H0' H' → Gr as H0 H H0' H' → H0' p = none → p ∉ as → H' p = some (.lst vs) → DaAll K H0' vs ds → Q (.ref p) H'
abbrev PXF (X : Cx) (e : Expr) (x : XI) : Prop := PE X e (teF X.K x)
def xF (x : XI) : XE := fun ρ os => (x ρ os).map fun p => (.list p.1, p.2)
theorem keep_new {as : List Addr} {H0 H H0' H' : Hp} {p : Addr} {o : HO} (s : Ex H0 H) (g : Gr as H0 H H0' H') (hp : H p = none) (hn : H0' p = none) (e : H' p = some o) : Gr as H0 H (upd H0' p o) H' where
  e0 := g.e0.trans (Ex.new hn)
  e1 := g.e1
  nw := fun a u m e n => by
    rw [upd_ne (fun z => n (by rw [z]; exact hp))] at e
    exact g.nw a u m e n
  kp := g.kp
  sub := fun a u e2 => by
    by_cases z : a = p
    · subst z
      rw [upd_same] at e2
      rw [← e2]
      exact e
    · rw [upd_ne z] at e2
      exact g.sub a u e2
theorem Own.keep {K : PySem.W.Frag} {as : List Addr} {os : Os} {H0 H : Hp} {p : Addr} {o : HO} (w : Own K as os H0 H) (hn : H0 p = none) (h : p ∉ as) : Own K as os (upd H0 p o) H := ⟨w.nd, w.len, w.trk, fun k a ds h1 h2 => by
  obtain ⟨n, vs, e, r⟩ := w.at_ k a ds h1 h2
  refine ⟨?_, vs, e, DaAll.mono (Ex.new hn) _ _ r⟩
  rw [upd_ne (fun z => h (by rw [← z]; exact List.mem_of_getElem? h1))]
  exact n⟩
theorem En.keep {K : PySem.W.Frag} {as : List Addr} {ρ : List Sl} {os : Os} {σ : L2.St} {H0 H : Hp} {p : Addr} {o : HO} (n : En K as ρ os σ H0 H) (hn : H0 p = none) (h : p ∉ as) (e : H p = some o) : En K as ρ os σ (upd H0 p o) H :=
  ⟨fun a u e2 => by
    by_cases z : a = p
    · subst z
      rw [upd_same] at e2
      rw [← e2]
      exact e
    · rw [upd_ne z] at e2
      exact n.sub a u e2, n.len, fun i x h => by
    obtain ⟨v, e1, r⟩ := n.dat i x h
    exact ⟨v, e1, r.mono (Ex.new hn)⟩, n.ref, n.ow.keep hn h⟩
theorem px_of_f {X : Cx} {e : Expr} {x : XI} (h : PXF X e x) : PX X e (xF x) := pe_imp h fun σ H Q q => by
  obtain ⟨as, ρ, os, H0, d, os', n, hx, k⟩ := q
  unfold xF at hx
  cases h1 : x ρ os with
  | none => rw [h1] at hx; cases hx
  | some q =>
    obtain ⟨ds, os1⟩ := q
    rw [h1] at hx
    cases hx
    exact ⟨as, ρ, os, H0, ds, os1, n, h1, fun p vs H0' H' hp n1 g1 h2 h3 h4 r => k _ _ H' (n1.keep h2 h3 h4) (keep_new n.sub g1 hp h2 h4) (.lst (SqL.of upd_same) (r.mono (Ex.new h2)))⟩
/-- what stands between two turns -/
def LcI (K : PySem.W.Frag) (as : List Addr) (Ha Hb : Hp) (D : Addr) (xg : XG) (tt : XT) (te : XE) (ρw : List Sl) (σw : L2.St) (ds : List PyData) (os' : Os) (left : List PyData) (H2 : Hp) : Prop :=
  ∃ acc osi H2' vacc, En K as ρw osi σw H2' H2 ∧ Gr as Ha Hb H2' H2 ∧ H2' D = none ∧ H2 D = some (.lst vacc) ∧ DaAll K H2' vacc acc ∧ lcRun xg tt te ρw left acc osi = some (ds, os')
/-- another place changes -/
theorem En.away {K : PySem.W.Frag} {as : List Addr} {ρ : List Sl} {os : Os} {σ : L2.St} {H0 H H' : Hp} {D : Addr} (n : En K as ρ os σ H0 H) (nD : D ∉ as) (h : ∀ a, a ≠ D → H' a = H a) (hD : H' D ≠ none) (h0 : H0 D = none) : En K as ρ os σ H0 H' := by
  refine ⟨fun a o e => ?_, n.len, n.dat, n.ref, ⟨n.ow.nd, n.ow.len, fun a ha => ?_, fun k a ds h1 h2 => ?_⟩⟩
  · rw [h a (ne_of_none e h0)]
    exact n.sub a o e
  · rw [h a (fun z => nD (by rw [← z]; exact ha))]
    exact n.ow.trk a ha
  · obtain ⟨q1, vs, q2, q3⟩ := n.ow.at_ k a ds h1 h2
    exact ⟨q1, vs, by rw [h a (fun z => nD (by rw [← z]; exact List.mem_of_getElem? h1))]; exact q2, q3⟩
/-- the names as they were, the lists as they are -/
theorem En.back {K : PySem.W.Frag} {as : List Addr} {ρ ρ1 : List Sl} {os os1 : Os} {σ σ1 : L2.St} {H0 H H0' H' : Hp} (n : En K as ρ1 os1 σ1 H0' H') (m : En K as ρ os σ H0 H) (e : Ex H0 H0') : En K as ρ os1 σ H0' H' :=
  ⟨n.sub, m.len, fun i x h => by
    obtain ⟨v, e1, r⟩ := m.dat i x h
    exact ⟨v, e1, Da.mono e _ _ r⟩, m.ref, n.ow⟩
section
variable {X : Cx} {elt tg iter : Expr} {ifs : List Expr} {scope : Scope} {own : List (Str × Nat)} {pos : Pos} {xi : XI} {xg : XG} {js : List Nat} {tt : XT} {te : XE}
theorem pxts_nil : PXTs X [] xYes := ⟨fun pins s σ H Q I q => (pts_nil (X := X)).run pins s σ H Q I (by
  obtain ⟨as, ρ, os, H0, b, os', n, hx, k⟩ := q
  cases hx
  exact k H0 H n (Gr.refl n.sub))⟩
theorem pxts_one {c : Expr} (h : PXT X c tt) : PXTs X [c] tt := pts_one h
theorem to_lc {K : PySem.W.Frag} {vs : List Nat} (hj : ∀ j ∈ js, j ∈ vs) {σ : L2.St} {H : Hp} {Q : VK} (q : teF K (lcD xi xg tt te vs) σ H Q) : tLc (tiO K xi) (gO K xg js) (ttO K tt) (teO K te) vs σ H Q := by
  obtain ⟨as, ρ, os, H0, ds, os', n, hx, k⟩ := q
  unfold lcD at hx
  cases h1 : xi ρ os with
  | none => rw [h1] at hx; cases hx
  | some q =>
    obtain ⟨items, os1⟩ := q
    rw [h1, Option.bind_some] at hx
    refine ⟨as, ρ, os, H0, items, os1, n, h1, fun J Ha Hb n1 g1 w => ?_⟩
    intro D hD
    -- the word: what is made so far, what is left
    have nD : D ∉ as := fun z => n1.ow.trk D z hD
    have gD := fun {H2' H2 : Hp} (g : Gr as Ha Hb H2' H2) => g
    refine ⟨fun i m H2 => m = items.length - i ∧ i ≤ items.length ∧ LcI K as Ha Hb D xg tt te (wipeR ρ vs) (wipe σ vs) ds os' (items.drop i) H2, ⟨items.length, by simp, Nat.zero_le _, [], os1, Ha, [], ?_, ?_, fresh_back n1.sub hD, upd_same, .nil, hx⟩, ?_⟩
    · exact (n1.wipe vs).away nD (fun a h => upd_ne h) (by rw [upd_same]; simp) (fresh_back n1.sub hD)
    · exact ⟨Ex.refl _, fun a o h e => by rw [upd_ne (ne_of_none e hD)]; exact e, fun _ _ _ e _ => e, fun a h => by rw [upd_ne (fun z => h (by rw [z]; exact hD))]; exact h, fun a o e => by rw [upd_ne (ne_of_none (n1.sub a o e) hD)]; exact n1.sub a o e⟩
    rintro i m H2 ⟨rfl, hi, acc, osi, H2', vacc, nI, gI, h2, h3, h4, hr⟩
    by_cases hlt : i < items.length
    · refine .inr ⟨w.goes i H2 hlt (gI.e0.trans nI.sub), LcI K as Ha Hb D xg tt te (wipeR ρ vs) (wipe σ vs) ds os' (items.drop (i + 1)), fun H3 p3 => ⟨items.length - (i + 1), by omega, rfl, hlt, p3⟩, fun x H3 y => ?_⟩
      obtain ⟨H3', d, g3, hd, r3⟩ := w.yields i H2 x H3 H2' hlt gI.e0 nI.sub y
      have n3 := nI.grow g3
      have e3 : items.drop i = d :: items.drop (i + 1) := by
        obtain ⟨_, e⟩ := List.getElem?_eq_some_iff.mp hd
        rw [← e]
        exact List.drop_eq_getElem_cons hlt
      rw [e3] at hr
      simp only [lcRun] at hr
      cases q1 : xg d (wipeR ρ vs) with
      | none => rw [q1] at hr; cases hr
      | some ρ1 =>
        rw [q1, Option.bind_some] at hr
        refine ⟨as, wipeR ρ vs, osi, H3', d, ρ1, n3, r3, q1, fun σ4 n4 w4 => ⟨(w4 vs hj).trans wipe_wipe, ?_⟩⟩
        cases q2 : tt ρ1 osi with
        | none => rw [q2] at hr; cases hr
        | some p =>
          obtain ⟨b, os5⟩ := p
          rw [q2, Option.bind_some] at hr
          simp only at hr
          have D3 : H3 D = some (.lst vacc) := g3.e1 D _ (by simp) h3
          have D3' : H3' D = none := by
            cases z : H3' D with
            | none => rfl
            | some u =>
              have := g3.nw D u (by simp) z (by rw [h3]; simp)
              rw [h2] at this
              cases this
          refine ⟨as, ρ1, osi, H3', b, os5, n4, q2, fun H5' H5 n5 g5 => ?_⟩
          have D5 : H5 D = some (.lst vacc) := g5.e1 D _ nD D3
          have D5' : H5' D = none := by
            cases z : H5' D with
            | none => rfl
            | some u =>
              have := g5.nw D u nD z (by rw [D3]; simp)
              rw [D3'] at this
              cases this
          have gA : Gr as Ha Hb H5' H5 := (gI.tr0 g3).tr g5
          cases b with
          | false =>
            simp only [Bool.false_eq_true, if_false] at hr ⊢
            exact ⟨acc, os5, H5', vacc, n5.back nI (g3.e0.trans g5.e0), gA, D5', D5, DaAll.mono (g3.e0.trans g5.e0) _ _ h4, hr⟩
          | true =>
            simp only [if_true] at hr ⊢
            cases q3 : te ρ1 os5 with
            | none => rw [q3] at hr; cases hr
            | some p =>
              obtain ⟨yv, os6⟩ := p
              rw [q3, Option.bind_some] at hr
              simp only at hr
              split at hr
              · rename_i hz
                refine ⟨as, ρ1, os5, H5', yv, os6, n5, q3, fun v H6' H6 n6 g6 r6 => ?_⟩
                have D6 : H6 D = some (.lst vacc) := g6.e1 D _ nD D5
                have D6' : H6' D = none := by
                  cases z : H6' D with
                  | none => rfl
                  | some u =>
                    have := g6.nw D u nD z (by rw [D5]; simp)
                    rw [D5'] at this
                    cases this
                have h46 : DaAll K H6' vacc acc := DaAll.mono ((g3.e0.trans g5.e0).trans g6.e0) _ _ h4
                refine ⟨vacc, D6, by rw [h46.len]; exact hz, acc ++ [yv], os6, H6', vacc ++ [v], ?_, ?_, D6', upd_same, h46.app (.cons r6 .nil), hr⟩
                · exact (n6.back nI ((g3.e0.trans g5.e0).trans g6.e0)).away nD (fun a h => upd_ne h) (by rw [upd_same]; simp) D6'
                · have gB := gA.tr g6
                  refine ⟨gB.e0, fun a o h e => ?_, gB.nw, fun a h => ?_, fun a o e => ?_⟩
                  · rw [upd_ne (ne_of_none e hD)]
                    exact gB.e1 a o h e
                  · rw [upd_ne (fun z => h (by rw [z]; exact hD))]
                    exact gB.kp a h
                  · rw [upd_ne (ne_of_none e D6')]
                    exact gB.sub a o e
              · cases hr
    · have e : items.drop i = [] := List.drop_eq_nil_of_le (by omega)
      rw [e] at hr
      cases hr
      have ei : i = items.length := by omega
      subst ei
      refine .inl ⟨w.stops H2 (gI.e0.trans nI.sub), k D vacc H2' H2 ?_ ?_ (g1.tr gI) h2 nD h3 h4⟩
      · cases z : H D with
        | none => rfl
        | some u => exact absurd hD (g1.kp D (by rw [z]; simp))
      · exact nI.back n1 gI.e0
theorem pxf_lc (hc : X.calm = true) (hN : X.N.Nodup) (hi : PXI X tg iter xi) (ok : BlkOk X.N X.env.scope scope own)
    (hg : ∀ (s : Shared) (H : Hp) (C : Addr) (cl : List (Str × Addr)) (fp : List Addr), PXG (X.blk s H scope (compEnvC scope cl C X.env) fp) tg xg js)
    (ht : ∀ (s : Shared) (H : Hp) (C : Addr) (cl : List (Str × Addr)) (fp : List Addr), PXTs (X.blk s H scope (compEnvC scope cl C X.env) fp) ifs tt)
    (he : ∀ (s : Shared) (H : Hp) (C : Addr) (cl : List (Str × Addr)) (fp : List Addr), PX (X.blk s H scope (compEnvC scope cl C X.env) fp) elt te)
    (hj : ∀ j ∈ js, j ∈ own.map (·.2)) (hs : ∀ x, foldedSetIterable iter X.env x = pure x := by intro _; rfl) : PXF X (.ListComp elt [⟨tg, iter, ifs, 0⟩] scope pos) (lcD xi xg tt te (own.map (·.2))) :=
  pe_imp (pe_lc hc hN hi ok hg ht he hs) fun _ _ _ q => to_lc hj q
end
end DL

set_option Elab.async false
set_option linter.all false
set_option maxRecDepth 100000
set_option maxHeartbeats 4000000
namespace DL
open PySem PySem.Spec PyProof.Rows L2 Evl

/-! ### statements by what they leave -/
inductive Out where
  | nx (ρ : List Sl) (os : Os)
  | bk (ρ : List Sl) (os : Os)
  | ct (ρ : List Sl) (os : Os)
  | rt (d : PyData) (os : Os)
abbrev SE := List Sl → Os → Option Out
def Exs (as : List Addr) (H : Hp) (as' : List Addr) : Prop := ∃ bs, as' = as ++ bs ∧ ∀ b ∈ bs, H b = none
theorem Exs.refl {as : List Addr} {H : Hp} : Exs as H as := ⟨[], by simp, by simp⟩
theorem Exs.trans {as bs cs : List Addr} {H H' : Hp} (p : Exs as H bs) (q : Exs bs H' cs) (k : ∀ a, H a ≠ none → H' a ≠ none) : Exs as H cs := by
  obtain ⟨b1, rfl, h1⟩ := p
  obtain ⟨b2, rfl, h2⟩ := q
  refine ⟨b1 ++ b2, by simp, fun b hb => ?_⟩
  rcases List.mem_append.mp hb with z | z
  · exact h1 b z
  · cases e : H b with
    | none => rfl
    | some o => exact absurd (h2 b z) (k b (by rw [e]; simp))
theorem Exs.mem {as bs : List Addr} {H : Hp} (p : Exs as H bs) : ∀ a ∈ bs, a ∈ as ∨ H a = none := fun a ha => by
  obtain ⟨b1, rfl, h1⟩ := p
  rcases List.mem_append.mp ha with z | z
  · exact .inl z
  · exact .inr (h1 a z)
def NxOk (K : PySem.W.Frag) (as : List Addr) (H0 H : Hp) (nx : L2.St → Hp → Prop) (ρ' : List Sl) (os' : Os) : Prop := ∀ as' σ' H0' H', Exs as H as' → En K as' ρ' os' σ' H0' H' → Gr as H0 H H0' H' → nx σ' H'
/-- where the def began: its lists, its heap -/
structure Bs (fr : Option Nat) (as0 : List Addr) (Hs : Hp) (as : List Addr) (H : Hp) : Prop where
  len : ∀ n, fr = some n → as0.length = n
  ex : Exs as0 Hs as
  kp : ∀ a, Hs a ≠ none → H a ≠ none
theorem Bs.step {fr : Option Nat} {as0 as as1 : List Addr} {Hs H H1 : Hp} (p : Bs fr as0 Hs as H) (e : Exs as H as1) (k : ∀ a, H a ≠ none → H1 a ≠ none) : Bs fr as0 Hs as1 H1 := ⟨p.len, p.ex.trans e p.kp, fun a h => k a (p.kp a h)⟩
def RtOk (fr : Option Nat) (K : PySem.W.Frag) (Hs : Hp) (as : List Addr) (H0 H : Hp) (rt : VK) (d : PyData) (os' : Os) : Prop := match fr with
  | none => ∀ v as' H0' H', Exs as H as' → Own K as' os' H0' H' → Gr as H0 H H0' H' → Da K H0' v d → rt v H'
  | some _ => ∃ ds, d = .list ds ∧ ∀ p vs as' H0' H', Hs p = none → Exs as H as' → Own K as' os' H0' H' → Gr as H0 H H0' H' → H0' p = none → H' p = some (.lst vs) → DaAll K H0' vs ds → rt (.ref p) H'
def OutOk (fr : Option Nat) (K : PySem.W.Frag) (Hs : Hp) (as : List Addr) (H0 H : Hp) (D : Ends) : Out → Prop
  | .nx r w => NxOk K as H0 H D.nx r w
  | .bk r w => NxOk K as H0 H D.bk r w
  | .ct r w => NxOk K as H0 H D.ct r w
  | .rt d w => RtOk fr K Hs as H0 H D.rt d w
def tsO (fr : Option Nat) (K : PySem.W.Frag) (s : SE) : TS := fun D σ H => ∃ as0 Hs as ρ os H0 o, Bs fr as0 Hs as H ∧ En K as ρ os σ H0 H ∧ s ρ os = some o ∧ OutOk fr K Hs as H0 H D o
section
variable {K : PySem.W.Frag} {as as1 : List Addr} {Hs H0 H H1 H1' : Hp} {fr : Option Nat}
theorem NxOk.step {nx : L2.St → Hp → Prop} {r : List Sl} {w : Os} (e : Exs as H as1) (g : Gr as H0 H H1 H1') (h : NxOk K as H0 H nx r w) : NxOk K as1 H1 H1' nx r w := fun as' σ' H0' H' e2 n2 g2 =>
  h as' σ' H0' H' (e.trans e2 g.kp) n2 (g.trans g2 e.mem)
theorem RtOk.step {rt : VK} {d : PyData} {w : Os} (e : Exs as H as1) (g : Gr as H0 H H1 H1') (h : RtOk fr K Hs as H0 H rt d w) : RtOk fr K Hs as1 H1 H1' rt d w := by
  cases fr with
  | none => exact fun v as' H0' H' e2 n2 g2 r => h v as' H0' H' (e.trans e2 g.kp) n2 (g.trans g2 e.mem) r
  | some _ =>
    obtain ⟨ds, rfl, h⟩ := h
    exact ⟨ds, rfl, fun p vs as' H0' H' hp e2 n2 g2 r1 r2 r3 => h p vs as' H0' H' hp (e.trans e2 g.kp) n2 (g.trans g2 e.mem) r1 r2 r3⟩
theorem OutOk.step {D : Ends} {o : Out} (e : Exs as H as1) (g : Gr as H0 H H1 H1') (h : OutOk fr K Hs as H0 H D o) : OutOk fr K Hs as1 H1 H1' D o := by
  cases o with
  | nx r w => exact NxOk.step e g h
  | bk r w => exact NxOk.step e g h
  | ct r w => exact NxOk.step e g h
  | rt d w => exact RtOk.step e g h
end
abbrev PSX (X : Cx) (fr : Option Nat) (st : Stmt) (s : SE) : Prop := PS X st (tsO fr X.K s)
abbrev PSXs (X : Cx) (fr : Option Nat) (sts : List Stmt) (s : SE) : Prop := PSs X sts (tsO fr X.K s)
section
variable {X : Cx} {fr : Option Nat} {st : Stmt} {rest sts bs : List Stmt} {s s2 : SE} {e c i tg iter : Expr} {xe xi' : XE} {xt : XT} {xg : XG} {js : List Nat} {xi : XI} {pos : Pos}
theorem ps_imp {t t' : TS} (h : PS X st t) (k : ∀ D σ H, t' D σ H → t D σ H) : PS X st t' := ⟨fun pins s σ H D I q => h.run pins s σ H D I (k _ _ _ q)⟩
theorem pss_imp {t t' : TS} (h : PSs X sts t) (k : ∀ D σ H, t' D σ H → t D σ H) : PSs X sts t' := ⟨fun pins s σ H D I q => h.run pins s σ H D I (k _ _ _ q)⟩
def sNext : SE := fun ρ os => some (.nx ρ os)
def sBrk : SE := fun ρ os => some (.bk ρ os)
def sCnt : SE := fun ρ os => some (.ct ρ os)
def sNever : SE := fun _ _ => none
def sSeq (s t : SE) : SE := fun ρ os => (s ρ os).bind fun o => match o with
  | .nx r w => t r w
  | o => some o
theorem psx_nil : PSXs X fr [] sNext := pss_imp pss_nil fun D σ H q => by
  obtain ⟨as0, Hs, as, ρ, os, H0, o, bs0, n, hx, k⟩ := q
  cases hx
  exact k as σ H0 H Exs.refl n (Gr.refl n.sub)
theorem psx_cons (h1 : PSX X fr st s) (h2 : PSXs X fr rest s2) : PSXs X fr (st :: rest) (sSeq s s2) := pss_imp (pss_cons h1 h2) fun D σ H q => by
  obtain ⟨as0, Hs, as, ρ, os, H0, o, bs0, n, hx, k⟩ := q
  unfold sSeq at hx
  cases h : s ρ os with
  | none => rw [h] at hx; cases hx
  | some o1 =>
    rw [h, Option.bind_some] at hx
    refine ⟨as0, Hs, as, ρ, os, H0, o1, bs0, n, h, ?_⟩
    cases o1 with
    | nx r w => exact fun as' σ' H0' H' e2 n2 g2 => ⟨as0, Hs, as', r, w, H0', o, bs0.step e2 g2.kp, n2, hx, k.step e2 g2⟩
    | bk r w => cases hx; exact k
    | ct r w => cases hx; exact k
    | rt d w => cases hx; exact k
theorem psx_one (h1 : PSX X fr st s) : PSXs X fr [st] s := pss_one h1
theorem psx_pass : PSX X fr (.Pass pos) sNext := ps_imp ps_pass fun D σ H q => by
  obtain ⟨as0, Hs, as, ρ, os, H0, o, bs0, n, hx, k⟩ := q
  cases hx
  exact k as σ H0 H Exs.refl n (Gr.refl n.sub)
theorem psx_break : PSX X fr (.Break pos) sBrk := ps_imp ps_break fun D σ H q => by
  obtain ⟨as0, Hs, as, ρ, os, H0, o, bs0, n, hx, k⟩ := q
  cases hx
  exact k as σ H0 H Exs.refl n (Gr.refl n.sub)
theorem psx_continue : PSX X fr (.Continue pos) sCnt := ps_imp ps_continue fun D σ H q => by
  obtain ⟨as0, Hs, as, ρ, os, H0, o, bs0, n, hx, k⟩ := q
  cases hx
  exact k as σ H0 H Exs.refl n (Gr.refl n.sub)
theorem psx_never : PSX X fr st sNever := ps_imp ps_never fun D σ H q => by
  obtain ⟨as0, Hs, as, ρ, os, H0, o, bs0, n, hx, k⟩ := q
  cases hx
def sIf (t : XT) (a b : SE) : SE := fun ρ os => (t ρ os).bind fun p => if p.1 = true then a ρ p.2 else b ρ p.2
theorem psx_if (hc : PXT X c xt) (ha : PSXs X fr sts s) (hb : PSXs X fr bs s2) : PSX X fr (.If c sts bs pos) (sIf xt s s2) := ps_imp (ps_if hc ha hb) fun D σ H q => by
  obtain ⟨as0, Hs, as, ρ, os, H0, o, bs0, n, hx, k⟩ := q
  unfold sIf at hx
  cases h : xt ρ os with
  | none => rw [h] at hx; cases hx
  | some p =>
    obtain ⟨b, os1⟩ := p
    rw [h, Option.bind_some] at hx
    refine ⟨as, ρ, os, H0, b, os1, n, h, fun H0' H' n1 g1 => ?_⟩
    cases b with
    | true => exact ⟨as0, Hs, as, ρ, os1, H0', o, bs0.step Exs.refl g1.kp, n1, by simpa using hx, k.step Exs.refl g1⟩
    | false => exact ⟨as0, Hs, as, ρ, os1, H0', o, bs0.step Exs.refl g1.kp, n1, by simpa using hx, k.step Exs.refl g1⟩
/-- target = value -/
def sAsg (xe : XE) (xg : XG) : SE := fun ρ os => (xe ρ os).bind fun p => (xg p.1 ρ).map fun r => .nx r p.2
theorem to_asg {K : PySem.W.Frag} {D : Ends} {σ : L2.St} {H : Hp} (q : tsO fr K (sAsg xe xg) D σ H) : tAsg (teO K xe) (gO K xg js) D σ H := by
  obtain ⟨as0, Hs, as, ρ, os, H0, o, bs0, n, hx, k⟩ := q
  unfold sAsg at hx
  cases h : xe ρ os with
  | none => rw [h] at hx; cases hx
  | some p =>
    obtain ⟨d, os1⟩ := p
    rw [h, Option.bind_some] at hx
    cases h2 : xg d ρ with
    | none => rw [h2] at hx; cases hx
    | some r =>
      rw [h2] at hx
      cases hx
      exact ⟨as, ρ, os, H0, d, os1, n, h, fun v H0' H' n1 g1 r1 => ⟨as, ρ, os1, H0', d, r, n1, r1, h2, fun σ' n2 _ => k as σ' H0' H' Exs.refl n2 g1⟩⟩
theorem psx_asg (he : PX X e xe) (hg : PXG X tg xg js) (hs : swapsWithSole [tg] e pos.line X.env = pure false := by rfl) (hw : swappedStores [tg] e X.env = pure none := by rfl)
    (h1 : (assignEach [tg] X.env).map (·.2) = [assign tg X.env] := by rfl) : PSX X fr (.Assign [tg] e pos) (sAsg xe xg) := ps_imp (ps_asg he hg hs hw h1) fun _ _ _ q => to_asg q
/-- name = value -/
theorem psx_set {i : Nat} {x : Str} {pos' : Pos} (hN : X.N.Nodup) (hi : X.N[i]? = some x) (hx : Loc X.env.scope x) (he : PX X e xe) (hs : swapsWith e (some (.Name x pos')) pos.line X.env = pure false := by rfl) (hf : X.fn x = true ∨ X.env.scope.names.lookup x = some .local := by first | exact .inl rfl | exact .inr rfl | assumption) :
    PSX X fr (.Assign [.Name x pos'] e pos) (sAsg xe (gNm i)) := ps_imp (ps_set hN hi hx he hs hf) fun D σ H q => by
  have q2 := to_asg (js := [i]) q
  obtain ⟨as0, Hs, as, ρ, os, H0, o, bs0, n, hx, k⟩ := q
  unfold sAsg gNm at hx
  cases h : xe ρ os with
  | none => rw [h] at hx; cases hx
  | some p =>
    obtain ⟨d, os1⟩ := p
    rw [h] at hx
    cases hx
    exact ⟨as, ρ, os, H0, d, os1, n, h, fun v H0' H' n1 g1 r1 => k as _ H0' H' Exs.refl (n1.set i r1) g1⟩
/-- name = a new list, one's own from now on -/
def sOwn (i : Nat) (x : XI) : SE := fun ρ os => (x ρ os).map fun p => .nx (ρ.set i (.o p.2.length)) (p.2 ++ [some p.1])
theorem En.own {K : PySem.W.Frag} {as : List Addr} {ρ : List Sl} {os : Os} {σ : L2.St} {H0 H : Hp} {p : Addr} {vs : List V} {ds : List PyData} (n : En K as ρ os σ H0 H) (i : Nat) (h0 : H0 p = none) (hp : p ∉ as) (e : H p = some (.lst vs)) (r : DaAll K H0 vs ds) :
    En K (as ++ [p]) (ρ.set i (.o os.length)) (os ++ [some ds]) (σ.set i (some (.ref p))) H0 H := by
  have hl := n.ow.len
  refine ⟨n.sub, by rw [List.length_set, List.length_set]; exact n.len, fun j x h => ?_, fun j k h => ?_, ⟨?_, by simp [hl], fun a ha => ?_, fun k a ds' h1 h2 => ?_⟩⟩
  · by_cases e : i = j
    · subst e
      by_cases hl : i < ρ.length
      · rw [List.getElem?_set_self hl] at h
        cases h
      · rw [List.getElem?_eq_none_iff.mpr (by rw [List.length_set]; omega)] at h
        cases h
    · rw [List.getElem?_set_ne e] at h ⊢
      exact n.dat j x h
  · by_cases e2 : i = j
    · subst e2
      by_cases hl2 : i < ρ.length
      · rw [List.getElem?_set_self hl2] at h
        cases h
        exact ⟨p, by rw [← hl]; simp, List.getElem?_set_self (by rw [n.len]; exact hl2)⟩
      · rw [List.getElem?_eq_none_iff.mpr (by rw [List.length_set]; omega)] at h
        cases h
    · rw [List.getElem?_set_ne e2] at h ⊢
      obtain ⟨a, h1, h2⟩ := n.ref j k h
      exact ⟨a, by rw [List.getElem?_append_left (List.getElem?_eq_some_iff.mp h1).1]; exact h1, h2⟩
  · rw [List.nodup_append]
    refine ⟨n.ow.nd, by simp, fun a ha b hb => ?_⟩
    have : b = p := by simpa using hb
    rw [this]
    exact fun z => hp (by rw [← z]; exact ha)
  · rcases List.mem_append.mp ha with z | z
    · exact n.ow.trk a z
    · have : a = p := by simpa using z
      rw [this, e]
      simp
  · by_cases hk : k < as.length
    · rw [List.getElem?_append_left hk] at h1
      rw [List.getElem?_append_left (by omega)] at h2
      exact n.ow.at_ k a ds' h1 h2
    · by_cases hk2 : k = as.length
      · subst hk2
        rw [List.getElem?_append_right (Nat.le_refl _), Nat.sub_self] at h1
        rw [List.getElem?_append_right (by omega), hl, Nat.sub_self] at h2
        cases h1
        cases h2
        exact ⟨h0, vs, e, r⟩
      · rw [List.getElem?_eq_none_iff.mpr (by simp; omega)] at h1
        cases h1
theorem to_own {K : PySem.W.Frag} {x : XI} {i : Nat} {D : Ends} {σ : L2.St} {H : Hp} (q : tsO fr K (sOwn i x) D σ H) : tAsg (teF K x) (gName i) D σ H := by
  obtain ⟨as0, Hs, as, ρ, os, H0, o, bs0, n, hx, k⟩ := q
  unfold sOwn at hx
  cases h : x ρ os with
  | none => rw [h] at hx; cases hx
  | some p =>
    obtain ⟨ds, os1⟩ := p
    rw [h] at hx
    cases hx
    exact ⟨as, ρ, os, H0, ds, os1, n, h, fun p vs H0' H' hp n1 g1 h2 h3 h4 r => k (as ++ [p]) _ H0' H' ⟨[p], rfl, by simpa using hp⟩ (n1.own i h2 h3 h4 r) g1⟩
theorem psx_own {i : Nat} {y : Str} {pos' : Pos} {x : XI} (hN : X.N.Nodup) (hi : X.N[i]? = some y) (hx : Loc X.env.scope y) (he : PXF X e x) (hs : swapsWith e (some (.Name y pos')) pos.line X.env = pure false := by rfl) (hf : X.fn y = true ∨ X.env.scope.names.lookup y = some .local := by first | exact .inl rfl | exact .inr rfl | assumption) :
    PSX X fr (.Assign [.Name y pos'] e pos) (sOwn i x) := ps_imp (ps_set hN hi hx he hs hf) fun _ _ _ q => to_own q
/-- e; -/
def sDrop (xe : XE) : SE := fun ρ os => (xe ρ os).map fun p => .nx ρ p.2
theorem psx_expr (he : PX X e xe) (hs : swapsWith e none pos.line X.env = pure false := by rfl) : PSX X fr (.Expr e pos) (sDrop xe) := ps_imp (ps_expr he hs) fun D σ H q => by
  obtain ⟨as0, Hs, as, ρ, os, H0, o, bs0, n, hx, k⟩ := q
  unfold sDrop at hx
  cases h : xe ρ os with
  | none => rw [h] at hx; cases hx
  | some p =>
    obtain ⟨d, os1⟩ := p
    rw [h] at hx
    cases hx
    exact ⟨as, ρ, os, H0, d, os1, n, h, fun v H0' H' n1 g1 r1 => k as σ H0' H' Exs.refl n1 g1⟩
/-- return -/
def sRet (xe : XE) : SE := fun ρ os => (xe ρ os).map fun p => .rt p.1 p.2
theorem psx_ret (he : PX X e xe) : PSX X none (.Return (some e) pos) (sRet xe) := ps_imp (ps_ret he) fun D σ H q => by
  obtain ⟨as0, Hs, as, ρ, os, H0, o, bs0, n, hx, k⟩ := q
  unfold sRet at hx
  cases h : xe ρ os with
  | none => rw [h] at hx; cases hx
  | some p =>
    obtain ⟨d, os1⟩ := p
    rw [h] at hx
    cases hx
    exact ⟨as, ρ, os, H0, d, os1, n, h, fun v H0' H' n1 g1 r1 => k v as H0' H' Exs.refl n1.ow g1 r1⟩
def sRetF (x : XI) : SE := fun ρ os => (x ρ os).map fun p => .rt (.list p.1) p.2
theorem psx_retF {x : XI} {n0 : Nat} (he : PXF X e x) : PSX X (some n0) (.Return (some e) pos) (sRetF x) := ps_imp (ps_ret he) fun D σ H q => by
  obtain ⟨as0, Hs, as, ρ, os, H0, o, bs0, n, hx, k⟩ := q
  unfold sRetF at hx
  cases h : x ρ os with
  | none => rw [h] at hx; cases hx
  | some p =>
    obtain ⟨ds, os1⟩ := p
    rw [h] at hx
    cases hx
    obtain ⟨ds', e1, k⟩ := k
    cases e1
    exact ⟨as, ρ, os, H0, ds, os1, n, h, fun p vs H0' H' hp n1 g1 h2 h3 h4 r => k p vs as H0' H' (by
      cases z : Hs p with
      | none => rfl
      | some u => exact absurd hp (bs0.kp p (by rw [z]; simp))) Exs.refl n1.ow g1 h2 h4 r⟩
def sRetN : SE := fun _ os => some (.rt .none os)
theorem psx_retN : PSX X none (.Return none pos) sRetN := ps_imp ps_retN fun D σ H q => by
  obtain ⟨as0, Hs, as, ρ, os, H0, o, bs0, n, hx, k⟩ := q
  cases hx
  exact k _ as H0 H Exs.refl n.ow (Gr.refl n.sub) .non
/-- for -/
def forRun (xg : XG) (b : SE) : List PyData → List Sl → Os → Option Out
  | [], ρ, os => some (.nx ρ os)
  | d :: r, ρ, os => (xg d ρ).bind fun ρ1 => (b ρ1 os).bind fun o => match o with
    | .nx ρ2 w => forRun xg b r ρ2 w
    | .ct ρ2 w => forRun xg b r ρ2 w
    | .bk ρ2 w => some (.nx ρ2 w)
    | .rt d w => some (.rt d w)
def sFor (xi : XI) (xg : XG) (b : SE) : SE := fun ρ os => (xi ρ os).bind fun p => forRun xg b p.1 ρ p.2
theorem psx_for (hp : PassesOwn (model X.prog X.w) X.A X.env X.xe) (hc : X.calm = true) (hi : PXI X tg iter xi) (hg : PXG X tg xg js) (hb : PSXs X fr sts s) (hs : ∀ x, foldedSetIterable iter X.env x = pure x := by intro _; rfl) :
    PSX X fr (.For tg iter sts [] pos) (sFor xi xg s) := ps_imp (ps_for hp hc hi hg hb hs) fun D σ H q => by
  obtain ⟨as0, Hs, as, ρ, os, H0, o, bs0, n, hx, k⟩ := q
  unfold sFor at hx
  cases h : xi ρ os with
  | none => rw [h] at hx; cases hx
  | some p =>
    obtain ⟨items, os1⟩ := p
    rw [h, Option.bind_some] at hx
    refine ⟨as, ρ, os, H0, items, os1, n, h, fun J Ha Hb n1 g1 w => ?_⟩
    have kk := k.step Exs.refl g1
    refine ⟨fun i m σ2 H2 => m = items.length - i ∧ i ≤ items.length ∧ ∃ as2 ρ2 os2 H2', Exs as Hb as2 ∧ En X.K as2 ρ2 os2 σ2 H2' H2 ∧ Gr as Ha Hb H2' H2 ∧ forRun xg s (items.drop i) ρ2 os2 = some o,
      ⟨items.length, by simp, Nat.zero_le _, as, ρ, os1, Ha, Exs.refl, n1, Gr.refl n1.sub, hx⟩, ?_⟩
    rintro i m σ2 H2 ⟨rfl, hi, as2, ρ2, os2, H2', e2, n2, g2, hr⟩
    by_cases hlt : i < items.length
    · refine .inr ⟨w.goes i H2 hlt (g2.e0.trans n2.sub), fun σ3 H3 => ∃ as2 ρ2 os2 H2', Exs as Hb as2 ∧ En X.K as2 ρ2 os2 σ3 H2' H3 ∧ Gr as Ha Hb H2' H3 ∧ forRun xg s (items.drop (i + 1)) ρ2 os2 = some o,
        fun σ3 H3 p3 => ⟨items.length - (i + 1), by omega, rfl, hlt, p3⟩, fun x H3 y => ?_⟩
      obtain ⟨H3', d, g3, hd, r3⟩ := w.yields i H2 x H3 H2' hlt g2.e0 n2.sub y
      have n3 := n2.grow g3
      have e3 : items.drop i = d :: items.drop (i + 1) := by
        obtain ⟨_, e⟩ := List.getElem?_eq_some_iff.mp hd
        rw [← e]
        exact List.drop_eq_getElem_cons hlt
      rw [e3] at hr
      simp only [forRun] at hr
      cases q1 : xg d ρ2 with
      | none => rw [q1] at hr; cases hr
      | some ρ3 =>
        rw [q1, Option.bind_some] at hr
        refine ⟨as2, ρ2, os2, H3', d, ρ3, n3, r3, q1, fun σ4 n4 _ => ?_⟩
        cases q2 : s ρ3 os2 with
        | none => rw [q2] at hr; cases hr
        | some ob =>
          rw [q2, Option.bind_some] at hr
          have g23 : Gr as Ha Hb H3' H3 := g2.tr0 g3
          have g23' : Gr as H0 H H3' H3 := g1.tr g23
          have e2' : Exs as H as2 := Exs.refl.trans e2 g1.kp
          refine ⟨as0, Hs, as2, ρ3, os2, H3', ob, bs0.step e2' g23'.kp, n4, q2, ?_⟩
          cases ob with
          | nx r4 w4 => exact fun as5 σ5 H5' H5 e5 n5 g5 => ⟨as5, r4, w4, H5', e2.trans e5 g23.kp, n5, g23.trans g5 e2.mem, hr⟩
          | ct r4 w4 => exact fun as5 σ5 H5' H5 e5 n5 g5 => ⟨as5, r4, w4, H5', e2.trans e5 g23.kp, n5, g23.trans g5 e2.mem, hr⟩
          | bk r4 w4 =>
            cases hr
            exact NxOk.step (H1' := H3) e2 g23 kk
          | rt d4 w4 =>
            cases hr
            exact RtOk.step (H1' := H3) e2 g23 kk
    · have e : items.drop i = [] := List.drop_eq_nil_of_le (by omega)
      rw [e] at hr
      cases hr
      have ei : i = items.length := by omega
      subst ei
      exact .inl ⟨w.stops H2 (g2.e0.trans n2.sub), kk as2 σ2 H2' H2 e2 n2 g2⟩
/-- while, with fuel -/
def whRun (t : XT) (b : SE) : Nat → List Sl → Os → Option Out
  | 0, _, _ => none
  | m + 1, ρ, os => (t ρ os).bind fun p => if p.1 = true then (b ρ p.2).bind fun o => match o with
    | .nx ρ2 w => whRun t b m ρ2 w
    | .ct ρ2 w => whRun t b m ρ2 w
    | .bk ρ2 w => some (.nx ρ2 w)
    | .rt d w => some (.rt d w)
    else some (.nx ρ p.2)
end
end DL

set_option Elab.async false
set_option linter.all false
set_option maxRecDepth 100000
set_option maxHeartbeats 4000000
namespace DL
open PySem PySem.Spec PyProof.Rows L2 Evl
section
variable {X : Cx} {fr : Option Nat} {sts : List Stmt} {s : SE} {a b e c o : Expr} {es : List Expr} {xe xa xb : XE} {xt : XT} {ra : XA} {pos p apos : Pos} {x : Str}
/-! while -/
def sWhile (fuel : Nat) (t : XT) (b : SE) : SE := fun ρ os => whRun t b fuel ρ os
theorem psx_while {fuel : Nat} (hp : PassesOwn (model X.prog X.w) X.A X.env X.xe) (hc : PXT X c xt) (hb : PSXs X fr sts s) : PSX X fr (.While c sts [] pos) (sWhile fuel xt s) := ps_imp (ps_while hp hc hb) fun D σ H q => by
  obtain ⟨as0, Hs, as, ρ, os, H0, o, bs0, n, hx, k⟩ := q
  refine ⟨fun m σ2 H2 => ∃ as2 ρ2 os2 H2', Exs as H as2 ∧ En X.K as2 ρ2 os2 σ2 H2' H2 ∧ Gr as H0 H H2' H2 ∧ whRun xt s m ρ2 os2 = some o, ⟨fuel, as, ρ, os, H0, Exs.refl, n, Gr.refl n.sub, hx⟩, ?_⟩
  rintro m σ2 H2 ⟨as2, ρ2, os2, H2', e2, n2, g2, hr⟩
  cases m with
  | zero => cases hr
  | succ m =>
    simp only [whRun] at hr
    cases q1 : xt ρ2 os2 with
    | none => rw [q1] at hr; cases hr
    | some p =>
      obtain ⟨bb, os3⟩ := p
      rw [q1, Option.bind_some] at hr
      refine ⟨as2, ρ2, os2, H2', bb, os3, n2, q1, fun H3' H3 n3 g3 => ?_⟩
      have g23 : Gr as H0 H H3' H3 := g2.trans g3 e2.mem
      cases bb with
      | false =>
        simp only [Bool.false_eq_true, if_false] at hr ⊢
        cases hr
        exact k as2 σ2 H3' H3 e2 n3 g23
      | true =>
        simp only [if_true] at hr ⊢
        cases q2 : s ρ2 os3 with
        | none => rw [q2] at hr; cases hr
        | some ob =>
          rw [q2, Option.bind_some] at hr
          refine ⟨fun σ3 H4 => ∃ as2 ρ2 os2 H2', Exs as H as2 ∧ En X.K as2 ρ2 os2 σ3 H2' H4 ∧ Gr as H0 H H2' H4 ∧ whRun xt s m ρ2 os2 = some o, fun σ3 H4 p4 => ⟨m, Nat.lt_succ_self m, p4⟩, as0, Hs, as2, ρ2, os3, H3', ob, bs0.step e2 g23.kp, n3, q2, ?_⟩
          cases ob with
          | nx r4 w4 => exact fun as5 σ5 H5' H5 e5 n5 g5 => ⟨as5, r4, w4, H5', e2.trans e5 g23.kp, n5, g23.trans g5 e2.mem, hr⟩
          | ct r4 w4 => exact fun as5 σ5 H5' H5 e5 n5 g5 => ⟨as5, r4, w4, H5', e2.trans e5 g23.kp, n5, g23.trans g5 e2.mem, hr⟩
          | bk r4 w4 =>
            cases hr
            exact NxOk.step e2 g23 k
          | rt d4 w4 =>
            cases hr
            exact RtOk.step e2 g23 k

/-! lists of one's own: read, grown, stored -/
/-- a list of one's own changes -/
theorem Gr.mut {as : List Addr} {H0 H : Hp} {a : Addr} {o : HO} (s : Ex H0 H) (h : a ∈ as) (n : H0 a = none) (t : H a ≠ none) : Gr as H0 H H0 (upd H a o) :=
  ⟨Ex.refl _, fun b u hb e => by rw [upd_ne (fun z => hb (by rw [z]; exact h))]; exact e, fun _ _ _ e _ => e, fun b hb => by
    by_cases z : b = a
    · subst z
      rw [upd_same]
      simp
    · rw [upd_ne z]
      exact hb, fun b u e => by rw [upd_ne (ne_of_none e n)]; exact s b u e⟩
theorem Own.mut {K : PySem.W.Frag} {as : List Addr} {os : Os} {H0 H : Hp} {a : Addr} {k : Nat} {vs : List V} {ds ds0 : List PyData} (w : Own K as os H0 H) (h : as[k]? = some a) (h0 : os[k]? = some (some ds0)) (r : DaAll K H0 vs ds) : Own K as (os.set k (some ds)) H0 (upd H a (.lst vs)) := by
  refine ⟨w.nd, by rw [List.length_set]; exact w.len, fun b hb => ?_, fun j b es h1 h2 => ?_⟩
  · by_cases z : b = a
    · subst z
      rw [upd_same]
      simp
    · rw [upd_ne z]
      exact w.trk b hb
  · by_cases e : k = j
    · subst e
      rw [h] at h1
      cases h1
      rw [List.getElem?_set_self (List.getElem?_eq_some_iff.mp h0).1] at h2
      cases h2
      exact ⟨(w.at_ k a ds0 h h0).1, vs, upd_same, r⟩
    · rw [List.getElem?_set_ne e] at h2
      obtain ⟨q1, us, q2, q3⟩ := w.at_ j b es h1 h2
      refine ⟨q1, us, ?_, q3⟩
      rw [upd_ne]
      · exact q2
      · intro z
        subst z
        exact e (nd_ix w.nd h h1)
theorem En.mut {K : PySem.W.Frag} {as : List Addr} {ρ : List Sl} {os : Os} {σ : L2.St} {H0 H : Hp} {a : Addr} {k : Nat} {vs : List V} {ds ds0 : List PyData} (n : En K as ρ os σ H0 H) (h : as[k]? = some a) (h0 : os[k]? = some (some ds0)) (r : DaAll K H0 vs ds) : En K as ρ (os.set k (some ds)) σ H0 (upd H a (.lst vs)) :=
  ⟨fun b u e => by rw [upd_ne (ne_of_none e (n.ow.at_ k a ds0 h h0).1)]; exact n.sub b u e, n.len, n.dat, n.ref, n.ow.mut h h0 r⟩
def ownAt (ρ : List Sl) (os : Os) (i : Nat) : Option (Nat × List PyData) := match ρ[i]? with
  | some (.o k) => match os[k]? with
    | some (some ds) => some (k, ds)
    | _ => none
  | _ => none
theorem ownAt_some {ρ : List Sl} {os : Os} {i k : Nat} {ds : List PyData} (h : ownAt ρ os i = some (k, ds)) : ρ[i]? = some (.o k) ∧ os[k]? = some (some ds) := by
  unfold ownAt at h
  split at h
  · rename_i k' h1
    split at h
    · rename_i ds' h2
      cases h
      exact ⟨h1, h2⟩
    · cases h
  · cases h
/-- x.append(e) -/
def sApp (i : Nat) (xe : XE) : SE := fun ρ os => (ownAt ρ os i).bind fun _ => (xe ρ os).bind fun p => (ownAt ρ p.2 i).bind fun q => if q.2.length < sizeLine then some (.nx ρ (p.2.set q.1 (some (q.2 ++ [p.1])))) else none
theorem psx_app {i : Nat} (h : PS X (.Expr e pos) (tDrop (tBM X.K "list" rAppend (tVar i) (tCons (teO X.K xe) tNil)))) : PSX X fr (.Expr e pos) (sApp i xe) := ps_imp h fun D σ H q => by
  obtain ⟨as0, Hs, as, ρ, os, H0, o, bs0, n, hx, k⟩ := q
  unfold sApp at hx
  cases h0 : ownAt ρ os i with
  | none => rw [h0] at hx; cases hx
  | some q0 =>
  obtain ⟨j0, ds0⟩ := q0
  rw [h0, Option.bind_some] at hx
  cases h1 : xe ρ os with
  | none => rw [h1] at hx; cases hx
  | some p =>
    obtain ⟨d, os1⟩ := p
    rw [h1, Option.bind_some] at hx
    cases h2 : ownAt ρ os1 i with
    | none => rw [h2] at hx; cases hx
    | some q =>
      obtain ⟨j, ds⟩ := q
      rw [h2, Option.bind_some] at hx
      simp only at hx
      split at hx
      · rename_i hz
        cases hx
        obtain ⟨h3, h4⟩ := ownAt_some h2
        obtain ⟨h5, h6⟩ := ownAt_some h0
        obtain ⟨adr, e1, e2⟩ := n.ref i j h3
        have ej : j0 = j := by
          rw [h3] at h5
          cases h5
          rfl
        subst ej
        have hm : adr ∈ as := List.mem_of_getElem? e1
        obtain ⟨_, vs0, q0, _⟩ := n.ow.at_ j0 adr ds0 e1 h6
        refine ⟨_, e2, .inl ⟨rfl, vs0, SqL.of q0⟩, as, ρ, os, H0, d, os1, n, h1, fun v H0' H' n1 g1 r1 => ?_⟩
        obtain ⟨q1, vs, q2, q3⟩ := n1.ow.at_ j0 adr ds e1 h4
        refine ⟨adr, vs, v, rfl, rfl, q2, by rw [q3.len]; exact hz, ?_⟩
        exact k as σ H0' _ Exs.refl (n1.mut e1 h4 (q3.app (.cons r1 .nil))) (g1.tr (Gr.mut n1.sub hm q1 (n1.ow.trk _ hm)))
      · cases hx
/-- x[j] = e -/
def sSet (i : Nat) (xi xe : XE) : SE := fun ρ os => (xe ρ os).bind fun p => (xi ρ p.2).bind fun r => match r.1 with
  | .int k => (ownAt ρ r.2 i).bind fun q => (ixN q.2.length k).map fun m => .nx ρ (r.2.set q.1 (some (q.2.set m p.1)))
  | _ => none
theorem psx_setItem {i : Nat} {xi : XE} {st : Stmt} (h : PS X st (tAsg (teO X.K xe) (gSub (tVar i) (teO X.K xi) rSetL))) : PSX X fr st (sSet i xi xe) := ps_imp h fun D σ H q => by
  obtain ⟨as0, Hs, as, ρ, os, H0, o, bs0, n, hx, k⟩ := q
  unfold sSet at hx
  cases h1 : xe ρ os with
  | none => rw [h1] at hx; cases hx
  | some p =>
    obtain ⟨d, os1⟩ := p
    rw [h1, Option.bind_some] at hx
    cases h2 : xi ρ os1 with
    | none => rw [h2] at hx; cases hx
    | some r =>
      obtain ⟨y, os2⟩ := r
      rw [h2, Option.bind_some] at hx
      cases y with
      | int kk =>
        simp only at hx
        cases h3 : ownAt ρ os2 i with
        | none => rw [h3] at hx; cases hx
        | some q =>
          obtain ⟨j, ds⟩ := q
          rw [h3, Option.bind_some] at hx
          simp only at hx
          cases h4 : ixN ds.length kk with
          | none => rw [h4] at hx; cases hx
          | some m =>
            rw [h4] at hx
            cases hx
            obtain ⟨h5, h6⟩ := ownAt_some h3
            obtain ⟨adr, e1, e2⟩ := n.ref i j h5
            have hm : adr ∈ as := List.mem_of_getElem? e1
            refine ⟨as, ρ, os, H0, d, os1, n, h1, fun v H0' H' n1 g1 r1 => ⟨_, e2, as, ρ, os1, H0', _, os2, n1, h2, fun w H0'' H'' n2 g2 r2 => ?_⟩⟩
            have ew := da_intI r2
            subst ew
            obtain ⟨q1, vs, q2, q3⟩ := n2.ow.at_ j adr ds e1 h6
            refine ⟨adr, vs, kk, m, rfl, rfl, q2, by rw [q3.len]; exact h4, ?_⟩
            exact k as σ H0'' _ Exs.refl (n2.mut e1 h6 (q3.set m (Da.mono g2.e0 _ _ r1))) ((g1.tr g2).tr (Gr.mut n2.sub hm q1 (n2.ow.trk _ hm)))
      | _ => cases hx
/-- len(x), x one's own -/
def xLenO (i : Nat) : XE := fun ρ os => (ownAt ρ os i).map fun q => (.int (q.2.length : Int), os)
theorem px_lenO {i : Nat} (h : PE X e (tCB (rLenS X.K) (tCons (tVar i) tNil))) : PX X e (xLenO i) := pe_imp h fun σ H Q q => by
  obtain ⟨as, ρ, os, H0, d, os', n, hx, k⟩ := q
  unfold xLenO at hx
  cases h2 : ownAt ρ os i with
  | none => rw [h2] at hx; cases hx
  | some q =>
    obtain ⟨j, ds⟩ := q
    rw [h2] at hx
    cases hx
    obtain ⟨h3, h4⟩ := ownAt_some h2
    obtain ⟨adr, e1, e2⟩ := n.ref i j h3
    obtain ⟨q1, vs, q2, q3⟩ := n.ow.at_ j adr ds e1 h4
    refine ⟨_, e2, adr, vs, rfl, .inl (SqL.of q2), ?_⟩
    rw [q3.len]
    exact k _ H0 H n (Gr.refl n.sub) (.int _)
/-- x[j], x one's own -/
def xIxO (i : Nat) (xi : XE) : XE := fun ρ os => (xi ρ os).bind fun r => match r.1 with
  | .int k => (ownAt ρ r.2 i).bind fun q => (atI q.2 k).map fun d => (d, r.2)
  | _ => none
theorem DaAll.atI {K : PySem.W.Frag} {H : Hp} {vs : List V} {ds : List PyData} {k : Int} {d : PyData} (h : DaAll K H vs ds) (e : L2.atI ds k = some d) : ∃ v, L2.atI vs k = some v ∧ Da K H v d := by
  unfold L2.atI at e ⊢
  rw [h.len]
  cases q : ixN ds.length k with
  | none => rw [q] at e; cases e
  | some j =>
    rw [q, Option.bind_some] at e
    obtain ⟨v, h1, h2⟩ := h.at_ e
    exact ⟨v, by rw [Option.bind_some]; exact h1, h2⟩
theorem px_ixO {i : Nat} {xi : XE} (h : PE X e (tOp (rIxL X.K) (tVar i) (teO X.K xi))) : PX X e (xIxO i xi) := pe_imp h fun σ H Q q => by
  obtain ⟨as, ρ, os, H0, d, os', n, hx, k⟩ := q
  unfold xIxO at hx
  cases h1 : xi ρ os with
  | none => rw [h1] at hx; cases hx
  | some r =>
    obtain ⟨y, os1⟩ := r
    rw [h1, Option.bind_some] at hx
    cases y with
    | int kk =>
      simp only at hx
      cases h2 : ownAt ρ os1 i with
      | none => rw [h2] at hx; cases hx
      | some q =>
        obtain ⟨j, ds⟩ := q
        rw [h2, Option.bind_some] at hx
        cases h5 : L2.atI ds kk with
        | none => rw [h5] at hx; cases hx
        | some d1 =>
          rw [h5] at hx
          cases hx
          obtain ⟨h3, h4⟩ := ownAt_some h2
          obtain ⟨adr, e1, e2⟩ := n.ref i j h3
          refine ⟨_, e2, as, ρ, os, H0, _, _, n, h1, fun v H0' H' n1 g1 r1 => ?_⟩
          have ev := da_intI r1
          subst ev
          obtain ⟨q1, vs, q2, q3⟩ := n1.ow.at_ j adr ds e1 h4
          obtain ⟨w, q4, q5⟩ := q3.atI h5
          exact ⟨adr, vs, kk, w, rfl, rfl, SqL.of q2, q4, k w H0' H' n1 g1 q5⟩
    | _ => cases hx
/-- a list of one's own becomes plain data -/
def sFrz (i : Nat) (s : SE) : SE := fun ρ os => (ownAt ρ os i).bind fun q => s (ρ.set i (.d (.list q.2))) (os.set q.1 none)
theorem to_frz {K : PySem.W.Frag} {i : Nat} {D : Ends} {σ : L2.St} {H : Hp} (q : tsO fr K (sFrz i s) D σ H) : tsO fr K s D σ H := by
  obtain ⟨as0, Hs, as, ρ, os, H0, o, bs0, n, hx, k⟩ := q
  unfold sFrz at hx
  cases h2 : ownAt ρ os i with
  | none => rw [h2] at hx; cases hx
  | some q =>
    obtain ⟨j, ds⟩ := q
    rw [h2, Option.bind_some] at hx
    obtain ⟨h3, h4⟩ := ownAt_some h2
    obtain ⟨adr, e1, e2⟩ := n.ref i j h3
    obtain ⟨q1, vs, q2, q3⟩ := n.ow.at_ j adr ds e1 h4
    have hm : adr ∈ as := List.mem_of_getElem? e1
    have sub : Ex (upd H0 adr (.lst vs)) H := fun a u e => by
      by_cases z : a = adr
      · subst z
        rw [upd_same] at e
        rw [← e]
        exact q2
      · rw [upd_ne z] at e
        exact n.sub a u e
    have g : Gr as H0 H (upd H0 adr (.lst vs)) H := ⟨Ex.new q1, fun _ _ _ e => e, fun a u m e _ => by
      rw [upd_ne (fun z => m (by rw [z]; exact hm))] at e
      exact e, fun _ h => h, sub⟩
    have n2 : En K as ρ (os.set j none) σ (upd H0 adr (.lst vs)) H := ⟨sub, n.len, fun i x h => by
      obtain ⟨v, e1, r⟩ := n.dat i x h
      exact ⟨v, e1, r.mono (Ex.new q1)⟩, n.ref, n.ow.nd, by rw [List.length_set]; exact n.ow.len, n.ow.trk, fun m b es h1 h5 => by
        by_cases z : j = m
        · subst z
          rw [List.getElem?_set_self (List.getElem?_eq_some_iff.mp h4).1] at h5
          cases h5
        · rw [List.getElem?_set_ne z] at h5
          obtain ⟨w1, us, w2, w3⟩ := n.ow.at_ m b es h1 h5
          refine ⟨?_, us, w2, w3.mono (Ex.new q1)⟩
          rw [upd_ne]
          · exact w1
          · intro y
            subst y
            exact z (nd_ix n.ow.nd e1 h1)⟩
    have n3 := n2.set i (v := .ref adr) (d := .list ds) (.lst (SqL.of upd_same) (q3.mono (Ex.new q1)))
    have es : σ.set i (some (.ref adr)) = σ := by
      refine List.ext_getElem? fun m => ?_
      by_cases z : i = m
      · subst z
        rw [List.getElem?_set_self (List.getElem?_eq_some_iff.mp e2).1]
        exact e2.symm
      · rw [List.getElem?_set_ne z]
    rw [es] at n3
    exact ⟨as0, Hs, as, _, _, _, o, bs0, n3, hx, k.step Exs.refl g⟩
theorem psx_frz {st : Stmt} (i : Nat) (h : PSX X fr st s) : PSX X fr st (sFrz i s) := ps_imp h fun _ _ _ q => to_frz q
theorem psxs_frz (i : Nat) (h : PSXs X fr sts s) : PSXs X fr sts (sFrz i s) := pss_imp h fun _ _ _ q => to_frz q
/-- return x, x one's own -/
def sRetO (n0 i : Nat) : SE := fun ρ os => (ownAt ρ os i).bind fun q => if n0 ≤ q.1 then some (.rt (.list q.2) (os.set q.1 none)) else none
theorem psx_retO {i n0 : Nat} (h : PE X e (tVar i)) : PSX X (some n0) (.Return (some e) pos) (sRetO n0 i) := ps_imp (ps_ret h) fun D σ H q => by
  obtain ⟨as0, Hs, as, ρ, os, H0, o, bs0, n, hx, k⟩ := q
  unfold sRetO at hx
  cases h2 : ownAt ρ os i with
  | none => rw [h2] at hx; cases hx
  | some q =>
    obtain ⟨j, ds⟩ := q
    rw [h2, Option.bind_some] at hx
    simp only at hx
    split at hx
    · rename_i hj
      cases hx
      obtain ⟨ds', e0, k⟩ := k
      cases e0
      obtain ⟨h3, h4⟩ := ownAt_some h2
      obtain ⟨adr, e1, e2⟩ := n.ref i j h3
      obtain ⟨q1, vs, q2, q3⟩ := n.ow.at_ j adr ds e1 h4
      refine ⟨_, e2, k adr vs as H0 H ?_ Exs.refl ⟨n.ow.nd, by rw [List.length_set]; exact n.ow.len, n.ow.trk, fun m b es h1 h5 => ?_⟩ (Gr.refl n.sub) q1 q2 q3⟩
      · obtain ⟨bb, rfl, hb⟩ := bs0.ex
        have hl := bs0.len n0 rfl
        rw [List.getElem?_append_right (by omega)] at e1
        exact hb adr (List.mem_of_getElem? e1)
      · by_cases z : j = m
        · subst z
          rw [List.getElem?_set_self (List.getElem?_eq_some_iff.mp h4).1] at h5
          cases h5
        · rw [List.getElem?_set_ne z] at h5
          exact n.ow.at_ m b es h1 h5
    · cases hx
end
end DL

set_option Elab.async false
set_option linter.all false
set_option maxRecDepth 100000
set_option maxHeartbeats 4000000
namespace DL
open PySem PySem.Spec PyProof.Rows L2 Evl
/-! ### built-ins -/
def lenD : List PyData → Option PyData
  | [.list c] => some (.int (c.length : Int))
  | [.tuple c] => some (.int (c.length : Int))
  | [.str x] => if x.length ≤ sizeLine then some (.int (x.length : Int)) else none
  | _ => none
def intD : List PyData → Option PyData
  | [.int i] => some (.int i)
  | [.bool b] => some (.int (if b then 1 else 0))
  | _ => none
def intsOf : List PyData → Option (List Int)
  | [] => some []
  | .int i :: r => (intsOf r).map (i :: ·)
  | _ => none
def boolsOf : List PyData → Option (List Bool)
  | [] => some []
  | .bool i :: r => (boolsOf r).map (i :: ·)
  | _ => none
theorem intsOf_eq : ∀ {ds : List PyData} {ns : List Int}, intsOf ds = some ns → ds = ns.map PyData.int
  | [], _, h => by cases h; rfl
  | d :: r, ns, h => by
    cases d with
    | int i =>
      simp only [intsOf] at h
      cases q : intsOf r with
      | none => rw [q] at h; cases h
      | some ms =>
        rw [q] at h
        cases h
        rw [intsOf_eq q]
        rfl
    | _ => cases h
theorem intsOf_map : ∀ ns : List Int, intsOf (ns.map PyData.int) = some ns
  | [] => rfl
  | n :: r => by
    show (intsOf (r.map PyData.int)).map (n :: ·) = _
    rw [intsOf_map r]
    rfl
theorem boolsOf_eq : ∀ {ds : List PyData} {ns : List Bool}, boolsOf ds = some ns → ds = ns.map PyData.bool
  | [], _, h => by cases h; rfl
  | d :: r, ns, h => by
    cases d with
    | bool i =>
      simp only [boolsOf] at h
      cases q : boolsOf r with
      | none => rw [q] at h; cases h
      | some ms =>
        rw [q] at h
        cases h
        rw [boolsOf_eq q]
        rfl
    | _ => cases h
theorem boolsOf_map : ∀ ns : List Bool, boolsOf (ns.map PyData.bool) = some ns
  | [] => rfl
  | n :: r => by
    show (boolsOf (r.map PyData.bool)).map (n :: ·) = _
    rw [boolsOf_map r]
    rfl
def maxL : List Int → Int
  | [] => 0
  | n :: r => r.foldl (fun a b => if a < b then b else a) n
def minL : List Int → Int
  | [] => 0
  | n :: r => r.foldl (fun a b => if b < a then b else a) n
theorem maxF_spec : ∀ (r : List Int) (n : Int), (r.foldl (fun a b => if a < b then b else a) n ∈ n :: r) ∧ ∀ y ∈ n :: r, y ≤ r.foldl (fun a b => if a < b then b else a) n
  | [], n => ⟨by simp, fun y h => by simp at h; rw [h]; exact Int.le_refl _⟩
  | m :: r, n => by
    have ih := maxF_spec r (if n < m then m else n)
    simp only [List.foldl_cons]
    refine ⟨?_, fun y h => ?_⟩
    · rcases List.mem_cons.mp ih.1 with z | z
      · rw [z]
        split <;> simp
      · exact List.mem_cons_of_mem _ (List.mem_cons_of_mem _ z)
    · have h0 := ih.2 _ (List.mem_cons_self)
      rcases List.mem_cons.mp h with z | z
      · rw [z]
        exact Int.le_trans (by split <;> omega) h0
      · rcases List.mem_cons.mp z with z | z
        · rw [z]
          exact Int.le_trans (by split <;> omega) h0
        · exact ih.2 y (List.mem_cons_of_mem _ z)
theorem minF_spec : ∀ (r : List Int) (n : Int), (r.foldl (fun a b => if b < a then b else a) n ∈ n :: r) ∧ ∀ y ∈ n :: r, r.foldl (fun a b => if b < a then b else a) n ≤ y
  | [], n => ⟨by simp, fun y h => by simp at h; rw [h]; exact Int.le_refl _⟩
  | m :: r, n => by
    have ih := minF_spec r (if m < n then m else n)
    simp only [List.foldl_cons]
    refine ⟨?_, fun y h => ?_⟩
    · rcases List.mem_cons.mp ih.1 with z | z
      · rw [z]
        split <;> simp
      · exact List.mem_cons_of_mem _ (List.mem_cons_of_mem _ z)
    · have h0 := ih.2 _ (List.mem_cons_self)
      rcases List.mem_cons.mp h with z | z
      · rw [z]
        exact Int.le_trans h0 (by split <;> omega)
      · rcases List.mem_cons.mp z with z | z
        · rw [z]
          exact Int.le_trans h0 (by split <;> omega)
        · exact ih.2 y (List.mem_cons_of_mem _ z)
theorem maxL_mem {ns : List Int} (h : 0 < ns.length) : maxL ns ∈ ns := by
  cases ns with
  | nil => cases h
  | cons n r => exact (maxF_spec r n).1
theorem maxL_ge {ns : List Int} {y : Int} (h : y ∈ ns) : y ≤ maxL ns := by
  cases ns with
  | nil => cases h
  | cons n r => exact (maxF_spec r n).2 y h
theorem minL_mem {ns : List Int} (h : 0 < ns.length) : minL ns ∈ ns := by
  cases ns with
  | nil => cases h
  | cons n r => exact (minF_spec r n).1
theorem minL_le {ns : List Int} {y : Int} (h : y ∈ ns) : minL ns ≤ y := by
  cases ns with
  | nil => cases h
  | cons n r => exact (minF_spec r n).2 y h
def maxD : List PyData → Option PyData
  | [.int a, .int b] => some (.int (if b > a then b else a))
  | [.list c] => (intsOf c).bind fun ns => if 0 < ns.length then some (.int (maxL ns)) else none
  | _ => none
def minD : List PyData → Option PyData
  | [.int a, .int b] => some (.int (if b < a then b else a))
  | [.list c] => (intsOf c).bind fun ns => if 0 < ns.length then some (.int (minL ns)) else none
  | _ => none
def sumD : List PyData → Option PyData
  | [.list c] => (intsOf c).map fun ns => .int ns.sum
  | _ => none
def allD : List PyData → Option PyData
  | [.list c] => (boolsOf c).map fun ns => .bool (ns.all id)
  | _ => none
def anyD : List PyData → Option PyData
  | [.list c] => (boolsOf c).map fun ns => .bool (ns.any id)
  | _ => none
def plainRepr (d : PyData) : Bool := match d with
  | .dict [] => true
  | d => !d.hasDict
def reprD : List PyData → Option PyData
  | [d] => if d.showable = true ∧ d.depth ≤ 64 ∧ d.shown.length ≤ sizeLine ∧ plainRepr d = true then some (.str d.shown) else none
  | _ => none
def typeN : PyData → String
  | .none => "NoneType"
  | .bool _ => "bool"
  | .int _ => "int"
  | .str _ => "str"
  | .list _ => "list"
  | .tuple _ => "tuple"
  | .dict _ => "dict"
def isiD (T : String) (d : PyData) : Option PyData := (kitB (typeN d) T).map PyData.bool
section
variable {X : Cx} {fr : Option Nat} {a b e c o : Expr} {es : List Expr} {xe xa xb : XE} {ra : XA} {pos p p2 apos : Pos} {x : Str}
theorem callC {f : Value} {g : List PyData → Option PyData}
    (h : ∀ (pins : List (Addr × Obj)) (s : Shared) (σ : L2.St) (H H0 : Hp) (xs : List V) (us : List Value) (Q : VK) (ds : List PyData) (z : PyData), Inv X pins σ H s → Vals xs us → Ex H0 H → DaAll X.K H0 xs ds → g ds = some z → (∀ w H0' H', Gr [] H0 H H0' H' → Da X.K H0' w z → Q w H') →
      wpAny (model X.prog X.w) X.A (call f us) (EP X pins σ Q) X.xe s) : CallR X f (rC X.K g) := by
  intro pins s σ H xs us Q I r q
  obtain ⟨H0, ds, z, h1, h2, h3, h4⟩ := q
  exact h pins s σ H H0 xs us Q ds z I r h1 h2 h3 h4
theorem da1 {K : PySem.W.Frag} {H : Hp} {xs : List V} {d : PyData} (h : DaAll K H xs [d]) : ∃ x, xs = [x] ∧ Da K H x d := by
  cases h with
  | cons h1 h2 =>
    cases h2
    exact ⟨_, rfl, h1⟩
theorem da2 {K : PySem.W.Frag} {H : Hp} {xs : List V} {d e : PyData} (h : DaAll K H xs [d, e]) : ∃ x y, xs = [x, y] ∧ Da K H x d ∧ Da K H y e := by
  cases h with
  | cons h1 h2 =>
    obtain ⟨y, rfl, h3⟩ := da1 h2
    exact ⟨_, y, rfl, h1, h3⟩
theorem c_len : CallR X (.builtin "len") (rC X.K lenD) := callC fun pins s σ H H0 xs us Q ds z I r s0 ha hf q => by
  unfold lenD at hf
  split at hf
  · cases hf
    obtain ⟨x, rfl, h⟩ := da1 ha
    cases h with
    | lst h1 h2 => exact call_len_seq pins s σ H _ us Q I r ⟨_, _, rfl, .inl (ex_l s0 h1), by rw [h2.len]; exact q _ H0 H (Gr.refl s0) (.int _)⟩
  · cases hf
    obtain ⟨x, rfl, h⟩ := da1 ha
    cases h with
    | tup h1 h2 => exact call_len_seq pins s σ H _ us Q I r ⟨_, _, rfl, .inr (ex_t s0 h1), by rw [h2.len]; exact q _ H0 H (Gr.refl s0) (.int _)⟩
  · split at hf
    · cases hf
      obtain ⟨x, rfl, h⟩ := da1 ha
      cases h
      exact call_len_str pins s σ H _ us Q I r ⟨_, rfl, by assumption, q _ H0 H (Gr.refl s0) (.int _)⟩
    · cases hf
  · cases hf
theorem c_int : CallR X (.type "int") (rC X.K intD) := callC fun pins s σ H H0 xs us Q ds z I r s0 ha hf q => by
  unfold intD at hf
  split at hf
  · cases hf
    obtain ⟨x, rfl, h⟩ := da1 ha
    cases h
    exact call_int1 pins s σ H _ us Q I r (.inl ⟨_, rfl, q _ H0 H (Gr.refl s0) (.int _)⟩)
  · cases hf
    obtain ⟨x, rfl, h⟩ := da1 ha
    cases h
    exact call_int1 pins s σ H _ us Q I r (.inr ⟨_, rfl, q _ H0 H (Gr.refl s0) (.int _)⟩)
  · cases hf
theorem c_max (hc : X.calm = true) : CallR X (.builtin "max") (rC X.K maxD) := callC fun pins s σ H H0 xs us Q ds z I r s0 ha hf q => by
  unfold maxD at hf
  split at hf
  · cases hf
    obtain ⟨x, y, rfl, h1, h2⟩ := da2 ha
    cases h1
    cases h2
    exact call_max2 hc pins s σ H _ us Q I r ⟨_, _, rfl, q _ H0 H (Gr.refl s0) (.int _)⟩
  · rename_i c
    obtain ⟨x, rfl, h⟩ := da1 ha
    cases h4 : intsOf c with
    | none => rw [h4] at hf; cases hf
    | some ns =>
      rw [h4, Option.bind_some] at hf
      split at hf
      · rename_i hz
        cases hf
        have e := intsOf_eq h4
        subst e
        cases h with
        | lst h1 h2 =>
          have e2 := h2.ints
          subst e2
          refine cr_max hc pins s σ H _ us Q I r ⟨_, ns, rfl, ex_l s0 h1, hz, fun m hm hle => ?_⟩
          have e3 : m = maxL ns := Int.le_antisymm (maxL_ge hm) (hle _ (maxL_mem hz))
          rw [e3]
          exact q _ H0 H (Gr.refl s0) (.int _)
      · cases hf
  · cases hf
theorem c_min (hc : X.calm = true) : CallR X (.builtin "min") (rC X.K minD) := callC fun pins s σ H H0 xs us Q ds z I r s0 ha hf q => by
  unfold minD at hf
  split at hf
  · cases hf
    obtain ⟨x, y, rfl, h1, h2⟩ := da2 ha
    cases h1
    cases h2
    exact call_min2 hc pins s σ H _ us Q I r ⟨_, _, rfl, q _ H0 H (Gr.refl s0) (.int _)⟩
  · rename_i c
    obtain ⟨x, rfl, h⟩ := da1 ha
    cases h4 : intsOf c with
    | none => rw [h4] at hf; cases hf
    | some ns =>
      rw [h4, Option.bind_some] at hf
      split at hf
      · rename_i hz
        cases hf
        have e := intsOf_eq h4
        subst e
        cases h with
        | lst h1 h2 =>
          have e2 := h2.ints
          subst e2
          refine cr_min hc pins s σ H _ us Q I r ⟨_, ns, rfl, ex_l s0 h1, hz, fun m hm hle => ?_⟩
          have e3 : m = minL ns := Int.le_antisymm (hle _ (minL_mem hz)) (minL_le hm)
          rw [e3]
          exact q _ H0 H (Gr.refl s0) (.int _)
      · cases hf
  · cases hf
theorem c_sum (hc : X.calm = true) : CallR X (.builtin "sum") (rC X.K sumD) := callC fun pins s σ H H0 xs us Q ds z I r s0 ha hf q => by
  unfold sumD at hf
  split at hf
  · rename_i c
    obtain ⟨x, rfl, h⟩ := da1 ha
    cases h4 : intsOf c with
    | none => rw [h4] at hf; cases hf
    | some ns =>
      rw [h4] at hf
      cases hf
      have e := intsOf_eq h4
      subst e
      cases h with
      | lst h1 h2 =>
        have e2 := h2.ints
        subst e2
        exact cr_sum hc pins s σ H _ us Q I r ⟨_, ns, rfl, ex_l s0 h1, q _ H0 H (Gr.refl s0) (.int _)⟩
  · cases hf
theorem c_all (hc : X.calm = true) : CallR X (.builtin "all") (rC X.K allD) := callC fun pins s σ H H0 xs us Q ds z I r s0 ha hf q => by
  unfold allD at hf
  split at hf
  · rename_i c
    obtain ⟨x, rfl, h⟩ := da1 ha
    cases h4 : boolsOf c with
    | none => rw [h4] at hf; cases hf
    | some ns =>
      rw [h4] at hf
      cases hf
      have e := boolsOf_eq h4
      subst e
      cases h with
      | lst h1 h2 =>
        have e2 := h2.bools
        subst e2
        exact cr_all hc pins s σ H _ us Q I r ⟨_, ns, rfl, ex_l s0 h1, q _ H0 H (Gr.refl s0) (.bl _)⟩
  · cases hf
theorem c_any (hc : X.calm = true) : CallR X (.builtin "any") (rC X.K anyD) := callC fun pins s σ H H0 xs us Q ds z I r s0 ha hf q => by
  unfold anyD at hf
  split at hf
  · rename_i c
    obtain ⟨x, rfl, h⟩ := da1 ha
    cases h4 : boolsOf c with
    | none => rw [h4] at hf; cases hf
    | some ns =>
      rw [h4] at hf
      cases hf
      have e := boolsOf_eq h4
      subst e
      cases h with
      | lst h1 h2 =>
        have e2 := h2.bools
        subst e2
        exact cr_any hc pins s σ H _ us Q I r ⟨_, ns, rfl, ex_l s0 h1, q _ H0 H (Gr.refl s0) (.bl _)⟩
  · cases hf
theorem c_repr (hg : X.A.guards = some []) (hu : X.A.units + 65 < cLine) : CallR X (.builtin "repr") (rC X.K reprD) := callC fun pins s σ H H0 xs us Q ds z I r s0 ha hf q => by
  unfold reprD at hf
  split at hf
  · rename_i d
    split at hf
    · rename_i hc
      obtain ⟨h1, h2, h3, h4⟩ := hc
      cases hf
      obtain ⟨x, rfl, h⟩ := da1 ha
      obtain ⟨u, rfl, rx⟩ := vals1 r
      have fin : ∀ tk, EP X pins σ Q (.str d.shown tk) { s with toks := s.toks + 1 } := fun tk => ⟨.str d.shown, H, I.tok _, ⟨tk, rfl⟩, q _ H0 H (Gr.refl s0) (.str _)⟩
      have onref : ∀ a, u = Value.ref a → (∃ as, Reads s.heap u d as ∧ (d.hasDict = true → sysModules ∉ as)) → wpAny (model X.prog X.w) X.A (call (.builtin "repr") [u]) (EP X pins σ Q) X.xe s := fun a eu ⟨as, r1, r2⟩ => by
        subst eu
        exact repr_of_reads' r1 h1 r2 hg (by omega) (fun _ _ e => e) (fun h' tk tk2 hk => ⟨.str d.shown, H, I.kept (t' := tk2) hk, ⟨tk, rfl⟩, q _ H0 H (Gr.refl s0) (.str _)⟩) h3
      cases h with
      | non =>
        cases rx
        exact PySem.P.repr_of_none (fin _)
      | bl b =>
        cases rx
        exact PySem.P.repr_of_bool (fin _)
      | int i =>
        obtain ⟨t, rfl⟩ := rx
        exact PySem.P.repr_of_int (of_decide_eq_true h1) (fin _)
      | str y =>
        obtain ⟨t, rfl⟩ := rx
        exact PySem.P.repr_of_str (fin _) h3
      | @lst a vs es h5 h6 =>
        cases rx
        obtain ⟨as, r1⟩ := Da.reads I _ _ _ ((Da.lst h5 h6).mono s0) rfl
        refine onref a rfl ⟨as, r1, fun hd => ?_⟩
        simp [plainRepr] at h4
        rw [h4] at hd
        cases hd
      | @tup a vs es h5 h6 =>
        cases rx
        obtain ⟨as, r1⟩ := Da.reads I _ _ _ ((Da.tup h5 h6).mono s0) rfl
        refine onref a rfl ⟨as, r1, fun hd => ?_⟩
        simp [plainRepr] at h4
        rw [h4] at hd
        cases hd
      | @dct a h5 =>
        cases rx
        obtain ⟨r1, r2⟩ := rd_dict I (s0 _ _ h5)
        exact onref a rfl ⟨_, r1, fun _ => by simpa using r2.symm⟩
    · cases hf
  · cases hf
/-- f(..), f a built-in | a built-in type -/
theorem px_bi {id : String} {g : List PyData → Option PyData} (hc : CallR X (.builtin id) (rC X.K g)) (hg : Gl X x) (hm : X.mg x = none) (hv : bootBuiltins x = some (.builtin id)) (ha : PXA X (e :: es) ra) (hn : x ≠ "__name__" := by decide) (hdb : (x == ("__debug__" : Str)) = false := by decide)
    (he : starEach (e :: es) X.env = (false, eval e X.env) :: starEach es X.env := by rfl) (hpl : (backTo pos (starEach es X.env)).any (·.1) = false := by rfl) : PX X (.Call (.Name x p) (e :: es) [] pos) (xCall g ra) := pe_imp (pe_callB hc hg hm hv ha hn hdb he hpl) fun _ _ _ q => to_call q
theorem px_ty {T : String} {g : List PyData → Option PyData} (hc : CallR X (.type T) (rC X.K g)) (hg : Gl X x) (hm : X.mg x = none) (hv : bootBuiltins x = some (.type T)) (ha : PXA X (e :: es) ra) (hn : x ≠ "__name__" := by decide) (hdb : (x == ("__debug__" : Str)) = false := by decide)
    (he : starEach (e :: es) X.env = (false, eval e X.env) :: starEach es X.env := by rfl) (hpl : (backTo pos (starEach es X.env)).any (·.1) = false := by rfl) : PX X (.Call (.Name x p) (e :: es) [] pos) (xCall g ra) := pe_imp (pe_callTy hc hg hm hv ha hn hdb he hpl) fun _ _ _ q => to_call q
/-- isinstance(e, T) -/
theorem da_ty {K : PySem.W.Frag} {H0 H : Hp} {v : V} {d : PyData} (s : Ex H0 H) (h : Da K H0 v d) : TyX K H v (.type (typeN d)) := by
  cases h with
  | non => exact .base .non
  | bl b => exact .base (.bl b)
  | int i => exact .base (.int i)
  | str x => exact .base (.str x)
  | lst h1 h2 =>
    rcases h1 with (h1 | ⟨o, h1⟩) | ⟨o, its, n, h1, h3, _⟩
    · exact .base (.lst (s _ _ h1))
    · exact .base (.frz (s _ _ h1))
    · exact .kList h1 h3
  | tup h1 h2 =>
    rcases h1 with (h1 | ⟨o, h1⟩) | ⟨o, its, n, h1, h3, _⟩
    · exact .base (.tup (s _ _ h1))
    · exact .fTuple (s _ _ h1)
    · exact .kTuple h1 h3
  | dct h1 => exact .base (.dK (s _ _ h1))
theorem px_isi {T : Str} {t : String} (hg : Gl X "isinstance") (hm : X.mg "isinstance" = none) (ha : PX X e xe) (hgT : Gl X T) (hmT : X.mg T = none) (hvT : bootBuiltins T = some (.type t)) (hnT : T ≠ "__name__" := by decide) (hdT : (T == ("__debug__" : Str)) = false := by decide)
    (he : starEach [e, .Name T p2] X.env = (false, eval e X.env) :: starEach [.Name T p2] X.env := by rfl) (hs2 : starEach [.Name T p2] X.env = (false, eval (.Name T p2) X.env) :: starEach [] X.env := by rfl) (hpl : (backTo pos (starEach [.Name T p2] X.env)).any (·.1) = false := by rfl) :
    PX X (.Call (.Name "isinstance" p) [e, .Name T p2] [] pos) (xUn (isiD t) xe) :=
  pe_imp (pe_callB call_isi hg hm (by decide +kernel) (pa_cons ha (pa_cons (pe_bltn (v := .ty t) hgT hmT hvT rfl hnT hdT) pa_nil hs2) he) (by decide) (by decide) he hpl) fun σ H Q q => by
    obtain ⟨as, ρ, os, H0, d, os', n, hx, k⟩ := q
    obtain ⟨x, h1, h3⟩ := xUn_some hx
    refine ⟨as, ρ, os, H0, x, os', n, h1, fun v H0' H' n1 g1 r1 => ?_⟩
    unfold isiD at h3
    cases h4 : kitB (typeN x) t with
    | none => rw [h4] at h3; cases h3
    | some b =>
      rw [h4] at h3
      cases h3
      exact ⟨v, .ty t, _, _, b, rfl, .ty t, da_ty n1.sub r1, kit_ty h4, k _ H0' H' n1 g1 (.bl b)⟩
/-- e.bit_length() -/
def bitsD : PyData → Option PyData
  | .int i => some (.int (Builtin.Int.intBits i : Nat))
  | _ => none
theorem px_bits (h : PE X e (tBits (teO X.K xe))) : PX X e (xUn bitsD xe) := pe_imp h fun σ H Q q => by
  obtain ⟨as, ρ, os, H0, d, os', n, hx, k⟩ := q
  obtain ⟨x, h1, h3⟩ := xUn_some hx
  refine ⟨as, ρ, os, H0, x, os', n, h1, fun v H0' H' n1 g1 r1 => ?_⟩
  cases r1 with
  | int i =>
    cases h3
    exact ⟨i, rfl, k _ H0' H' n1 g1 (.int _)⟩
  | _ => cases h3
/-- e[i] -/
def ixD : PyData → PyData → Option PyData
  | .list c, .int i => atI c i
  | .tuple c, .int i => atI c i
  | .str z, .int i => if z.length ≤ sizeLine then (atI z.cps.toList i).map fun c => .str ⟨#[c]⟩ else none
  | _, _ => none
theorem ixr_D : IxR X (rD X.K ixD) := by
  intro value slice pins s σ H x y v u Q I rx ry q hs
  obtain ⟨H0, d, e, z, s0, hd, he, hf, q⟩ := q
  refine ix_seq value slice pins s σ H x y v u Q I rx ry ?_ hs
  cases he with
  | int i =>
    cases hd with
    | lst h1 h2 =>
      obtain ⟨w, h3, h4⟩ := h2.atI hf
      exact .inl ⟨_, _, i, w, rfl, rfl, ex_l s0 h1, h3, q w H0 H (Gr.refl s0) h4⟩
    | tup h1 h2 =>
      obtain ⟨w, h3, h4⟩ := h2.atI hf
      exact .inr (.inl ⟨_, _, i, w, rfl, rfl, ex_t s0 h1, h3, q w H0 H (Gr.refl s0) h4⟩)
    | str z =>
      simp only [ixD] at hf
      split at hf
      · rename_i hz
        cases h5 : atI z.cps.toList i with
        | none => rw [h5] at hf; cases hf
        | some c =>
          rw [h5] at hf
          cases hf
          exact .inr (.inr ⟨z, i, c, rfl, rfl, hz, h5, q _ H0 H (Gr.refl s0) (.str _)⟩)
      · cases hf
    | _ => cases hf
  | _ => cases hd <;> cases hf
theorem px_ix (ha : PX X a xa) (hb : PX X b xb) (hs : PlainIx b) : PX X (.Subscript a b pos) (xOp ixD xa xb) := pe_imp (pe_ix ixr_D ha hb hs) fun _ _ _ q => to_op q
/-- e[lo:hi] of a list -/
abbrev XO := List Sl → Os → Option (Option Int × Os)
def toO (K : PySem.W.Frag) (x : XO) : TO := fun σ H Q => ∃ as ρ os H0 r os', En K as ρ os σ H0 H ∧ x ρ os = some (r, os') ∧ ∀ H0' H', En K as ρ os' σ H0' H' → Gr as H0 H H0' H' → Q r H'
abbrev PXO (X : Cx) (e : Option Expr) (x : XO) : Prop := PO X e (toO X.K x)
def oNone : XO := fun _ os => some (none, os)
def oSome (xe : XE) : XO := fun ρ os => (xe ρ os).bind fun p => match p.1 with
  | .int i => some (some i, p.2)
  | _ => none
theorem po_imp {e : Option Expr} {t t' : TO} (h : PO X e t) (k : ∀ σ H Q, t' σ H Q → t σ H Q) : PO X e t' := ⟨fun pins s σ H Q I q => h.run pins s σ H Q I (k _ _ _ q)⟩
theorem pxo_none : PXO X none oNone := po_imp po_none fun σ H Q q => by
  obtain ⟨as, ρ, os, H0, r, os', n, hx, k⟩ := q
  cases hx
  exact k H0 H n (Gr.refl n.sub)
theorem pxo_some (h : PX X e xe) : PXO X (some e) (oSome xe) := po_imp (po_some h) fun σ H Q q => by
  obtain ⟨as, ρ, os, H0, r, os', n, hx, k⟩ := q
  unfold oSome at hx
  cases h1 : xe ρ os with
  | none => rw [h1] at hx; cases hx
  | some p =>
    obtain ⟨d, os1⟩ := p
    rw [h1, Option.bind_some] at hx
    cases d with
    | int i =>
      cases hx
      refine ⟨as, ρ, os, H0, _, _, n, h1, fun v H0' H' n1 g1 r1 => ?_⟩
      cases r1
      exact ⟨i, rfl, k H0' H' n1 g1⟩
    | _ => cases hx
def cutD {α : Type} (xs : List α) (lo hi : Option Int) : List α := (xs.drop (HT.sIx xs.length 0 lo)).take (HT.sIx xs.length xs.length hi - HT.sIx xs.length 0 lo)
theorem DaAll.cut {K : PySem.W.Frag} {H : Hp} {vs : List V} {ds : List PyData} (h : DaAll K H vs ds) (lo hi : Option Int) : DaAll K H (cutV vs lo hi) (cutD ds lo hi) := by
  unfold cutV cutD
  rw [h.len]
  exact (h.drop _).take _
def xSl (xe : XE) (lo hi : XO) : XI := fun ρ os => (xe ρ os).bind fun p => (lo ρ p.2).bind fun l => (hi ρ l.2).bind fun u => match p.1 with
  | .list ds => some (cutD ds l.1 u.1, u.2)
  | _ => none
theorem pxf_slice {lo hi : Option Expr} {xl xh : XO} (he : PX X e xe) (hl : PXO X lo xl) (hu : PXO X hi xh) : PXF X (.Subscript e (.Slice lo hi none p2) pos) (xSl xe xl xh) := pe_imp (pe_slice sl_list he hl hu) fun σ H Q q => by
  obtain ⟨as, ρ, os, H0, ds, os', n, hx, k⟩ := q
  unfold xSl at hx
  cases h1 : xe ρ os with
  | none => rw [h1] at hx; cases hx
  | some p =>
    obtain ⟨d, os1⟩ := p
    rw [h1, Option.bind_some] at hx
    cases h2 : xl ρ os1 with
    | none => simp only [h2] at hx; cases hx
    | some l =>
      simp only [h2, Option.bind_some] at hx
      cases h3 : xh ρ l.2 with
      | none => rw [h3] at hx; cases hx
      | some u =>
        rw [h3, Option.bind_some] at hx
        cases d with
        | list cs =>
          cases hx
          refine ⟨as, ρ, os, H0, _, os1, n, h1, fun v H0' H' n1 g1 r1 => ⟨as, ρ, os1, H0', l.1, l.2, n1, h2, fun H2' H2 n2 g2 => ⟨as, ρ, l.2, H2', u.1, u.2, n2, h3, fun H3' H3 n3 g3 => ?_⟩⟩⟩
          have r3 := Da.mono (g2.e0.trans g3.e0) _ _ r1
          cases r3 with
          | lst h4 h5 =>
            refine ⟨_, _, rfl, ex_l n3.sub h4, fun p hp => ?_⟩
            have h0 : H3' p = none := fresh_back n3.sub hp
            have nD : p ∉ as := fun z => n3.ow.trk p z hp
            have gg := (g1.tr g2).tr g3
            refine k p _ H3' _ ?_ (n3.away nD (fun a h => upd_ne h) (by rw [upd_same]; simp) h0) ⟨gg.e0, fun a o h e => ?_, gg.nw, fun a h => ?_, fun a o e => ?_⟩ h0 nD upd_same (h5.cut _ _)
            · cases z : H p with
              | none => rfl
              | some u => exact absurd hp (gg.kp p (by rw [z]; simp))
            · have e2 := gg.e1 a o h e
              rw [upd_ne (ne_of_none e2 hp)]
              exact e2
            · have e2 := gg.kp a h
              rw [upd_ne (fun z => e2 (by rw [z]; exact hp))]
              exact e2
            · have e2 := gg.sub a o e
              rw [upd_ne (ne_of_none e2 hp)]
              exact e2
        | _ => cases hx
/-- a new list from a display, from + -/
theorem fresh_up {as : List Addr} {H0 H H3' H3 : Hp} {p : Addr} {o : HO} (gg : Gr as H0 H H3' H3) (hp : H3 p = none) : Gr as H0 H H3' (upd H3 p o) ∧ H p = none := by
  refine ⟨⟨gg.e0, fun a o h e => ?_, gg.nw, fun a h => ?_, fun a o e => ?_⟩, ?_⟩
  · have e2 := gg.e1 a o h e
    rw [upd_ne (ne_of_none e2 hp)]
    exact e2
  · have e2 := gg.kp a h
    rw [upd_ne (fun z => e2 (by rw [z]; exact hp))]
    exact e2
  · have e2 := gg.sub a o e
    rw [upd_ne (ne_of_none e2 hp)]
    exact e2
  · cases z : H p with
    | none => rfl
    | some u => exact absurd hp (gg.kp p (by rw [z]; simp))
def fLst (ra : XA) : XI := fun ρ os => (ra ρ os).bind fun p => (datas p.1).bind fun ds => if ds.length ≤ sizeLine then some (ds, p.2) else none
theorem pxf_lst (h : PXA X es ra) : PXF X (.List es pos) (fLst ra) := pe_imp (pe_lst h) fun σ H Q q => by
  obtain ⟨as, ρ, os, H0, ds, os', n, hx, k⟩ := q
  unfold fLst at hx
  cases h1 : ra ρ os with
  | none => rw [h1] at hx; cases hx
  | some p =>
    obtain ⟨ss, os1⟩ := p
    rw [h1, Option.bind_some] at hx
    cases h2 : datas ss with
    | none => simp only [h2] at hx; cases hx
    | some es =>
      simp only [h2, Option.bind_some] at hx
      split at hx
      · rename_i hz
        cases hx
        refine ⟨as, ρ, os, H0, ss, os', n, h1, fun vs H1 H1' n1 g1 r1 => ?_⟩
        have r2 := args_datas r1 h2
        refine ⟨by rw [r2.len]; exact hz, fun p hp => ?_⟩
        have h0 : H1 p = none := fresh_back n1.sub hp
        have nD : p ∉ as := fun z => n1.ow.trk p z hp
        obtain ⟨g2, e2⟩ := fresh_up (o := .lst vs) g1 hp
        exact k p _ H1 _ e2 (n1.away nD (fun a h => upd_ne h) (by rw [upd_same]; simp) h0) g2 h0 nD upd_same r2
      · cases hx
end
end DL

set_option Elab.async false
set_option linter.all false
set_option maxRecDepth 100000
set_option maxHeartbeats 4000000
namespace DL
open PySem PySem.Spec PyProof.Rows L2 Evl

/-! ### defs: the promise "hands back what the mirror gives", where no builtin of the guarded kind runs around -/
structure Rm (k : Nat) (A : Around) : Prop where
  room : Room k A
  gd : A.guards = some []
theorem Rm.mono {j k : Nat} {A : Around} (r : Rm k A) (h : j ≤ k) : Rm j A := ⟨r.room.mono h, r.gd⟩
structure FnG (P : Program) (w : World) (K : PySem.W.Frag) (mg : Str → Option Value) (base : Heap) (k : Nat) (f : Addr) (fd : FuncData) (n : Nat) (ps : List Str) (sp : Sp) : Prop where
  pl : ps.length = n
  len : ∀ vs H Q E, sp vs H Q E → vs.length = n
  run : ∀ (A : Around) (outer : List Env) (s : Shared) (H : Hp) (args : Args) (us : List Value) (vs : List V) (Q : VK) (E : XK), Rm k A → Env0 P w K mg base A outer s H → BindsTo s fd args (ps.zip us) → Vals vs us → sp vs H Q E →
    codeAny (model P w) A (.call (.ref f) args) (CR CX0 outer P w H s Q E) s
theorem FnG.mono {P : Program} {w : World} {K : PySem.W.Frag} {mg : Str → Option Value} {base : Heap} {j k n : Nat} {f : Addr} {fd : FuncData} {ps : List Str} {sp : Sp} (F : FnG P w K mg base j f fd n ps sp) (h : j ≤ k) : FnG P w K mg base k f fd n ps sp :=
  ⟨F.pl, F.len, fun A outer s H args us vs Q E hr => F.run A outer s H args us vs Q E (hr.mono h)⟩

abbrev XM := List Sl → Os → Option (PyData × Os)
abbrev XMF := List Sl → Os → Option (List PyData × Os)
def spM (K : PySem.W.Frag) (n : Nat) (M : XM) : Sp := fun vs H Q _ => vs.length = n ∧ ∃ as ss os H0 d os', Ex H0 H ∧ Own K as os H0 H ∧ ArgsOk K as H0 vs ss ∧ M ss os = some (d, os') ∧
  ∀ v H0' H', Own K as os' H0' H' → Gr as H0 H H0' H' → Da K H0' v d → Q v H'
def spF (K : PySem.W.Frag) (n : Nat) (M : XMF) : Sp := fun vs H Q _ => vs.length = n ∧ ∃ as ss os H0 ds os', Ex H0 H ∧ Own K as os H0 H ∧ ArgsOk K as H0 vs ss ∧ M ss os = some (ds, os') ∧
  ∀ p vs H0' H', H p = none → Own K as os' H0' H' → Gr as H0 H H0' H' → H0' p = none → H' p = some (.lst vs) → DaAll K H0' vs ds → Q (.ref p) H'
def mOf (n N : Nat) (s : SE) : XM := fun ss os => if ss.length = n then (s (ss ++ List.replicate (N - n) .u) os).bind fun o => match o with
  | .rt d w => some (d, w.take os.length)
  | .nx _ w => some (.none, w.take os.length)
  | _ => none
  else none
def mOfF (n N : Nat) (s : Nat → SE) : XMF := fun ss os => if ss.length = n then (s os.length (ss ++ List.replicate (N - n) .u) os).bind fun o => match o with
  | .rt (.list ds) w => some (ds, w.take os.length)
  | _ => none
  else none
section
variable {P : Program} {w : World} {K : PySem.W.Frag} {mg : Str → Option Value} {base : Heap}
theorem args_len {as : List Addr} {H0 : Hp} : ∀ {vs : List V} {ss : List Sl}, ArgsOk K as H0 vs ss → vs.length = ss.length
  | [], [], _ => rfl
  | _ :: _, [], h => h.elim
  | [], _ :: _, h => h.elim
  | _ :: vs, _ :: ss, h => by rw [List.length_cons, List.length_cons, args_len h.2]
theorem args_at {as : List Addr} {H0 : Hp} : ∀ {vs : List V} {ss : List Sl} {i : Nat} {s : Sl}, ArgsOk K as H0 vs ss → ss[i]? = some s → ∃ v, vs[i]? = some v ∧ ArgOk K as H0 v s
  | [], [], _, _, _, h => by simp at h
  | _ :: _, [], _, _, h, _ => h.elim
  | [], _ :: _, _, _, h, _ => h.elim
  | v :: vs, s :: ss, 0, _, h, e => by
    simp at e
    subst e
    exact ⟨v, rfl, h.1⟩
  | v :: vs, s :: ss, i + 1, _, h, e => by
    obtain ⟨u, h1, h2⟩ := args_at (i := i) h.2 (by simpa using e)
    exact ⟨u, by simpa using h1, h2⟩
/-- the names at the entry -/
theorem en_start {as : List Addr} {H0 H : Hp} {vs : List V} {ss : List Sl} {os : Os} {N : List Str} {n : Nat} (hs : Ex H0 H) (ow : Own K as os H0 H) (ha : ArgsOk K as H0 vs ss) (hn : ss.length = n) (hN : n ≤ N.length) :
    En K as (ss ++ List.replicate (N.length - n) .u) os (L2.start N vs) H0 H := by
  have hl := args_len ha
  refine ⟨hs, ?_, fun i x h => ?_, fun i k h => ?_, ow⟩
  · unfold L2.start
    simp
    omega
  · by_cases hi : i < ss.length
    · rw [List.getElem?_append_left hi] at h
      obtain ⟨v, h1, h2⟩ := args_at ha h
      refine ⟨v, ?_, h2⟩
      unfold L2.start
      rw [List.getElem?_append_left (by simp; omega), List.getElem?_map, h1]
      rfl
    · rw [List.getElem?_append_right (by omega), List.getElem?_replicate] at h
      split at h <;> cases h
  · by_cases hi : i < ss.length
    · rw [List.getElem?_append_left hi] at h
      obtain ⟨v, h1, a, h2, h3⟩ := args_at ha h
      subst h3
      refine ⟨a, h2, ?_⟩
      unfold L2.start
      rw [List.getElem?_append_left (by simp; omega), List.getElem?_map, h1]
      rfl
    · rw [List.getElem?_append_right (by omega), List.getElem?_replicate] at h
      split at h <;> cases h
theorem Own.cut {as as' : List Addr} {os' : Os} {H H0' H' : Hp} (e : Exs as H as') (w : Own K as' os' H0' H') : Own K as (os'.take as.length) H0' H' := by
  obtain ⟨bs, rfl, _⟩ := e
  have hl := w.len
  have hnd := w.nd
  rw [List.nodup_append] at hnd
  refine ⟨hnd.1, ?_, fun a ha => w.trk a (List.mem_append_left _ ha), fun k a ds h1 h2 => ?_⟩
  · rw [List.length_take]
    simp at hl
    omega
  · have hk := (List.getElem?_eq_some_iff.mp h1).1
    rw [List.getElem?_take_of_lt hk] at h2
    exact w.at_ k a ds (by rw [List.getElem?_append_left hk]; exact h1) h2
/-- THE RULE for a def, by its body -/
theorem fn_g {x qual : Str} {st : Stmt} {f : Addr} {fd : FuncData} {N ps : List Str} {k n : Nat} {sp : Sp} (F : Fun K x qual st f fd) (S : FnScope N ps (defScope st)) (pl : ps.length = n) (len : ∀ vs H Q E, sp vs H Q E → vs.length = n)
    (hbody : ∀ (cdv : Value) (A : Around) (outer : List Env) (s : Shared) (H : Hp) (vs : List V) (Q : VK) (E : XK), Rm k (A.deeper (envOfC qual (defScope st) s.heap.objs.size f cdv)) → sp vs H Q E →
      ∃ t, PSs (cxOf CX0 P w K mg base N qual (defScope st) f cdv A outer s H E).nox (defBody st) t ∧ t { nx := fun _ H' => Q .non H', rt := Q } (L2.start N vs) H) : FnG P w K mg base (k + 1) f fd n ps sp := by
  obtain ⟨oc, od, kV, doc, pm, an, cdv, ct, osl, rfl, lk, hcd⟩ := F.ex
  refine ⟨pl, len, fun A outer s H args us vs Q E hr e0 hb r hsp => ?_⟩
  have hl := len _ _ _ _ hsp
  have KX : K.In s.heap := e0.mod.kin.keeps fun b o e => (e0.bs b o e).1
  have lim : s.heap.NoLimit := e0.mod.nolimit.keeps fun b o e => (e0.bs b o e).1
  have hkind : ∀ y ∈ ps.zip us, (defScope st).names.lookup y.1 = some .local ∨ ((defScope st).names.lookup y.1 = some .cell ∧ ((cellsFrom (s.heap.objs.size + 1) (defScope st).names []).lookup y.1).isSome = true) := fun ⟨n, v⟩ hy =>
    (S.par n (List.of_mem_zip hy).1).imp id fun q => ⟨q, PySem.W.cellsFrom_some _ _ _ (.inl q)⟩
  refine codeAny_call_function hr.room.depth (KX _ _ lk) rfl S.co S.gen rfl (PySem.W.codeRec_of KX hcd) (hb _ _ _ _ ?_)
  refine wpAny_newFunctionEnv_cells S.kind hkind fun env he s1 x => ?_
  subst he
  refine ⟨lim.keeps x.toInCall.keep, codeAny_func ?_⟩
  obtain ⟨t, ht, hq⟩ := hbody cdv A outer s H vs Q E ⟨hr.room.deeper _, hr.gd⟩ hsp
  have I := inv_start (CX := CX0) (qual := qual) (E := E) S hr.room.hd e0 (by rw [pl]; exact hl) r x
  refine wpAny_mono (ht.nox.run [] s1 (L2.start N vs) H _ I hq) (fun fl s' hs => ?_) fun e s' hs => hs
  cases fl with
  | ret u =>
    obtain ⟨v, σ', H', J, rv, q⟩ := hs
    exact ⟨v, H', J.os, J.bare, J.base, J.hok, rv, q⟩
  | next =>
    obtain ⟨σ', H', J, q⟩ := hs
    exact ⟨.non, H', J.os, J.bare, J.base, J.hok, rfl, q⟩
  | brk => exact hs.elim fun _ h => h.elim fun _ h => h.2.elim
  | cont => exact hs.elim fun _ h => h.elim fun _ h => h.2.elim
theorem bs_start {as : List Addr} {H : Hp} : Bs none as H as H := ⟨fun n h => (nomatch h), Exs.refl, fun _ h => h⟩
theorem fn_m {x qual : Str} {st : Stmt} {f : Addr} {fd : FuncData} {N ps : List Str} {k : Nat} {sM : SE} (F : Fun K x qual st f fd) (S : FnScope N ps (defScope st))
    (hbody : ∀ (cdv : Value) (A : Around) (outer : List Env) (s : Shared) (H : Hp) (E : XK), Rm k (A.deeper (envOfC qual (defScope st) s.heap.objs.size f cdv)) →
      PSXs (cxOf CX0 P w K mg base N qual (defScope st) f cdv A outer s H E).nox none (defBody st) sM) : FnG P w K mg base (k + 1) f fd ps.length ps (spM K ps.length (mOf ps.length N.length sM)) := by
  refine fn_g F S rfl (fun vs H Q E h => h.1) fun cdv A outer s H vs Q E hr h => ⟨_, hbody cdv A outer s H E hr, ?_⟩
  obtain ⟨hlen, as, ss, os, H0, d, os', h1, h2, h3, h4, h5⟩ := h
  have hpl : ps.length ≤ N.length := by have := congrArg List.length S.pre; rw [List.length_take] at this; omega
  unfold mOf at h4
  split at h4
  · rename_i hn
    cases q : sM (ss ++ List.replicate (N.length - ps.length) .u) os with
    | none => rw [q] at h4; cases h4
    | some o =>
      rw [q, Option.bind_some] at h4
      refine ⟨as, H, as, _, os, H0, o, bs_start, en_start h1 h2 h3 hn hpl, q, ?_⟩
      cases o with
      | rt d2 w2 =>
        cases h4
        exact fun v as' H0' H' e2 n2 g2 r2 => h5 v H0' H' (by rw [← h2.len]; exact Own.cut e2 n2) g2 r2
      | nx r2 w2 =>
        cases h4
        exact fun as' σ' H0' H' e2 n2 g2 => h5 .non H0' H' (by rw [← h2.len]; exact Own.cut e2 n2.ow) g2 .non
      | _ => cases h4
  · cases h4
theorem fn_f {x qual : Str} {st : Stmt} {f : Addr} {fd : FuncData} {N ps : List Str} {k : Nat} {sM : Nat → SE} (F : Fun K x qual st f fd) (S : FnScope N ps (defScope st))
    (hbody : ∀ (n0 : Nat) (cdv : Value) (A : Around) (outer : List Env) (s : Shared) (H : Hp) (E : XK), Rm k (A.deeper (envOfC qual (defScope st) s.heap.objs.size f cdv)) →
      PSXs (cxOf CX0 P w K mg base N qual (defScope st) f cdv A outer s H E).nox (some n0) (defBody st) (sM n0)) : FnG P w K mg base (k + 1) f fd ps.length ps (spF K ps.length (mOfF ps.length N.length sM)) := by
  refine fn_g F S rfl (fun vs H Q E h => h.1) fun cdv A outer s H vs Q E hr h => ?_
  obtain ⟨hlen, as, ss, os, H0, ds, os', h1, h2, h3, h4, h5⟩ := h
  refine ⟨_, hbody os.length cdv A outer s H E hr, ?_⟩
  have hpl : ps.length ≤ N.length := by have := congrArg List.length S.pre; rw [List.length_take] at this; omega
  unfold mOfF at h4
  split at h4
  · rename_i hn
    cases q : sM os.length (ss ++ List.replicate (N.length - ps.length) .u) os with
    | none => rw [q] at h4; cases h4
    | some o =>
      rw [q, Option.bind_some] at h4
      refine ⟨as, H, as, _, os, H0, o, ⟨fun n hn => by cases hn; exact h2.len, Exs.refl, fun _ h => h⟩, en_start h1 h2 h3 hn hpl, q, ?_⟩
      cases o with
      | rt d2 w2 =>
        cases d2 with
        | list es =>
          cases h4
          exact ⟨_, rfl, fun p vs as' H0' H' hp e2 n2 g2 r1 r2 r3 => h5 p vs H0' H' hp (by rw [← h2.len]; exact Own.cut e2 n2) g2 r1 r2 r3⟩
        | _ => cases h4
      | _ => cases h4
  · cases h4
end

/-! ### calls of defs -/
def xFn (M : XM) (ra : XA) : XE := fun ρ os => (ra ρ os).bind fun p => M p.1 p.2
def fFn (M : XMF) (ra : XA) : XI := fun ρ os => (ra ρ os).bind fun p => M p.1 p.2
theorem En.call {K : PySem.W.Frag} {as : List Addr} {ρ : List Sl} {os os' : Os} {σ : L2.St} {H0 H H0' H' : Hp} (n : En K as ρ os σ H0 H) (w : Own K as os' H0' H') (g : Gr as H0 H H0' H') : En K as ρ os' σ H0' H' :=
  ⟨g.sub, n.len, fun i x h => by
    obtain ⟨v, e1, r⟩ := n.dat i x h
    exact ⟨v, e1, Da.mono g.e0 _ _ r⟩, n.ref, w⟩
section
variable {X : Cx} {k n : Nat} {f : Addr} {fd : FuncData} {ps ks : List Str} {M : XM} {MF : XMF} {x : Str} {p pos : Pos} {e : Expr} {es : List Expr} {ra : XA} {kws : List Keyword} {sp : Sp}
theorem run_g {pins : List (Addr × Obj)} {σ : L2.St} {H : Hp} {s : Shared} {Q : VK} {us : List Value} {vs : List V} {args : Args} (F : FnG X.prog X.w X.K X.mg X.base k f fd n ps sp) (hr : Rm k X.A) (hb : BindsTo s fd args (ps.zip us))
    (I : Inv X pins σ H s) (r : Vals vs us) (h : sp vs H Q E0) : wpAny (model X.prog X.w) X.A (call (.ref f) args.pos args.kw) (EP X pins σ Q) X.xe s := by
  refine wpAny_call (codeAny_mono (F.run X.A X.stack s H args us vs Q E0 hr I.env0 hb r h) fun r s' hq => ?_)
  cases r with
  | error e => exact hq.elim
  | ok fl =>
    cases fl with
    | ret u => exact I.after hq
    | _ => exact hq.elim
def tCallG (sp : Sp) (t : TA) : TE := fun σ H Q => t σ H fun vs H1 => sp vs H1 Q E0
theorem pe_callG (F : FnG X.prog X.w X.K X.mg X.base k f fd n ps sp) (hr : Rm k X.A) (hg : Gl X x) (hm : X.mg x = some (.ref f)) (hk : PySem.W.keepIn X.K (.ref f) = true) (hb : Binds X.K fd ps []) {t : TA}
    (ha : PA X (e :: es) t) (hdb : (x == ("__debug__" : Str)) = false := by decide) (he : starEach (e :: es) X.env = (false, eval e X.env) :: starEach es X.env := by rfl) (hpl : (backTo pos (starEach es X.env)).any (·.1) = false := by rfl) :
    PE X (.Call (.Name x p) (e :: es) [] pos) (tCallG sp t) := by
  refine ⟨fun pins s σ H Q I h => ?_⟩
  refine wpAny_Call_Name_kw (ld_glob I hg hm ?_ hdb)
  refine PySem.W.callWith_K (h₀ := X.base) I.ok.mod.kin hk (thn (ha.run pos pins s σ H _ I h) fun us s1 ⟨vs, H1, I1, r, q⟩ => ⟨I1.kIn, ?_⟩) he hpl
  have hl : us.length = ps.length := by rw [← r.length, F.pl]; exact F.len _ _ _ _ q
  refine run_g (args := ⟨us, []⟩) F hr ?_ I1 r q
  have := hb s1 us I1.kIn (by rw [List.append_nil]; exact hl)
  rw [List.append_nil] at this
  exact this
theorem pe_callG0 (F : FnG X.prog X.w X.K X.mg X.base k f fd n ps sp) (hr : Rm k X.A) (hg : Gl X x) (hm : X.mg x = some (.ref f)) (hk : PySem.W.keepIn X.K (.ref f) = true) (hb : Binds X.K fd ps []) (hdb : (x == ("__debug__" : Str)) = false := by decide) :
    PE X (.Call (.Name x p) [] [] pos) (tCallG sp tNil) := by
  refine ⟨fun pins s σ H Q I h => ?_⟩
  refine wpAny_Call_Name_kw (ld_glob I hg hm ?_ hdb)
  have hl : ([] : List Value).length = ps.length := by rw [F.pl]; exact F.len _ _ _ _ h
  refine PySem.W.callWith_K0 I.kIn hk (run_g (args := ⟨[], []⟩) F hr ?_ I .nil h)
  have := hb s [] I.kIn (by simpa using hl)
  simpa using this
/-- all by keywords, in the order ks; pm puts them in the parameters' order -/
structure KwBinds (fd : FuncData) (ps ks : List Str) (pm : {α : Type} → List α → List α) : Prop where
  to : ∀ (s : Shared) (ws : List Value), ws.length = ks.length → BindsTo s fd ⟨[], ks.zip ws⟩ (ps.zip (pm ws))
  rel : ∀ {zs : List V} {ws : List Value}, Vals zs ws → Vals (pm zs) (pm ws)
  arg : ∀ {K : PySem.W.Frag} {as : List Addr} {H0 : Hp} {zs : List V} {ss : List Sl}, ArgsOk K as H0 zs ss → ArgsOk K as H0 (pm zs) (pm ss)
def tCallKG (sp : Sp) (m : Nat) (pm : List V → List V) (t : TA) : TE := fun σ H Q => t σ H fun vs H1 => vs.length = m ∧ sp (pm vs) H1 Q E0
theorem pe_callKG {pm : {α : Type} → List α → List α} {m : Nat} (F : FnG X.prog X.w X.K X.mg X.base k f fd n ps sp) (hr : Rm k X.A) (hg : Gl X x) (hm : X.mg x = some (.ref f)) (hk : PySem.W.keepIn X.K (.ref f) = true) (hb : KwBinds fd ps ks pm) {t : TA} (hkm : ks.length = m)
    (hkw : PK X kws t) (hall : (backToKw pos (keywordEach kws X.env)).all (·.1.isSome) = true := by rfl) (hks : (backToKw pos (keywordEach kws X.env)).filterMap (·.1) = ks := by rfl) (hdb : (x == ("__debug__" : Str)) = false := by decide)
    (hpl : ((backTo pos (starEach [] X.env)).any (·.1) || (backToKw pos (keywordEach kws X.env)).any (·.1.isNone)) = false := by rfl) : PE X (.Call (.Name x p) [] kws pos) (tCallKG sp m pm t) := by
  refine ⟨fun pins s σ H Q I h => ?_⟩
  refine wpAny_Call_Name_kw (ld_glob I hg hm ?_ hdb)
  refine PySem.W.callWith_KW0 (h₀ := X.base) I.ok.mod.kin hk hall (thn (hkw.run pos pins s σ H _ I h) fun ws s1 ⟨zs, H1, I1, rz, hz, q⟩ => ⟨I1.kIn, ?_⟩) hpl
  rw [hks]
  exact run_g (args := ⟨[], ks.zip ws⟩) F hr (hb.to s1 ws (by rw [← rz.length, hz, hkm])) I1 (hb.rel rz) q
theorem to_fn {K : PySem.W.Frag} {σ : L2.St} {H : Hp} {Q : VK} (hl : ∀ ρ os ss os', ra ρ os = some (ss, os') → ss.length = n) (q : teO K (xFn M ra) σ H Q) : tCallG (spM K n M) (taO K ra) σ H Q := by
  obtain ⟨as, ρ, os, H0, d, os', n0, hx, k⟩ := q
  unfold xFn at hx
  cases h1 : ra ρ os with
  | none => rw [h1] at hx; cases hx
  | some p =>
    obtain ⟨ss, os1⟩ := p
    rw [h1, Option.bind_some] at hx
    exact ⟨as, ρ, os, H0, ss, os1, n0, h1, fun vs H1 H1' n1 g1 r1 => ⟨by rw [args_len r1]; exact hl _ _ _ _ h1, as, ss, os1, H1, d, os', n1.sub, n1.ow, r1, hx, fun v H2 H2' w2 g2 r2 => k v H2 H2' (n1.call w2 g2) (g1.tr g2) r2⟩⟩
theorem to_fnf {K : PySem.W.Frag} {σ : L2.St} {H : Hp} {Q : VK} (hl : ∀ ρ os ss os', ra ρ os = some (ss, os') → ss.length = n) (q : teF K (fFn MF ra) σ H Q) : tCallG (spF K n MF) (taO K ra) σ H Q := by
  obtain ⟨as, ρ, os, H0, d, os', n0, hx, k⟩ := q
  unfold fFn at hx
  cases h1 : ra ρ os with
  | none => rw [h1] at hx; cases hx
  | some p =>
    obtain ⟨ss, os1⟩ := p
    rw [h1, Option.bind_some] at hx
    refine ⟨as, ρ, os, H0, ss, os1, n0, h1, fun vs H1 H1' n1 g1 r1 => ⟨by rw [args_len r1]; exact hl _ _ _ _ h1, as, ss, os1, H1, d, os', n1.sub, n1.ow, r1, hx, fun p vs H2 H2' hp w2 g2 r2 r3 r4 => ?_⟩⟩
    refine k p vs H2 H2' ?_ (n1.call w2 g2) (g1.tr g2) r2 (fun z => n1.ow.trk p z hp) r3 r4
    cases z : H p with
    | none => rfl
    | some u => exact absurd hp (g1.kp p (by rw [z]; simp))
theorem to_fnk {K : PySem.W.Frag} {σ : L2.St} {H : Hp} {Q : VK} {m : Nat} {pm : {α : Type} → List α → List α} (hb : KwBinds fd ps ks pm) (hl : ∀ ρ os ss os', ra ρ os = some (ss, os') → ss.length = m ∧ (pm ss).length = n) (q : teO K (xFn (fun ss => M (pm ss)) ra) σ H Q) : tCallKG (spM K n M) m pm (taO K ra) σ H Q := by
  obtain ⟨as, ρ, os, H0, d, os', n0, hx, k⟩ := q
  unfold xFn at hx
  cases h1 : ra ρ os with
  | none => rw [h1] at hx; cases hx
  | some p =>
    obtain ⟨ss, os1⟩ := p
    rw [h1, Option.bind_some] at hx
    obtain ⟨l1, l2⟩ := hl _ _ _ _ h1
    exact ⟨as, ρ, os, H0, ss, os1, n0, h1, fun vs H1 H1' n1 g1 r1 => ⟨by rw [args_len r1]; exact l1, by rw [args_len (hb.arg r1)]; exact l2, as, pm ss, os1, H1, d, os', n1.sub, n1.ow, hb.arg r1, hx, fun v H2 H2' w2 g2 r2 => k v H2 H2' (n1.call w2 g2) (g1.tr g2) r2⟩⟩
theorem px_fn (F : FnG X.prog X.w X.K X.mg X.base k f fd n ps (spM X.K n M)) (hr : Rm k X.A) (hg : Gl X x) (hm : X.mg x = some (.ref f)) (hk : PySem.W.keepIn X.K (.ref f) = true) (hb : Binds X.K fd ps []) (ha : PXA X (e :: es) ra)
    (hl : ∀ ρ os ss os', ra ρ os = some (ss, os') → ss.length = n) (hdb : (x == ("__debug__" : Str)) = false := by decide) (he : starEach (e :: es) X.env = (false, eval e X.env) :: starEach es X.env := by rfl) (hpl : (backTo pos (starEach es X.env)).any (·.1) = false := by rfl) :
    PX X (.Call (.Name x p) (e :: es) [] pos) (xFn M ra) := pe_imp (pe_callG F hr hg hm hk hb ha hdb he hpl) fun _ _ _ q => to_fn hl q
theorem pxf_fn (F : FnG X.prog X.w X.K X.mg X.base k f fd n ps (spF X.K n MF)) (hr : Rm k X.A) (hg : Gl X x) (hm : X.mg x = some (.ref f)) (hk : PySem.W.keepIn X.K (.ref f) = true) (hb : Binds X.K fd ps []) (ha : PXA X (e :: es) ra)
    (hl : ∀ ρ os ss os', ra ρ os = some (ss, os') → ss.length = n) (hdb : (x == ("__debug__" : Str)) = false := by decide) (he : starEach (e :: es) X.env = (false, eval e X.env) :: starEach es X.env := by rfl) (hpl : (backTo pos (starEach es X.env)).any (·.1) = false := by rfl) :
    PXF X (.Call (.Name x p) (e :: es) [] pos) (fFn MF ra) := pe_imp (pe_callG F hr hg hm hk hb ha hdb he hpl) fun _ _ _ q => to_fnf hl q
theorem px_fnk {m : Nat} {pm : {α : Type} → List α → List α} (F : FnG X.prog X.w X.K X.mg X.base k f fd n ps (spM X.K n M)) (hr : Rm k X.A) (hg : Gl X x) (hm : X.mg x = some (.ref f)) (hk : PySem.W.keepIn X.K (.ref f) = true) (hb : KwBinds fd ps ks pm) (hkm : ks.length = m)
    (hkw : PK X kws (taO X.K ra)) (hl : ∀ ρ os ss os', ra ρ os = some (ss, os') → ss.length = m ∧ (pm ss).length = n) (hall : (backToKw pos (keywordEach kws X.env)).all (·.1.isSome) = true := by rfl) (hks : (backToKw pos (keywordEach kws X.env)).filterMap (·.1) = ks := by rfl) (hdb : (x == ("__debug__" : Str)) = false := by decide)
    (hpl : ((backTo pos (starEach [] X.env)).any (·.1) || (backToKw pos (keywordEach kws X.env)).any (·.1.isNone)) = false := by rfl) : PX X (.Call (.Name x p) [] kws pos) (xFn (fun ss => M (pm ss)) ra) :=
  pe_imp (pe_callKG F hr hg hm hk hb hkm hkw hall hks hdb hpl) fun _ _ _ q => to_fnk hb hl q
/-- a fresh one is data, too -/
theorem px_fnf (F : FnG X.prog X.w X.K X.mg X.base k f fd n ps (spF X.K n MF)) (hr : Rm k X.A) (hg : Gl X x) (hm : X.mg x = some (.ref f)) (hk : PySem.W.keepIn X.K (.ref f) = true) (hb : Binds X.K fd ps []) (ha : PXA X (e :: es) ra)
    (hl : ∀ ρ os ss os', ra ρ os = some (ss, os') → ss.length = n) (hdb : (x == ("__debug__" : Str)) = false := by decide) (he : starEach (e :: es) X.env = (false, eval e X.env) :: starEach es X.env := by rfl) (hpl : (backTo pos (starEach es X.env)).any (·.1) = false := by rfl) :
    PX X (.Call (.Name x p) (e :: es) [] pos) (xF (fFn MF ra)) := px_of_f (pxf_fn F hr hg hm hk hb ha hl hdb he hpl)
/-- keyword values -/
theorem pk_imp {t t' : TA} (h : PK X kws t) (k : ∀ σ H Q, t' σ H Q → t σ H Q) : PK X kws t' := ⟨fun pos pins s σ H Q I q => h.run pos pins s σ H Q I (k _ _ _ q)⟩
theorem pxk_nil : PK X [] (taO X.K xaNil) := pk_imp pk_nil fun σ H Q q => by
  obtain ⟨as, ρ, os, H0, d, os', n, hx, k⟩ := q
  cases hx
  exact k [] H0 H n (Gr.refl n.sub) True.intro
theorem pxk_d {nm : Option Str} {kpos : Pos} {xa : XE} (ha : PX X e xa) (hr : PK X kws (taO X.K ra)) : PK X (⟨nm, e, kpos⟩ :: kws) (taO X.K (xaD xa ra)) := pk_imp (pk_cons ha hr) fun σ H Q q => by
  obtain ⟨as, ρ, os, H0, d, os', n, hx, k⟩ := q
  unfold xaD at hx
  cases h1 : xa ρ os with
  | none => rw [h1] at hx; cases hx
  | some p =>
    rw [h1, Option.bind_some] at hx
    cases h2 : ra ρ p.2 with
    | none => rw [h2] at hx; cases hx
    | some q =>
      rw [h2] at hx
      cases hx
      refine ⟨as, ρ, os, H0, p.1, p.2, n, h1, fun v H0' H' n1 g1 r1 => ⟨as, ρ, p.2, H0', q.1, q.2, n1, h2, fun vs H2 H2' n2 g2 r2 => ?_⟩⟩
      exact k (v :: vs) H2 H2' n2 (g1.tr g2) ⟨Da.mono g2.e0 _ _ r1, r2⟩
end
/-- the number of arguments -/
theorem xaNil_len {ρ : List Sl} {os os' : Os} {ss : List Sl} (h : xaNil ρ os = some (ss, os')) : ss.length = 0 := by cases h; rfl
theorem xaD_len {xa : XE} {ra : XA} {m : Nat} (hr : ∀ ρ os ss os', ra ρ os = some (ss, os') → ss.length = m) (ρ : List Sl) (os : Os) (ss : List Sl) (os' : Os) (h : xaD xa ra ρ os = some (ss, os')) : ss.length = m + 1 := by
  unfold xaD at h
  cases h1 : xa ρ os with
  | none => rw [h1] at h; cases h
  | some p =>
    rw [h1, Option.bind_some] at h
    cases h2 : ra ρ p.2 with
    | none => rw [h2] at h; cases h
    | some q =>
      rw [h2] at h
      cases h
      rw [List.length_cons, hr _ _ _ _ h2]
theorem xaO_len {i : Nat} {ra : XA} {m : Nat} (hr : ∀ ρ os ss os', ra ρ os = some (ss, os') → ss.length = m) (ρ : List Sl) (os : Os) (ss : List Sl) (os' : Os) (h : xaO i ra ρ os = some (ss, os')) : ss.length = m + 1 := by
  unfold xaO at h
  split at h
  · cases h2 : ra ρ os with
    | none => rw [h2] at h; cases h
    | some q =>
      rw [h2] at h
      cases h
      rw [List.length_cons, hr _ _ _ _ h2]
  · cases h
end DL
namespace DL
open PySem PySem.Spec PyProof.Rows L2 Evl
/-! ### the law's own end -/
theorem end_g {P : Program} {w : World} {K : PySem.W.Frag} {mg mb : Str → Option Value} {k : Nat} {fa a : Addr} {fd : FuncData} {x : Str} {M : XM} {s1 : Shared} {vs : List Value} {ns : List Int}
    (KX : K.In s1.heap) (hns : s1.heap.Ns mainGlobals mg) (hb : s1.heap.Ns builtinsNs mb) (hbb : ∀ x : Str, x ≠ "__name__" → mb x = bootBuiltins x) (hlim : s1.heap.NoLimit) (hg : s1.gens = #[])
    (ha : s1.heap.get? a = some { cls := .type "list", data := .seq vs.toArray }) (hi : IntsAre vs ns) (hl : ns.length ≤ sizeLine) (hr : Rm k callerA)
    (F : ∀ base : Heap, K.In base → base.Ns mainGlobals mg → FnG P w K mg base k fa fd 1 [x] (spM K 1 M)) (hbind : ∀ (s : Shared) (u : Value), BindsTo s fd ⟨[u], []⟩ [(x, u)])
    (hM : ∃ w', M [.d (.list (ns.map PyData.int))] [] = some (.bool true, w')) :
    codeAny (model P w) callerA (.call (.ref fa) ⟨[.ref a], []⟩) (fun r s' => r = .ok (.ret (.bool true)) ∧ OldK s1.heap s'.heap ∧ s'.os = s1.os ∧ AllBare s'.gens) s1 := by
  have rv := vals_ints hi
  have lenV := hi.length
  have core : ∀ H : Hp, Only H → SqL K H a (ns.map V.int) → HOk P w H s1.heap → (∀ b, H b ≠ none → b = a) → (H a ≠ none → K.lookup a = none) →
      codeAny (model P w) callerA (.call (.ref fa) ⟨[.ref a], []⟩) (fun r s' => r = .ok (.ret (.bool true)) ∧ OldK s1.heap s'.heap ∧ s'.os = s1.os ∧ AllBare s'.gens) s1 := by
    intro H hO hS hok hA hK
    have other : ∀ {b : Addr} {o : Obj}, s1.heap.get? b = some o → (b = a → H a ≠ none → False) → H b = none := fun {b o} e n => by
      cases q : H b with
      | none => rfl
      | some u =>
        have e' := hA b (by rw [q]; simp)
        exact (n e' (by rw [← e', q]; simp)).elim
    have noA : ∀ {b : Addr} {o : Obj} {es : Array DictEntry} {ep : Nat}, s1.heap.get? b = some o → o.data = .dict es ep → H b = none := fun {b o es ep} e d => other e fun e' _ => by
      subst e'
      rw [ha] at e
      cases e
      have d' : Data.seq vs.toArray _ = Data.dict es ep := d
      cases d'
    have nsK : ∀ {b : Addr} {m : Str → Option Value}, s1.heap.Ns b m → (hidT s1.heap H).Ns b m := fun {b m} ⟨o, es, ep, e, d, r⟩ => ⟨o, es, ep, hidT_get e (noA e d), d, r⟩
    have hKb : K.In (hidT s1.heap H) := fun b o e => hidT_get (KX b o e) (other (KX b o e) fun e' hn => by
      subst e'
      rw [hK hn] at e
      cases e)
    obtain ⟨mc, l1, l2⟩ := hlim
    have hM1 : Mod K mg (hidT s1.heap H) := ⟨hKb, nsK hns, ⟨mb, nsK hb, hbb⟩, ⟨mc, nsK l1, l2⟩⟩
    have e0 : Env0 P w K mg (hidT s1.heap H) callerA [] s1 H := ⟨rfl, hM1, fun b o e => of_hidT e, Nat.le_of_eq (hidT_size _ _), trivial, fun b hb => absurd (show b ∈ ([] : List Addr) from hb) (by simp), hok, .of_eq hg⟩
    obtain ⟨w', hw⟩ := hM
    have hsp : spM K 1 M [.ref a] H (fun v _ => v = .bl true) E0 :=
      ⟨rfl, [], [.d (.list (ns.map PyData.int))], [], H, _, w', Ex.refl H, ⟨List.nodup_nil, rfl, fun _ h => absurd h (by simp), fun _ _ _ h => by simp at h⟩, ⟨.lst hS (DaAll.of_ints ns), True.intro⟩, hw, fun v H0' H' _ _ r => by cases r; rfl⟩
    refine codeAny_mono ((F _ hKb (nsK hns)).run callerA [] s1 H ⟨[.ref a], []⟩ [.ref a] [.ref a] _ _ hr e0 (hbind s1 (.ref a)) (.cons rfl .nil) hsp) fun r s' h => ?_
    cases r with
    | error e => exact h.elim
    | ok fl =>
      cases fl with
      | ret u =>
        obtain ⟨v, H', os, bare, un, hok', r', q⟩ := h
        subst q
        obtain rfl : u = Value.bool true := r'
        refine ⟨rfl, OldK.of_keep fun b o e => ?_, os, bare⟩
        cases q : H b with
        | none => exact un.keep b o e q (fun z => absurd (show b ∈ ([] : List Addr) from z) (by simp)) (by simp)
        | some u =>
          rcases hO b with z | ⟨ob, xs, z⟩
          · rw [q] at z
            cases z
          · obtain ⟨e1, _⟩ := hok b _ z
            obtain ⟨e2, _⟩ := hok' b _ (un.frzs b ob _ z)
            rw [e] at e1
            cases e1
            exact e2
      | _ => exact h.elim
  cases hk : K.lookup a with
  | some o =>
    have e := KX a o hk
    rw [ha] at e
    cases e
    exact core (fun _ => none) (fun _ => .inl rfl) (.inr ⟨_, vs.toArray, _, hk, rfl, rfl, rfl, by rw [List.size_toArray, lenV]; exact hl, by simpa using rv⟩) (fun b u z => nomatch z) (fun b z => absurd rfl z) fun z => absurd rfl z
  | none =>
    have at_ : ∀ {b : Addr} {u : HO}, (if b = a then some (HO.frz { cls := .type "list", data := .seq vs.toArray } (.lst (ns.map V.int))) else none) = some u → b = a ∧ u = .frz { cls := .type "list", data := .seq vs.toArray } (.lst (ns.map V.int)) := fun {b u} z => by
      split at z
      · cases z
        exact ⟨by assumption, rfl⟩
      · cases z
    refine core (fun b => if b = a then some (.frz { cls := .type "list", data := .seq vs.toArray } (.lst (ns.map V.int))) else none) (fun b => ?_) (.inl (.inr ⟨_, if_pos rfl⟩)) (fun b u z => ?_) (fun b z => ?_) fun _ => hk
    · by_cases hb : b = a
      · exact .inr ⟨_, _, if_pos hb⟩
      · exact .inl (if_neg hb)
    · obtain ⟨rfl, rfl⟩ := at_ z
      exact ⟨ha, by rw [List.length_map]; exact hl, vs, _, rv, ha⟩
    · by_cases hb : b = a
      · exact hb
      · exact absurd (if_neg hb) z
theorem walk_g {l : PySem.W.OpenLaw} {n k : Nat} {q : Program} {loose : List Str} {XP : (Str → Option Value) → Heap → Prop} {YP : World → Heap → Prop} {d : DefRec} {K : Params → PySem.W.Frag} {M : XM} {x : Str}
    (hn : l.most = some n) (hn2 : n ≤ sizeLine) (hdf : d.params.defaults = []) (hr : Rm k callerA) (hY : ∀ (w : World) (h : Heap), YP w h → (K w.params).In h)
    (F : ∀ (w : World) (mg : Str → Option Value) (fa : Addr) (h : Heap), (K w.params).In h → h.Ns mainGlobals mg → mg d.name = some (.ref fa) →
      ∃ fd : FuncData, (∀ (s : Shared) (u : Value), BindsTo s fd ⟨[u], []⟩ [(x, u)]) ∧ ∀ base : Heap, (K w.params).In base → base.Ns mainGlobals mg → FnG l.prog w (K w.params) mg base k fa fd 1 [x] (spM (K w.params) 1 M))
    (hM : ∀ ns : List Int, ns.length ≤ n → ∃ w', M [.d (.list (ns.map PyData.int))] [] = some (.bool true, w')) :
    PySem.W.WalkO q loose XP YP l.row.toRowW d [] (fun f vs => PySem.call f vs) := by
  refine Att.attach_call hn hdf fun w s0 s1 mg mb fa o pm cd doc a vs ns G Y ho hd hcd hmg hobj hints hlen hg => ?_
  have KX := hY w _ Y
  obtain ⟨fd, hb, hF⟩ := F w mg fa _ KX G.T.g hmg
  exact end_g KX G.T.g G.T.b G.T.builtins G.T.nolimit hg hobj hints (Nat.le_trans hlen hn2) hr hF hb (hM ns hlen)
end DL

set_option Elab.async false
set_option linter.all false
set_option maxRecDepth 100000
set_option maxHeartbeats 4000000
namespace DL
open PySem PySem.Spec PyProof.Rows L2 Evl
section
variable {X : Cx} {fr : Option Nat} {e a b : Expr} {xe xa xb : XE} {ra : XA} {pos : Pos} {st : Stmt} {i j l : Nat}
/-- {} -/
theorem px_dct : PX X (.Dict [] [] pos) (xC (.dict [])) := pe_imp pe_dnewK fun σ H Q q => by
  obtain ⟨as, ρ, os, H0, d, os', n, hx, k⟩ := q
  cases hx
  intro p hp
  exact k _ _ _ (n.grow (Gr.new n.sub hp)) (Gr.mono (Gr.new n.sub hp) (fun _ h => absurd h (by simp))) (.dct upd_same)
/-- y = [..] on one line -/
theorem psx_asgN {i : Nat} (h : PS X st (tAsg (teO X.K xe) (gName i))) : PSX X fr st (sAsg xe (gNm i)) := ps_imp h fun D σ H q => by
  obtain ⟨as0, Hs, as, ρ, os, H0, o, bs0, n, hx, k⟩ := q
  unfold sAsg gNm at hx
  cases h : xe ρ os with
  | none => rw [h] at hx; cases hx
  | some p =>
    obtain ⟨d, os1⟩ := p
    rw [h] at hx
    cases hx
    exact ⟨as, ρ, os, H0, d, os1, n, h, fun v H0' H' n1 g1 r1 => k as _ H0' H' Exs.refl (n1.set i r1) g1⟩
theorem ps_impE {te te' : TE} {g : TG} (h : PS X st (tAsg te g)) (k : ∀ σ H Q, te' σ H Q → te σ H Q) : PS X st (tAsg te' g) := ps_imp h fun D σ H q => k _ _ _ q
/-- a list's making as a value, from its making as a new one -/
theorem teO_of_F {K : PySem.W.Frag} {x : XI} (σ : L2.St) (H : Hp) (Q : VK) (q : teO K (xF x) σ H Q) : teF K x σ H Q := by
  obtain ⟨as, ρ, os, H0, d, os', n, hx, k⟩ := q
  unfold xF at hx
  cases h1 : x ρ os with
  | none => rw [h1] at hx; cases hx
  | some q =>
    obtain ⟨ds, os1⟩ := q
    rw [h1] at hx
    cases hx
    exact ⟨as, ρ, os, H0, ds, os1, n, h1, fun p vs H0' H' hp n1 g1 h2 h3 h4 r => k _ _ H' (n1.keep h2 h3 h4) (keep_new n.sub g1 hp h2 h4) (.lst (SqL.of upd_same) (r.mono (Ex.new h2)))⟩
theorem psx_setLc {x : XI} {i : Nat} (h : PS X st (tAsg (teF X.K x) (gName i))) : PSX X fr st (sAsg (xF x) (gNm i)) := psx_asgN (ps_impE h teO_of_F)
theorem psx_ownLc {x : XI} {i : Nat} (h : PS X st (tAsg (teF X.K x) (gName i))) : PSX X fr st (sOwn i x) := ps_imp h fun _ _ _ q => to_own q
theorem ps_lcF {own : List (Str × Nat)} {xi : XI} {xg : XG} {js : List Nat} {tt : XT} {te : XE} {g : TG} (hj : ∀ j ∈ js, j ∈ own.map (·.2))
    (h : PS X st (tAsg (tLc (tiO X.K xi) (gO X.K xg js) (ttO X.K tt) (teO X.K te) (own.map (·.2))) g)) : PS X st (tAsg (teF X.K (lcD xi xg tt te (own.map (·.2)))) g) := ps_impE h fun _ _ _ q => to_lc hj q
/-- a, b = e, f -/
def sPar (i j : Nat) (xa xb : XE) : SE := fun ρ os => (xa ρ os).bind fun p => (xb ρ p.2).map fun q => .nx ((ρ.set i (.d p.1)).set j (.d q.1)) q.2
theorem psx_par (h : PS X st (tPar i j (tCons (teO X.K xa) (tCons (teO X.K xb) tNil)))) : PSX X fr st (sPar i j xa xb) := ps_imp h fun D σ H q => by
  obtain ⟨as0, Hs, as, ρ, os, H0, o, bs0, n, hx, k⟩ := q
  unfold sPar at hx
  cases h1 : xa ρ os with
  | none => rw [h1] at hx; cases hx
  | some p =>
    obtain ⟨d, os1⟩ := p
    rw [h1, Option.bind_some] at hx
    cases h2 : xb ρ os1 with
    | none => simp only [h2] at hx; cases hx
    | some q =>
      simp only [h2] at hx
      cases hx
      exact ⟨as, ρ, os, H0, d, os1, n, h1, fun v H1 H1' n1 g1 r1 => ⟨as, ρ, os1, H1, q.1, q.2, n1, h2, fun u H2 H2' n2 g2 r2 => ⟨v, u, rfl, k as _ H2 H2' Exs.refl ((n2.set i (r1.mono g2.e0)).set j r2) (g1.tr g2)⟩⟩⟩
/-- a, b = [..], f with a one's own -/
def sParO (i j : Nat) (xa : XI) (xb : XE) : SE := fun ρ os => (xa ρ os).bind fun p => (xb ρ p.2).map fun q => .nx ((ρ.set i (.o q.2.length)).set j (.d q.1)) (q.2 ++ [some p.1])
/-- three at once -/
def sPar3 (i j l : Nat) (xa xb xc : XE) : SE := fun ρ os => (xa ρ os).bind fun p => (xb ρ p.2).bind fun q => (xc ρ q.2).map fun r => .nx (((ρ.set i (.d p.1)).set j (.d q.1)).set l (.d r.1)) r.2
theorem psx_par3 {xc : XE} (h : PS X st (tPar3 i j l (tCons (teO X.K xa) (tCons (teO X.K xb) (tCons (teO X.K xc) tNil))))) : PSX X fr st (sPar3 i j l xa xb xc) := ps_imp h fun D σ H q => by
  obtain ⟨as0, Hs, as, ρ, os, H0, o, bs0, n, hx, k⟩ := q
  unfold sPar3 at hx
  cases h1 : xa ρ os with
  | none => rw [h1] at hx; cases hx
  | some p =>
    rw [h1, Option.bind_some] at hx
    cases h2 : xb ρ p.2 with
    | none => rw [h2] at hx; cases hx
    | some q =>
      rw [h2, Option.bind_some] at hx
      cases h3 : xc ρ q.2 with
      | none => rw [h3] at hx; cases hx
      | some r =>
        rw [h3] at hx
        cases hx
        exact ⟨as, ρ, os, H0, p.1, p.2, n, h1, fun v H1 H1' n1 g1 r1 => ⟨as, ρ, p.2, H1, q.1, q.2, n1, h2, fun u H2 H2' n2 g2 r2 => ⟨as, ρ, q.2, H2, r.1, r.2, n2, h3, fun w H3 H3' n3 g3 r3 =>
          ⟨v, u, w, rfl, k as _ H3 H3' Exs.refl (((n3.set i (r1.mono (g2.e0.trans g3.e0))).set j (r2.mono g3.e0)).set l r3) ((g1.tr g2).tr g3)⟩⟩⟩⟩
/-- the first a list of one's own -/
theorem psx_parO {xa : XI} (hij : i ≠ j) (h : PS X st (tPar i j (tCons (teF X.K xa) (tCons (teO X.K xb) tNil)))) : PSX X fr st (sParO i j xa xb) := ps_imp h fun D σ H q => by
  obtain ⟨as0, Hs, as, ρ, os, H0, o, bs0, n, hx, k⟩ := q
  unfold sParO at hx
  cases h1 : xa ρ os with
  | none => rw [h1] at hx; cases hx
  | some p =>
    obtain ⟨ds, os1⟩ := p
    rw [h1, Option.bind_some] at hx
    cases h2 : xb ρ os1 with
    | none => simp only [h2] at hx; cases hx
    | some q =>
      simp only [h2] at hx
      cases hx
      refine ⟨as, ρ, os, H0, ds, os1, n, h1, fun p vs H1 H1' hp n1 g1 z1 z2 z3 r1 => ⟨as, ρ, os1, H1, q.1, q.2, n1, h2, fun u H2 H2' n2 g2 r2 => ⟨_, u, rfl, ?_⟩⟩⟩
      have p2 : H2' p = some (.lst vs) := g2.e1 p _ z2 z3
      have p0 : H2 p = none := by
        cases z : H2 p with
        | none => rfl
        | some u =>
          have := g2.nw p u z2 z (by rw [z3]; simp)
          rw [z1] at this
          cases this
      refine k (as ++ [p]) _ H2 H2' ⟨[p], rfl, by simpa using hp⟩ ?_ (g1.tr g2)
      exact (n2.own i p0 z2 p2 (DaAll.mono g2.e0 _ _ r1)).set j r2
/-- x += e, of whole numbers -/
def sAug (i : Nat) (f : Int → Int → Int) (xe : XE) : SE := fun ρ os => match ρ[i]? with
  | some (.d (.int v)) => (xe ρ os).bind fun p => match p.1 with
    | .int w => some (.nx (ρ.set i (.d (.int (f v w)))) p.2)
    | _ => none
  | _ => none
theorem psx_aug {f : Int → Int → Int} (h : PS X st (tAug i (teO X.K xe) (ipI f))) : PSX X fr st (sAug i f xe) := ps_imp h fun D σ H q => by
  obtain ⟨as0, Hs, as, ρ, os, H0, o, bs0, n, hx, k⟩ := q
  unfold sAug at hx
  split at hx
  · rename_i v hv
    obtain ⟨u, e1, r⟩ := n.dat i _ hv
    have eu := da_intI r
    subst eu
    cases h1 : xe ρ os with
    | none => rw [h1] at hx; cases hx
    | some p =>
      obtain ⟨d, os1⟩ := p
      rw [h1, Option.bind_some] at hx
      cases d with
      | int w =>
        cases hx
        refine ⟨_, e1, as, ρ, os, H0, _, os1, n, h1, fun y H1 H1' n1 g1 r1 => ?_⟩
        have ey := da_intI r1
        subst ey
        exact ⟨v, w, rfl, rfl, k as _ H1 H1' Exs.refl (n1.set i (.int _)) g1⟩
      | _ => cases hx
  · cases hx
end
/-! an expression that reads lists of one's own as data, and gives something flat -/
def viewS (os : Os) : Sl → Sl
  | .o k => match os[k]? with
    | some (some ds) => .d (.list ds)
    | _ => .u
  | s => s
def flatD : PyData → Bool
  | .list _ => false
  | .tuple _ => false
  | .dict _ => false
  | _ => true
def xView (x : XE) : XE := fun ρ os => (x (ρ.map (viewS os)) []).bind fun p => if flatD p.1 = true then some (p.1, os) else none
theorem da_flat {K : PySem.W.Frag} {H H' : Hp} {v : V} {d : PyData} (h : flatD d = true) (r : Da K H v d) : Da K H' v d := by
  cases r with
  | non => exact .non
  | bl b => exact .bl b
  | int i => exact .int i
  | str x => exact .str x
  | _ => cases h
theorem en_view {K : PySem.W.Frag} {as : List Addr} {ρ : List Sl} {os : Os} {σ : L2.St} {H0 H : Hp} (n : En K as ρ os σ H0 H) : ∃ Hv, Ex H0 Hv ∧ En K [] (ρ.map (viewS os)) [] σ Hv H := by
  have key : ∀ a, a ∈ as → H0 a = none → ∃ o, H a = some o := fun a ha _ => by
    cases q : H a with
    | none => exact absurd q (n.ow.trk a ha)
    | some o => exact ⟨o, rfl⟩
  refine ⟨fun a => if a ∈ as ∧ H0 a = none then H a else H0 a, fun a o e => by show (if a ∈ as ∧ H0 a = none then H a else H0 a) = some o; rw [if_neg (by rw [e]; simp)]; exact e, fun a o e => ?_, by rw [List.length_map]; exact n.len, fun i x h => ?_, fun i k h => ?_, List.nodup_nil, rfl, fun _ h => absurd h (by simp), fun _ _ _ h => by simp at h⟩
  · have e : (if a ∈ as ∧ H0 a = none then H a else H0 a) = some o := e
    by_cases c : a ∈ as ∧ H0 a = none
    · rw [if_pos c] at e
      exact e
    · rw [if_neg c] at e
      exact n.sub a o e
  · have up : Ex H0 fun a => if a ∈ as ∧ H0 a = none then H a else H0 a := fun a o e => by show (if a ∈ as ∧ H0 a = none then H a else H0 a) = some o; rw [if_neg (by rw [e]; simp)]; exact e
    rw [List.getElem?_map] at h
    cases q : ρ[i]? with
    | none => rw [q] at h; cases h
    | some s =>
      rw [q] at h
      cases s with
      | u => cases h
      | d y =>
        cases h
        obtain ⟨v, e1, r⟩ := n.dat i _ q
        exact ⟨v, e1, r.mono up⟩
      | o k =>
        obtain ⟨a, e1, e2⟩ := n.ref i k q
        simp only [Option.map_some, viewS] at h
        split at h
        · rename_i ds hds
          cases h
          obtain ⟨q1, vs, q2, q3⟩ := n.ow.at_ k a ds e1 hds
          exact ⟨_, e2, .lst (SqL.of (by show (if a ∈ as ∧ H0 a = none then H a else H0 a) = _; rw [if_pos ⟨List.mem_of_getElem? e1, q1⟩]; exact q2)) (q3.mono up)⟩
        · cases h
  · rw [List.getElem?_map] at h
    cases q : ρ[i]? with
    | none => rw [q] at h; cases h
    | some s =>
      rw [q] at h
      cases s with
      | u => cases h
      | d y => cases h
      | o k =>
        simp only [Option.map_some, viewS] at h
        split at h <;> cases h
theorem px_view {X : Cx} {e : Expr} {x : XE} (h : PX X e x) : PX X e (xView x) := pe_imp h fun σ H Q q => by
  obtain ⟨as, ρ, os, H0, d, os', n, hx, k⟩ := q
  unfold xView at hx
  cases h1 : x (ρ.map (viewS os)) [] with
  | none => rw [h1] at hx; cases hx
  | some p =>
    obtain ⟨y, os1⟩ := p
    rw [h1, Option.bind_some] at hx
    simp only at hx
    split at hx
    · rename_i hf
      cases hx
      obtain ⟨Hv, up, nv⟩ := en_view n
      refine ⟨[], _, [], Hv, d, os1, nv, h1, fun v H1 H1' n1 g1 r1 => ?_⟩
      have ex : Ex H0 H1' := (up.trans g1.e0).trans g1.sub
      refine k v H0 H1' ⟨ex, n.len, n.dat, n.ref, n.ow.nd, n.ow.len, fun a ha => g1.kp a (n.ow.trk a ha), fun j a ds e1 e2 => ?_⟩ ⟨Ex.refl _, fun a o _ e => g1.e1 a o (by simp) e, fun _ _ _ e _ => e, g1.kp, ex⟩ (da_flat hf r1)
      obtain ⟨q1, vs, q2, q3⟩ := n.ow.at_ j a ds e1 e2
      exact ⟨q1, vs, g1.e1 a _ (by simp) q2, q3⟩
    · cases hx
def tView (t : XT) : XT := fun ρ os => (t (ρ.map (viewS os)) []).map fun p => (p.1, os)
theorem pxt_view {X : Cx} {e : Expr} {x : XT} (h : PXT X e x) : PXT X e (tView x) := pt_imp h fun σ H Q q => by
  obtain ⟨as, ρ, os, H0, d, os', n, hx, k⟩ := q
  unfold tView at hx
  cases h1 : x (ρ.map (viewS os)) [] with
  | none => rw [h1] at hx; cases hx
  | some p =>
    obtain ⟨y, os1⟩ := p
    rw [h1] at hx
    cases hx
    obtain ⟨Hv, up, nv⟩ := en_view n
    refine ⟨[], _, [], Hv, _, os1, nv, h1, fun H1 H1' n1 g1 => ?_⟩
    have ex : Ex H0 H1' := (up.trans g1.e0).trans g1.sub
    refine k H0 H1' ⟨ex, n.len, n.dat, n.ref, n.ow.nd, n.ow.len, fun a ha => g1.kp a (n.ow.trk a ha), fun j a ds e1 e2 => ?_⟩ ⟨Ex.refl _, fun a o _ e => g1.e1 a o (by simp) e, fun _ _ _ e _ => e, g1.kp, ex⟩
    obtain ⟨q1, vs, q2, q3⟩ := n.ow.at_ j a ds e1 e2
    exact ⟨q1, vs, g1.e1 a _ (by simp) q2, q3⟩
/-- a comparison as a test -/
theorem pxt_cmp {X : Cx} {op : CmpOp} {f : PyData → PyData → Option PyData} {a b : Expr} {xa xb : XE} {pos : Pos} (ho : OpR X (compareOp op) (rD X.K f)) (ha : PX X a xa) (hb : PX X b xb) (hm : behindInMarks op b = false) : PXT X (.Compare a [op] [b] pos) (xBool (xOp f xa xb)) :=
  pt_imp (pt_cmpR ho ha hb hm) fun σ H Q q => by
    obtain ⟨as, ρ, os, H0, d, os', n, hx, k⟩ := q
    unfold xBool at hx
    cases h1 : xOp f xa xb ρ os with
    | none => rw [h1] at hx; cases hx
    | some p =>
      obtain ⟨y, os1⟩ := p
      rw [h1, Option.bind_some] at hx
      cases y with
      | bool c =>
        cases hx
        exact to_op ⟨as, ρ, os, H0, _, _, n, h1, fun v H1 H1' n1 g1 r1 => by
          cases r1
          exact ⟨_, rfl, k H1 H1' n1 g1⟩⟩
      | _ => cases hx
/-! keywords: the parameters' values picked from the written ones -/
def pmI (js : List Nat) {α : Type} (l : List α) : List α := js.filterMap fun j => l[j]?
theorem pmI_rel : ∀ (js : List Nat) {zs : List V} {ws : List Value}, Vals zs ws → Vals (pmI js zs) (pmI js ws)
  | [], _, _, _ => .nil
  | j :: js, zs, ws, h => by
    unfold pmI
    simp only [List.filterMap_cons]
    cases q : zs[j]? with
    | none =>
      rw [Vals.none_of h q]
      exact pmI_rel js h
    | some x =>
      obtain ⟨u, h1, h2⟩ := h.get q
      rw [h1]
      exact .cons h2 (pmI_rel js h)
theorem args_none {K : PySem.W.Frag} {as : List Addr} {H0 : Hp} {zs : List V} {ss : List Sl} {j : Nat} (h : ArgsOk K as H0 zs ss) (e : ss[j]? = none) : zs[j]? = none := by
  have := args_len h
  have h2 := List.getElem?_eq_none_iff.mp e
  exact List.getElem?_eq_none_iff.mpr (by omega)
theorem pmI_arg {K : PySem.W.Frag} {as : List Addr} {H0 : Hp} : ∀ (js : List Nat) {zs : List V} {ss : List Sl}, ArgsOk K as H0 zs ss → ArgsOk K as H0 (pmI js zs) (pmI js ss)
  | [], _, _, _ => True.intro
  | j :: js, zs, ss, h => by
    unfold pmI
    simp only [List.filterMap_cons]
    cases q : ss[j]? with
    | none =>
      rw [args_none h q]
      exact pmI_arg js h
    | some x =>
      obtain ⟨u, h1, h2⟩ := args_at h q
      rw [h1]
      exact ⟨h2, pmI_arg js h⟩
theorem kwb {K : PySem.W.Frag} {x qual : Str} {st : Stmt} {f : Addr} {fd : FuncData} {ps ks : List Str} {js : List Nat} (F : Fun K x qual st f fd)
    (h : ∀ (kV doc pm : Value) (an : Option Addr) (cdv ct : Value) (ws : List Value), ws.length = ks.length → bindArgs (PySem.W.fnOf x qual (defArgs st) (defBody st) (defScope st) .none kV doc pm an cdv ct) ⟨[], ks.zip ws⟩ = pure (ps.zip (pmI js ws))) : KwBinds fd ps ks (pmI js) := by
  obtain ⟨oc, od, kV, doc, pm, an, cdv, ct, osl, rfl, lk, hcd⟩ := F.ex
  exact ⟨fun s ws hl => .of_eq (h kV doc pm an cdv ct ws hl), pmI_rel js, pmI_arg js⟩
theorem pmI_len : ∀ {js : List Nat} {α : Type} {l : List α} {m : Nat}, (∀ j ∈ js, j < m) → l.length = m → l.length = m ∧ (pmI js l).length = js.length
  | [], _, _, _, _, h => ⟨h, rfl⟩
  | j :: js, _, l, m, hj, h => by
    refine ⟨h, ?_⟩
    have ih := (pmI_len (js := js) (fun i hi => hj i (List.mem_cons_of_mem _ hi)) h).2
    unfold pmI at ih ⊢
    simp only [List.filterMap_cons]
    have h1 : j < l.length := by rw [h]; exact hj j List.mem_cons_self
    rw [List.getElem?_eq_getElem h1, List.length_cons, List.length_cons, ih]
/-- a def that hands back a new list, taken as data -/
def asM (M : XMF) : XM := fun ss os => (M ss os).map fun p => (.list p.1, p.2)
theorem asM_ok {P : Program} {w : World} {K : PySem.W.Frag} {mg : Str → Option Value} {base : Heap} {k n : Nat} {f : Addr} {fd : FuncData} {ps : List Str} {M : XMF} (F : FnG P w K mg base k f fd n ps (spF K n M)) : FnG P w K mg base k f fd n ps (spM K n (asM M)) := by
  refine ⟨F.pl, fun vs H Q E h => h.1, fun A outer s H args us vs Q E hr e0 hb r h => F.run A outer s H args us vs Q E hr e0 hb r ?_⟩
  obtain ⟨hlen, as, ss, os, H0, d, os', h1, h2, h3, h4, h5⟩ := h
  unfold asM at h4
  cases q : M ss os with
  | none => rw [q] at h4; cases h4
  | some p =>
    obtain ⟨ds, os1⟩ := p
    rw [q] at h4
    cases h4
    refine ⟨hlen, as, ss, os, H0, ds, _, h1, h2, h3, q, fun p vs H0' H' hp w2 g2 r1 r2 r3 => ?_⟩
    exact h5 _ _ H' (w2.keep r1 fun z => h2.trk p z hp) (keep_new h1 g2 hp r1 r2) (.lst (SqL.of upd_same) (r3.mono (Ex.new r1)))
theorem bt_len : bootBuiltins "len" = some (.builtin "len") := by decide +kernel
theorem bt_max : bootBuiltins "max" = some (.builtin "max") := by decide +kernel
theorem bt_min : bootBuiltins "min" = some (.builtin "min") := by decide +kernel
theorem bt_sum : bootBuiltins "sum" = some (.builtin "sum") := by decide +kernel
theorem bt_all : bootBuiltins "all" = some (.builtin "all") := by decide +kernel
theorem bt_any : bootBuiltins "any" = some (.builtin "any") := by decide +kernel
theorem bt_repr : bootBuiltins "repr" = some (.builtin "repr") := by decide +kernel
theorem bt_int : bootBuiltins "int" = some (.type "int") := by decide +kernel
theorem bt_bool : bootBuiltins "bool" = some (.type "bool") := by decide +kernel
theorem bt_str : bootBuiltins "str" = some (.type "str") := by decide +kernel
theorem bt_list : bootBuiltins "list" = some (.type "list") := by decide +kernel
theorem bt_tuple : bootBuiltins "tuple" = some (.type "tuple") := by decide +kernel
theorem Rm.u64 {k : Nat} {A : Around} (r : Rm k A) : A.units + 64 < cLine := r.room.units
theorem Rm.u65 {k : Nat} {A : Around} (r : Rm k A) : A.units + 65 < cLine := by have := r.room.un; omega
abbrev ltD := cmpD fun i j => decide (i < j)
abbrev leD := cmpD fun i j => decide (i ≤ j)
abbrev gtD := cmpD fun i j => decide (j < i)
abbrev geD := cmpD fun i j => decide (j ≤ i)
end DL

set_option Elab.async false
set_option linter.all false
set_option maxRecDepth 100000
set_option maxHeartbeats 4000000
namespace DL
open PySem PySem.Spec PyProof.Rows L2 Evl
section
variable {X : Cx} {e : Expr} {es : List Expr} {xe : XE} {ra : XA} {pos p : Pos}
/-- x[::-1] -/
def fRev (xe : XE) : XI := fun ρ os => (xe ρ os).bind fun p => match p.1 with
  | .list c => some (c.reverse, p.2)
  | _ => none
theorem DaAll.app2 {K : PySem.W.Frag} {H : Hp} {vs ws : List V} {ds es : List PyData} (h : DaAll K H vs ds) (g : DaAll K H ws es) : DaAll K H (vs ++ ws) (ds ++ es) := h.app g
theorem DaAll.rev {K : PySem.W.Frag} {H : Hp} : ∀ {vs : List V} {ds : List PyData}, DaAll K H vs ds → DaAll K H vs.reverse ds.reverse
  | _, _, .nil => .nil
  | _, _, .cons a t => by
    rw [List.reverse_cons, List.reverse_cons]
    exact (DaAll.rev t).app (.cons a .nil)
theorem pxf_rev {k : Nat} {p1 p2 p3 : Pos} (he : PX X e xe) : PXF X (.Subscript e (.Slice none none (some (.UnaryOp .USub (.Constant (.int 1) k p1) p2)) p3) pos) (fRev xe) := pe_imp (pe_revL he) fun σ H Q q => by
  obtain ⟨as, ρ, os, H0, ds, os', n, hx, k⟩ := q
  unfold fRev at hx
  cases h1 : xe ρ os with
  | none => rw [h1] at hx; cases hx
  | some p =>
    obtain ⟨d, os1⟩ := p
    rw [h1, Option.bind_some] at hx
    cases d with
    | list cs =>
      cases hx
      refine ⟨as, ρ, os, H0, _, os1, n, h1, fun v H3' H3 n3 g3 r3 => ?_⟩
      cases r3 with
      | lst h4 h5 =>
        refine ⟨_, _, rfl, ex_l n3.sub h4, fun p hp => ?_⟩
        have h0 : H3' p = none := fresh_back n3.sub hp
        have nD : p ∉ as := fun z => n3.ow.trk p z hp
        rename_i a0 xs0
        have gg := fresh_up (o := .lst xs0.reverse) g3 hp
        exact k p _ H3' _ gg.2 (n3.away nD (fun a h => upd_ne h) (by rw [upd_same]; simp) h0) gg.1 h0 nD upd_same h5.rev
    | _ => cases hx
/-- range(i, j, -1) -/
def downD (i : Int) (n : Nat) : List PyData := (List.range n).map fun (k : Nat) => PyData.int (i + (k : Int) * (-1))
theorem walkD_down {K : PySem.W.Frag} {H0 : Hp} {lo : Int} {n : Nat} : WalkD K (Itc lo (-1) n) (downD lo n) H0 := by
  have hl : (downD lo n).length = n := by simp [downD]
  refine ⟨fun i H hi _ => ?_, fun H _ => ?_, fun i H x H' H1 hi e e1 y => ?_⟩
  · rw [hl] at hi
    exact hi
  · rw [hl]
    exact Nat.le_refl _
  · obtain ⟨e2, e3⟩ := (show H' = H ∧ x = .int (lo + (i : Nat) * (-1)) from y)
    subst e2 e3
    rw [hl] at hi
    exact ⟨H1, .int (lo + (i : Nat) * (-1)), Gr.refl e1, by simp [downD, hi], .int _⟩
def iRgN (ra : XA) : XI := fun ρ os => (ra ρ os).bind fun p => match p.1 with
  | [.d (.int i), .d (.int j), .d (.int c)] => if c = -1 ∧ -(2 ^ 62) ≤ i ∧ i < 2 ^ 62 ∧ -(2 ^ 62) ≤ j ∧ j < 2 ^ 62 then some (downD i (i - j).toNat, p.2) else none
  | _ => none
theorem pxi_range3 {a b c : Expr} {tg : Expr} (hg : Gl X "range") (hm : X.mg "range" = none) (ha : PXA X [a, b, c] ra) (hs : starEach [a, b, c] X.env = (false, eval a X.env) :: starEach [b, c] X.env := by rfl) (hpl : (backTo pos (starEach [b, c] X.env)).any (·.1) = false := by rfl) :
    PXI X tg (.Call (.Name "range" p) [a, b, c] [] pos) (iRgN ra) := pi_imp (pi_range3 hg hm ha hs hpl) fun σ H R q => by
  obtain ⟨as, ρ, os, H0, items, os', n, hx, k⟩ := q
  unfold iRgN at hx
  cases h2 : ra ρ os with
  | none => rw [h2] at hx; cases hx
  | some q =>
    obtain ⟨ss, os1⟩ := q
    rw [h2, Option.bind_some] at hx
    simp only at hx
    split at hx
    · rename_i i j c
      split at hx
      · rename_i hc
        obtain ⟨hc, b1, b2, b3, b4⟩ := hc
        cases hx
        refine ⟨as, ρ, os, H0, _, _, n, h2, fun vs H1 H1' n1 g1 r1 => ?_⟩
        match vs, r1 with
        | [v, w, u], r1 =>
          have q1 : Da X.K H1 v (.int i) := r1.1
          have q2 : Da X.K H1 w (.int j) := r1.2.1
          have q3 : Da X.K H1 u (.int c) := r1.2.2.1
          cases q1
          cases q2
          cases q3
          subst hc
          exact ⟨i, j, -1, (i - j).toNat, rfl, RgC.neg b1 b2 b3 b4, k _ H1 H1' n1 g1 walkD_down⟩
      · cases hx
    · cases hx
/-- f(g(..), ..): a new list handed on directly, as one's own -/
def xFnN (M : XM) (xi : XI) (ra : XA) : XE := fun ρ os => (xi ρ os).bind fun p => (ra ρ (p.2 ++ [some p.1])).bind fun q => (M (.o p.2.length :: q.1) q.2).map fun z => (z.1, z.2.take p.2.length)
theorem px_fnN {k n : Nat} {f : Addr} {fd : FuncData} {ps : List Str} {M : XM} {xi : XI} {x : Str} (F : FnG X.prog X.w X.K X.mg X.base k f fd n ps (spM X.K n M)) (hr : Rm k X.A) (hg : Gl X x) (hm : X.mg x = some (.ref f)) (hk : PySem.W.keepIn X.K (.ref f) = true) (hb : Binds X.K fd ps [])
    (he0 : PXF X e xi) (ha : PXA X es ra) (hl : ∀ ρ os ss os', ra ρ os = some (ss, os') → ss.length + 1 = n) (hdb : (x == ("__debug__" : Str)) = false := by decide) (he : starEach (e :: es) X.env = (false, eval e X.env) :: starEach es X.env := by rfl) (hpl : (backTo pos (starEach es X.env)).any (·.1) = false := by rfl) :
    PX X (.Call (.Name x p) (e :: es) [] pos) (xFnN M xi ra) := pe_imp (pe_callG F hr hg hm hk hb (pa_cons he0 ha he) hdb he hpl) fun σ H Q q => by
  obtain ⟨as, ρ, os, H0, d, os', n0, hx, k⟩ := q
  unfold xFnN at hx
  cases h1 : xi ρ os with
  | none => rw [h1] at hx; cases hx
  | some pp =>
    obtain ⟨ds, os1⟩ := pp
    rw [h1, Option.bind_some] at hx
    simp only at hx
    cases h5 : ra ρ (os1 ++ [some ds]) with
    | none => rw [h5] at hx; cases hx
    | some qq =>
      obtain ⟨ss, os2⟩ := qq
      rw [h5, Option.bind_some] at hx
      simp only at hx
      cases h6 : M (.o os1.length :: ss) os2 with
      | none => rw [h6] at hx; cases hx
      | some z =>
        obtain ⟨z, os3⟩ := z
        rw [h6] at hx
        cases hx
        refine ⟨as, ρ, os, H0, ds, os1, n0, h1, fun p vs H0' H' hp n1 g1 h2 h3 h4 r => ⟨as ++ [p], ρ, os1 ++ [some ds], H0', ss, os2, ?_, h5, fun ws H2' H2 n2 g2 r2 => ?_⟩⟩
        · have n5 := n1.own ρ.length h2 h3 h4 r
          rw [List.set_eq_of_length_le (Nat.le_refl _), List.set_eq_of_length_le (by rw [n1.len]; exact Nat.le_refl _)] at n5
          exact n5
        · have lo := n1.ow.len
          have e1 : (as ++ [p])[os1.length]? = some p := by
            rw [← lo, List.getElem?_append_right (Nat.le_refl _)]
            simp
          refine ⟨by rw [List.length_cons, args_len r2]; exact hl _ _ _ _ h5, as ++ [p], .o os1.length :: ss, os2, H2', z, os3, n2.sub, n2.ow, ⟨⟨p, e1, rfl⟩, r2⟩, h6, fun v H3' H3 w3 g3 r3 => ?_⟩
          have gg : Gr as H0 H H3' H3 := g1.trans (g2.tr g3) fun a ha => by
            rcases List.mem_append.mp ha with z | z
            · exact .inl z
            · have : a = p := by simpa using z
              exact .inr (by rw [this]; exact hp)
          have w4 := w3.cut (as := as) (H := H) ⟨[p], rfl, by simpa using hp⟩
          rw [lo] at w4
          exact k v H3' H3 (n0.call w4 gg) gg r3
end
end DL

set_option Elab.async false
set_option linter.all false
set_option maxRecDepth 100000
set_option maxHeartbeats 4000000
namespace DL
open PySem PySem.Spec PyProof.Rows L2 Evl
section
variable {X : Cx} {a b c e : Expr} {xa xb xc : XE} {pos p p2 : Pos} {op op' : CmpOp} {f f' : PyData → PyData → Option PyData}
/-- a < b < c -/
def xChain (f f' : PyData → PyData → Option PyData) (xa xb xc : XE) : XE := fun ρ os => (xa ρ os).bind fun p => (xb ρ p.2).bind fun q => (f p.1 q.1).bind fun z => match z with
  | .bool true => (xc ρ q.2).bind fun r => (f' q.1 r.1).map fun z => (z, r.2)
  | .bool false => some (.bool false, q.2)
  | _ => none
theorem to_chain {K : PySem.W.Frag} {σ : L2.St} {H : Hp} {Q : VK} (q : teO K (xChain f f' xa xb xc) σ H Q) : tChain (rD K f) (rD K f') (teO K xa) (teO K xb) (teO K xc) σ H Q := by
  obtain ⟨as, ρ, os, H0, d, os', n, hx, k⟩ := q
  unfold xChain at hx
  cases h1 : xa ρ os with
  | none => rw [h1] at hx; cases hx
  | some p =>
    obtain ⟨x, os1⟩ := p
    rw [h1, Option.bind_some] at hx
    simp only at hx
    cases h2 : xb ρ os1 with
    | none => rw [h2] at hx; cases hx
    | some q =>
      obtain ⟨y, os2⟩ := q
      rw [h2, Option.bind_some] at hx
      simp only at hx
      cases h3 : f x y with
      | none => rw [h3] at hx; cases hx
      | some z =>
        rw [h3, Option.bind_some] at hx
        refine ⟨as, ρ, os, H0, x, os1, n, h1, fun v H0' H' n1 g1 r1 => ⟨as, ρ, os1, H0', y, os2, n1, h2, fun u H0'' H'' n2 g2 r2 => ⟨H0'', x, y, z, n2.sub, r1.mono g2.e0, r2, h3, fun w H3' H3 g3 r3 => ?_⟩⟩⟩
        have n3 := n2.grow g3
        have gg := (g1.tr g2).tr0 g3
        cases z with
        | bool b =>
          cases r3
          cases b with
          | false =>
            cases hx
            exact ⟨false, rfl, by
              simp only [Bool.false_eq_true, if_false]
              exact k _ H3' H3 n3 gg (.bl false)⟩
          | true =>
            cases h4 : xc ρ os2 with
            | none => simp only [h4] at hx; cases hx
            | some r =>
              obtain ⟨w, os3⟩ := r
              simp only [h4, Option.bind_some] at hx
              cases h5 : f' y w with
              | none => rw [h5] at hx; cases hx
              | some z2 =>
                rw [h5] at hx
                cases hx
                refine ⟨true, rfl, ?_⟩
                simp only [if_true]
                exact ⟨as, ρ, os2, H3', w, _, n3, h4, fun w2 H4' H4 n4 g4 r4 => ⟨H4', y, w, _, n4.sub, (r2.mono g3.e0).mono g4.e0, r4, h5, fun w5 H5' H5 g5 r5 => k w5 H5' H5 (n4.grow g5) ((gg.tr g4).tr0 g5) r5⟩⟩
        | _ => cases hx
theorem px_chain (ho : OpR X (compareOp op) (rD X.K f)) (ho' : OpR X (compareOp op') (rD X.K f')) (ha : PX X a xa) (hb : PX X b xb) (hc : PX X c xc) (hm : lastMarks [op, op'] [b, c] = false := by with_unfolding_all rfl) : PX X (.Compare a [op, op'] [b, c] pos) (xChain f f' xa xb xc) :=
  pe_imp (pe_chain ho ho' ha hb hc hm) fun _ _ _ q => to_chain q
theorem pxt_chain (ho : OpR X (compareOp op) (rD X.K f)) (ho' : OpR X (compareOp op') (rD X.K f')) (ha : PX X a xa) (hb : PX X b xb) (hc : PX X c xc) (hm : lastMarks [op, op'] [b, c] = false := by with_unfolding_all rfl) : PXT X (.Compare a [op, op'] [b, c] pos) (xBool (xChain f f' xa xb xc)) :=
  pt_imp (pt_chain ho ho' ha hb hc hm) fun σ H Q q => by
    obtain ⟨as, ρ, os, H0, d, os', n, hx, k⟩ := q
    unfold xBool at hx
    cases h1 : xChain f f' xa xb xc ρ os with
    | none => rw [h1] at hx; cases hx
    | some p =>
      obtain ⟨y, os1⟩ := p
      rw [h1, Option.bind_some] at hx
      cases y with
      | bool c =>
        cases hx
        exact to_chain ⟨as, ρ, os, H0, _, _, n, h1, fun v H1 H1' n1 g1 r1 => by
          cases r1
          exact ⟨_, rfl, k H1 H1' n1 g1⟩⟩
      | _ => cases hx
/-- reversed(range(..)) -/
abbrev XR := List Sl → Os → Option ((Int × Int) × Os)
def trO (K : PySem.W.Frag) (x : XR) : L2.St → Hp → (Int → Int → Hp → Prop) → Prop := fun σ H Q => ∃ as ρ os H0 r os', En K as ρ os σ H0 H ∧ x ρ os = some (r, os') ∧ ∀ H0' H', En K as ρ os' σ H0' H' → Gr as H0 H H0' H' → Q r.1 r.2 H'
abbrev PXR (X : Cx) (e : Expr) (x : XR) : Prop := PRg X e (trO X.K x)
theorem prg_imp {t t' : L2.St → Hp → (Int → Int → Hp → Prop) → Prop} (h : PRg X e t) (k : ∀ σ H Q, t' σ H Q → t σ H Q) : PRg X e t' := fun pins s σ H Q I q => h pins s σ H Q I (k _ _ _ q)
def rg1 (xa : XE) : XR := fun ρ os => (xa ρ os).bind fun p => match p.1 with
  | .int n => some ((0, n), p.2)
  | _ => none
def rg2 (xa xb : XE) : XR := fun ρ os => (xa ρ os).bind fun p => (xb ρ p.2).bind fun q => match p.1, q.1 with
  | .int i, .int j => some ((i, j), q.2)
  | _, _ => none
theorem pxr_1 (hg : Gl X "range") (hm : X.mg "range" = none) (ha : PX X a xa) (na : starEach [a] X.env = (false, eval a X.env) :: starEach [] X.env := by rfl) : PXR X (.Call (.Name "range" p) [a] [] pos) (rg1 xa) := prg_imp (prg_1 hg hm ha na) fun σ H Q q => by
  obtain ⟨as, ρ, os, H0, r, os', n, hx, k⟩ := q
  unfold rg1 at hx
  cases h1 : xa ρ os with
  | none => rw [h1] at hx; cases hx
  | some p =>
    obtain ⟨x, os1⟩ := p
    rw [h1, Option.bind_some] at hx
    cases x with
    | int i =>
      cases hx
      refine ⟨as, ρ, os, H0, _, _, n, h1, fun v H0' H' n1 g1 r1 => ?_⟩
      cases r1
      exact ⟨i, rfl, k H0' H' n1 g1⟩
    | _ => cases hx
theorem pxr_2 (hg : Gl X "range") (hm : X.mg "range" = none) (ha : PX X a xa) (hb : PX X b xb) (na : starEach [a, b] X.env = (false, eval a X.env) :: starEach [b] X.env := by rfl) (nb : starEach [b] X.env = (false, eval b X.env) :: starEach [] X.env := by rfl) (hp : (backTo pos (starEach [b] X.env)).any (·.1) = false := by rfl) : PXR X (.Call (.Name "range" p) [a, b] [] pos) (rg2 xa xb) := prg_imp (prg_2 hg hm ha hb na nb hp) fun σ H Q q => by
  obtain ⟨as, ρ, os, H0, r, os', n, hx, k⟩ := q
  unfold rg2 at hx
  cases h1 : xa ρ os with
  | none => rw [h1] at hx; cases hx
  | some p =>
    obtain ⟨x, os1⟩ := p
    rw [h1, Option.bind_some] at hx
    simp only at hx
    cases h2 : xb ρ os1 with
    | none => rw [h2] at hx; cases hx
    | some q =>
      obtain ⟨y, os2⟩ := q
      rw [h2, Option.bind_some] at hx
      simp only at hx
      split at hx
      · rename_i i j
        cases hx
        refine ⟨as, ρ, os, H0, _, _, n, h1, fun v H0' H' n1 g1 r1 => ⟨as, ρ, os1, H0', _, _, n1, h2, fun u H2' H2 n2 g2 r2 => ?_⟩⟩
        cases r1
        cases r2
        exact ⟨i, j, rfl, rfl, k H2' H2 n2 (g1.tr g2)⟩
      · cases hx
def iRgR (xr : XR) : XI := fun ρ os => (xr ρ os).bind fun p => if -(2 ^ 62) ≤ p.1.1 ∧ p.1.1 < 2 ^ 62 ∧ -(2 ^ 62) ≤ p.1.2 ∧ p.1.2 < 2 ^ 62 then some (downD (p.1.1 + (((p.1.2 - p.1.1).toNat : Nat) : Int) - 1) (p.1.2 - p.1.1).toNat, p.2) else none
theorem pxi_revR {tg : Expr} {xr : XR} (h : ∀ t, PRg X e t → PI X tg (.Call (.Name "reversed" p) [e] [] pos) (iRevR t)) (he : PXR X e xr) : PXI X tg (.Call (.Name "reversed" p) [e] [] pos) (iRgR xr) := pi_imp (h _ he) fun σ H R q => by
  obtain ⟨as, ρ, os, H0, items, os', n, hx, k⟩ := q
  unfold iRgR at hx
  cases h2 : xr ρ os with
  | none => rw [h2] at hx; cases hx
  | some q =>
    obtain ⟨⟨i, j⟩, os1⟩ := q
    rw [h2, Option.bind_some] at hx
    simp only at hx
    split at hx
    · rename_i hc
      cases hx
      exact ⟨as, ρ, os, H0, (i, j), _, n, h2, fun H1 H1' n1 g1 => ⟨hc.1, hc.2.1, hc.2.2.1, hc.2.2.2, k _ H1 H1' n1 g1 walkD_down⟩⟩
    · cases hx
/-- list(range(..)) -/
def fRng (xr : XR) : XI := fun ρ os => (xr ρ os).bind fun p => if -(2 ^ 62) ≤ p.1.1 ∧ p.1.1 < 2 ^ 62 ∧ -(2 ^ 62) ≤ p.1.2 ∧ p.1.2 < 2 ^ 62 ∧ (p.1.2 - p.1.1).toNat ≤ 2 ^ 24 then some (rangeD p.1.1 (p.1.2 - p.1.1).toNat, p.2) else none
theorem da_rg {K : PySem.W.Frag} {H : Hp} {a b : Int} : DaAll K H (rgV a b) (rangeD a (b - a).toNat) := by
  unfold rgV rangeD
  generalize List.range (b - a).toNat = l
  induction l with
  | nil => exact .nil
  | cons x r ih => exact .cons (.int _) ih
theorem pxf_rng {xr : XR} (hc : X.calm = true) (hg : Gl X "list") (hm : X.mg "list" = none) (he : PXR X e xr) (na : starEach [e] X.env = (false, eval e X.env) :: starEach [] X.env := by rfl) : PXF X (.Call (.Name "list" p) [e] [] pos) (fRng xr) := pe_imp (pe_listRg hc hg hm he na) fun σ H Q q => by
  obtain ⟨as, ρ, os, H0, ds, os', n, hx, k⟩ := q
  unfold fRng at hx
  cases h2 : xr ρ os with
  | none => rw [h2] at hx; cases hx
  | some q =>
    obtain ⟨⟨i, j⟩, os1⟩ := q
    rw [h2, Option.bind_some] at hx
    simp only at hx
    split at hx
    · rename_i hc
      cases hx
      refine ⟨as, ρ, os, H0, (i, j), _, n, h2, fun H3' H3 n3 g3 => ⟨hc, fun p hp => ?_⟩⟩
      have h0 : H3' p = none := fresh_back n3.sub hp
      have nD : p ∉ as := fun z => n3.ow.trk p z hp
      have gg := fresh_up (o := .lst (rgV i j)) g3 hp
      exact k p _ H3' _ gg.2 (n3.away nD (fun a h => upd_ne h) (by rw [upd_same]; simp) h0) gg.1 h0 nD upd_same da_rg
    · cases hx
end
end DL

set_option Elab.async false
set_option linter.all false
set_option maxRecDepth 100000
set_option maxHeartbeats 4000000
namespace DL
open PySem PySem.Spec PyProof.Rows L2 Evl
/-! ### comprehensions of two fors -/
def lc2Run (xg : XG) (tt : XT) (xi1 : XI) (xg1 : XG) (tt1 : XT) (te : XE) (vs1 : List Nat) (ρ : List Sl) : List PyData → List PyData → Os → Option (List PyData × Os)
  | [], acc, os => some (acc, os)
  | d :: r, acc, os => (xg d ρ).bind fun ρ1 => (tt ρ1 os).bind fun p => if p.1 = true then (xi1 ρ1 p.2).bind fun it => (lcRun xg1 tt1 te (wipeR ρ1 vs1) it.1 acc it.2).bind fun q => lc2Run xg tt xi1 xg1 tt1 te vs1 ρ r q.1 q.2 else lc2Run xg tt xi1 xg1 tt1 te vs1 ρ r acc p.2
def lc2D (xi : XI) (xg : XG) (tt : XT) (xi1 : XI) (xg1 : XG) (tt1 : XT) (te : XE) (vs vs1 : List Nat) : XI := fun ρ os => (xi ρ os).bind fun p => lc2Run xg tt xi1 xg1 tt1 te vs1 (wipeR ρ vs) p.1 [] p.2
/-- what stands between two turns, over a list D that grows; R tells what is to come -/
def LcW (K : PySem.W.Frag) (as : List Addr) (Ha Hb Hw : Hp) (D : Addr) (ρw : List Sl) (σw : L2.St) (R : List PyData → Os → Prop) (H2 : Hp) : Prop :=
  ∃ acc osi H2' vacc, En K as ρw osi σw H2' H2 ∧ Gr as Ha Hb H2' H2 ∧ Ex Hw H2' ∧ H2' D = none ∧ H2 D = some (.lst vacc) ∧ DaAll K H2' vacc acc ∧ R acc osi
theorem keep_none {as : List Addr} {D : Addr} {H0 H H0' H' : Hp} (g : Gr as H0 H H0' H') (nD : D ∉ as) (h0 : H0 D = none) (h1 : H D ≠ none) : H0' D = none := by
  cases z : H0' D with
  | none => rfl
  | some u =>
    have := g.nw D u nD z h1
    rw [h0] at this
    cases this
theorem gr_upd {as : List Addr} {D : Addr} {Ha Hb H' H : Hp} {o : HO} (g : Gr as Ha Hb H' H) (hD : Hb D = none) (h0 : H' D = none) : Gr as Ha Hb H' (upd H D o) := by
  refine ⟨g.e0, fun a o h e => ?_, g.nw, fun a h => ?_, fun a o e => ?_⟩
  · rw [upd_ne (ne_of_none e hD)]
    exact g.e1 a o h e
  · rw [upd_ne (fun z => h (by rw [z]; exact hD))]
    exact g.kp a h
  · rw [upd_ne (ne_of_none e h0)]
    exact g.sub a o e
/-- one turn of the inner walk -/
theorem lc_turn {K : PySem.W.Frag} {as : List Addr} {Ha Hb Hw : Hp} {D : Addr} {xg : XG} {tt : XT} {te : XE} {ρw : List Sl} {σw : L2.St} {vs js : List Nat} {fin : List PyData × Os} {J : It} {items : List PyData}
    (hj : ∀ j ∈ js, j ∈ vs) (nD : D ∉ as) (hD : Hb D = none) (w : WalkD K J items Hw) {i : Nat} {H2 : Hp} (hi : i ≤ items.length) (L : LcW K as Ha Hb Hw D ρw σw (fun acc osi => lcRun xg tt te ρw (items.drop i) acc osi = some fin) H2) :
    (J.stop i H2 ∧ i = items.length ∧ LcW K as Ha Hb Hw D ρw σw (fun acc osi => (acc, osi) = fin) H2) ∨
    (i < items.length ∧ J.go i H2 ∧ ∀ x H3, J.yld i H2 x H3 → gO K xg js x σw H3 fun σ4 H4 => wipe σ4 vs = wipe σw vs ∧ ttO K tt σ4 H4 fun b H5 =>
      if b = true then teO K te σ4 H5 fun y H6 => ∃ acc, H6 D = some (.lst acc) ∧ acc.length < sizeLine ∧ LcW K as Ha Hb Hw D ρw σw (fun acc osi => lcRun xg tt te ρw (items.drop (i + 1)) acc osi = some fin) (upd H6 D (.lst (acc ++ [y])))
      else LcW K as Ha Hb Hw D ρw σw (fun acc osi => lcRun xg tt te ρw (items.drop (i + 1)) acc osi = some fin) H5) := by
  obtain ⟨acc, osi, H2', vacc, nI, gI, eI, h2, h3, h4, hr⟩ := L
  by_cases hlt : i < items.length
  · refine .inr ⟨hlt, w.goes i H2 hlt (eI.trans nI.sub), fun x H3 y => ?_⟩
    obtain ⟨H3', d, g3, hd, r3⟩ := w.yields i H2 x H3 H2' hlt eI nI.sub y
    have n3 := nI.grow g3
    have e3 : items.drop i = d :: items.drop (i + 1) := by
      obtain ⟨_, e⟩ := List.getElem?_eq_some_iff.mp hd
      rw [← e]
      exact List.drop_eq_getElem_cons hlt
    rw [e3] at hr
    simp only [lcRun] at hr
    cases q1 : xg d ρw with
    | none => rw [q1] at hr; cases hr
    | some ρ1 =>
      rw [q1, Option.bind_some] at hr
      refine ⟨as, ρw, osi, H3', d, ρ1, n3, r3, q1, fun σ4 n4 w4 => ⟨w4 vs hj, ?_⟩⟩
      cases q2 : tt ρ1 osi with
      | none => rw [q2] at hr; cases hr
      | some p =>
        obtain ⟨b, os5⟩ := p
        rw [q2, Option.bind_some] at hr
        simp only at hr
        have D3 : H3 D = some (.lst vacc) := g3.e1 D _ (by simp) h3
        have D3' : H3' D = none := keep_none g3 (by simp) h2 (by rw [h3]; simp)
        refine ⟨as, ρ1, osi, H3', b, os5, n4, q2, fun H5' H5 n5 g5 => ?_⟩
        have D5 : H5 D = some (.lst vacc) := g5.e1 D _ nD D3
        have D5' : H5' D = none := keep_none g5 nD D3' (by rw [D3]; simp)
        have gA : Gr as Ha Hb H5' H5 := (gI.tr0 g3).tr g5
        cases b with
        | false =>
          simp only [Bool.false_eq_true, if_false] at hr ⊢
          exact ⟨acc, os5, H5', vacc, n5.back nI (g3.e0.trans g5.e0), gA, eI.trans (g3.e0.trans g5.e0), D5', D5, DaAll.mono (g3.e0.trans g5.e0) _ _ h4, hr⟩
        | true =>
          simp only [if_true] at hr ⊢
          cases q3 : te ρ1 os5 with
          | none => rw [q3] at hr; cases hr
          | some p =>
            obtain ⟨yv, os6⟩ := p
            rw [q3, Option.bind_some] at hr
            simp only at hr
            split at hr
            · rename_i hz
              refine ⟨as, ρ1, os5, H5', yv, os6, n5, q3, fun v H6' H6 n6 g6 r6 => ?_⟩
              have D6 : H6 D = some (.lst vacc) := g6.e1 D _ nD D5
              have D6' : H6' D = none := keep_none g6 nD D5' (by rw [D5]; simp)
              have e6 := (g3.e0.trans g5.e0).trans g6.e0
              have h46 : DaAll K H6' vacc acc := DaAll.mono e6 _ _ h4
              exact ⟨vacc, D6, by rw [h46.len]; exact hz, acc ++ [yv], os6, H6', vacc ++ [v], (n6.back nI e6).away nD (fun a h => upd_ne h) (by rw [upd_same]; simp) D6', gr_upd (gA.tr g6) hD D6', eI.trans e6, D6', upd_same, h46.app (.cons r6 .nil), hr⟩
            · cases hr
  · have e : items.drop i = [] := List.drop_eq_nil_of_le (by omega)
    rw [e] at hr
    exact .inl ⟨by
      have ei : i = items.length := by omega
      rw [ei]
      exact w.stops H2 (eI.trans nI.sub), by omega, acc, osi, H2', vacc, nI, gI, eI, h2, h3, h4, by simpa [lcRun] using hr⟩
section
variable {X : Cx} {elt tg iter tg1 iter1 : Expr} {ifs ifs1 : List Expr} {scope : Scope} {own : List (Str × Nat)} {pos : Pos} {xi xi1 : XI} {xg xg1 : XG} {js js1 : List Nat} {tt tt1 : XT} {te : XE}
theorem to_lc2 {K : PySem.W.Frag} {vs vs1 : List Nat} (hj : ∀ j ∈ js, j ∈ vs) (hj1 : ∀ j ∈ js1, j ∈ vs1) {σ : L2.St} {H : Hp} {Q : VK} (hv : ∀ j ∈ vs1, j ∈ vs) (q : teF K (lc2D xi xg tt xi1 xg1 tt1 te vs vs1) σ H Q) : tLc2 (tiO K xi) (gO K xg js) (ttO K tt) (tiO K xi1) (gO K xg1 js1) (ttO K tt1) (teO K te) vs vs1 σ H Q := by
  obtain ⟨as, ρ, os, H0, ds, os', n, hx, k⟩ := q
  unfold lc2D at hx
  cases h1 : xi ρ os with
  | none => rw [h1] at hx; cases hx
  | some q =>
    obtain ⟨items, os1⟩ := q
    rw [h1, Option.bind_some] at hx
    refine ⟨as, ρ, os, H0, items, os1, n, h1, fun J Ha Hb n1 g1 w => ?_⟩
    intro D hD
    have nD : D ∉ as := fun z => n1.ow.trk D z hD
    refine ⟨fun i m H2 => m = items.length - i ∧ i ≤ items.length ∧ LcW K as Ha Hb Ha D (wipeR ρ vs) (wipe σ vs) (fun acc osi => lc2Run xg tt xi1 xg1 tt1 te vs1 (wipeR ρ vs) (items.drop i) acc osi = some (ds, os')) H2, ⟨items.length, by simp, Nat.zero_le _, [], os1, Ha, [], ?_, ?_, Ex.refl _, fresh_back n1.sub hD, upd_same, .nil, hx⟩, ?_⟩
    · exact (n1.wipe vs).away nD (fun a h => upd_ne h) (by rw [upd_same]; simp) (fresh_back n1.sub hD)
    · exact gr_upd (Gr.refl n1.sub) hD (fresh_back n1.sub hD)
    rintro i m H2 ⟨rfl, hi, acc, osi, H2', vacc, nI, gI, eI, h2, h3, h4, hr⟩
    by_cases hlt : i < items.length
    · refine .inr ⟨w.goes i H2 hlt (eI.trans nI.sub), LcW K as Ha Hb Ha D (wipeR ρ vs) (wipe σ vs) (fun acc osi => lc2Run xg tt xi1 xg1 tt1 te vs1 (wipeR ρ vs) (items.drop (i + 1)) acc osi = some (ds, os')), fun H3 p3 => ⟨items.length - (i + 1), by omega, rfl, hlt, p3⟩, fun x H3 y => ?_⟩
      obtain ⟨H3', d, g3, hd, r3⟩ := w.yields i H2 x H3 H2' hlt eI nI.sub y
      have n3 := nI.grow g3
      have e3 : items.drop i = d :: items.drop (i + 1) := by
        obtain ⟨_, e⟩ := List.getElem?_eq_some_iff.mp hd
        rw [← e]
        exact List.drop_eq_getElem_cons hlt
      rw [e3] at hr
      simp only [lc2Run] at hr
      cases q1 : xg d (wipeR ρ vs) with
      | none => rw [q1] at hr; cases hr
      | some ρ1 =>
        rw [q1, Option.bind_some] at hr
        refine ⟨as, wipeR ρ vs, osi, H3', d, ρ1, n3, r3, q1, fun σ4 n4 w4 => ⟨(w4 vs hj).trans wipe_wipe, ?_⟩⟩
        cases q2 : tt ρ1 osi with
        | none => rw [q2] at hr; cases hr
        | some p =>
          obtain ⟨b, os5⟩ := p
          rw [q2, Option.bind_some] at hr
          simp only at hr
          have D3 : H3 D = some (.lst vacc) := g3.e1 D _ (by simp) h3
          have D3' : H3' D = none := keep_none g3 (by simp) h2 (by rw [h3]; simp)
          refine ⟨as, ρ1, osi, H3', b, os5, n4, q2, fun H5' H5 n5 g5 => ?_⟩
          have D5 : H5 D = some (.lst vacc) := g5.e1 D _ nD D3
          have D5' : H5' D = none := keep_none g5 nD D3' (by rw [D3]; simp)
          have gA : Gr as Ha Hb H5' H5 := (gI.tr0 g3).tr g5
          cases b with
          | false =>
            simp only [Bool.false_eq_true, if_false] at hr ⊢
            exact ⟨acc, os5, H5', vacc, n5.back nI (g3.e0.trans g5.e0), gA, eI.trans (g3.e0.trans g5.e0), D5', D5, DaAll.mono (g3.e0.trans g5.e0) _ _ h4, hr⟩
          | true =>
            simp only [if_true] at hr ⊢
            cases q3 : xi1 ρ1 os5 with
            | none => rw [q3] at hr; cases hr
            | some p =>
              obtain ⟨items1, os6⟩ := p
              rw [q3, Option.bind_some] at hr
              simp only at hr
              cases q4 : lcRun xg1 tt1 te (wipeR ρ1 vs1) items1 acc os6 with
              | none => rw [q4] at hr; cases hr
              | some fin =>
                rw [q4, Option.bind_some] at hr
                refine ⟨as, ρ1, os5, H5', items1, os6, n5, q3, fun J1 H6' H6 n6 g6 w1 => ?_⟩
                have D6 : H6 D = some (.lst vacc) := g6.e1 D _ nD D5
                have D6' : H6' D = none := keep_none g6 nD D5' (by rw [D5]; simp)
                have e6 := (g3.e0.trans g5.e0).trans g6.e0
                refine ⟨fun j kk H => kk = items1.length - j ∧ j ≤ items1.length ∧ LcW K as Ha Hb H6' D (wipeR ρ1 vs1) (wipe σ4 vs1) (fun acc osi => lcRun xg1 tt1 te (wipeR ρ1 vs1) (items1.drop j) acc osi = some fin) H, ⟨items1.length, by simp, Nat.zero_le _, acc, os6, H6', vacc, n6.wipe vs1, gA.tr g6, Ex.refl _, D6', D6, DaAll.mono e6 _ _ h4, by simpa using q4⟩, ?_⟩
                rintro j kk H7 ⟨rfl, hjl, L⟩
                rcases lc_turn hj1 nD hD w1 hjl L with ⟨st, je, acc2, os7, H7', vacc2, n7, g7, e7, z2, z3, z4, z5⟩ | ⟨hlt1, go, ty⟩
                · cases z5
                  refine .inl ⟨st, acc2, os7, H7', vacc2, ?_, g7, eI.trans (e6.trans e7), z2, z3, z4, hr⟩
                  exact n7.back nI (e6.trans e7)
                · refine .inr ⟨go, LcW K as Ha Hb H6' D (wipeR ρ1 vs1) (wipe σ4 vs1) (fun acc osi => lcRun xg1 tt1 te (wipeR ρ1 vs1) (items1.drop (j + 1)) acc osi = some fin), fun H' p' => ⟨items1.length - (j + 1), by omega, rfl, hlt1, p'⟩, fun x H8 y8 => ?_⟩
                  have := ty x H8 y8
                  obtain ⟨as', ρ', os', Hx, dx, ρx, na, ra, xa, ka⟩ := this
                  refine ⟨as', ρ', os', Hx, dx, ρx, na, ra, xa, fun σ9 n9 w9 => ?_⟩
                  obtain ⟨u1, u2⟩ := ka σ9 n9 w9
                  exact ⟨u1.trans wipe_wipe, u2⟩
    · have e : items.drop i = [] := List.drop_eq_nil_of_le (by omega)
      rw [e] at hr
      cases hr
      have ei : i = items.length := by omega
      subst ei
      refine .inl ⟨w.stops H2 (eI.trans nI.sub), k D vacc H2' H2 ?_ ?_ (g1.tr gI) h2 nD h3 h4⟩
      · cases z : H D with
        | none => rfl
        | some u => exact absurd hD (g1.kp D (by rw [z]; simp))
      · exact nI.back n1 gI.e0
theorem pxf_lc2 {vs1 : List Nat} (hc : X.calm = true) (hN : X.N.Nodup) (hi : PXI X tg iter xi) (ok : BlkOk X.N X.env.scope scope own) (hv : ∀ i ∈ vs1, i ∈ own.map (·.2))
    (hg : ∀ (s : Shared) (H : Hp) (C : Addr) (cl : List (Str × Addr)) (fp : List Addr), PXG (X.blk s H scope (compEnvC scope cl C X.env) fp) tg xg js)
    (ht : ∀ (s : Shared) (H : Hp) (C : Addr) (cl : List (Str × Addr)) (fp : List Addr), PXTs (X.blk s H scope (compEnvC scope cl C X.env) fp) ifs tt)
    (hi1 : ∀ (s : Shared) (H : Hp) (C : Addr) (cl : List (Str × Addr)) (fp : List Addr), PXI (X.blk s H scope (compEnvC scope cl C X.env) fp) tg1 iter1 xi1)
    (hg1 : ∀ (s : Shared) (H : Hp) (C : Addr) (cl : List (Str × Addr)) (fp : List Addr), PXG (X.blk s H scope (compEnvC scope cl C X.env) fp) tg1 xg1 js1)
    (ht1 : ∀ (s : Shared) (H : Hp) (C : Addr) (cl : List (Str × Addr)) (fp : List Addr), PXTs (X.blk s H scope (compEnvC scope cl C X.env) fp) ifs1 tt1)
    (he : ∀ (s : Shared) (H : Hp) (C : Addr) (cl : List (Str × Addr)) (fp : List Addr), PX (X.blk s H scope (compEnvC scope cl C X.env) fp) elt te)
    (hj : ∀ j ∈ js, j ∈ own.map (·.2)) (hj1 : ∀ j ∈ js1, j ∈ vs1) (hs : ∀ x, foldedSetIterable iter X.env x = pure x := by intro _; rfl) (hs1 : ∀ env x, foldedSetIterable iter1 env x = pure x := by intro _ _; rfl) :
    PXF X (.ListComp elt [⟨tg, iter, ifs, 0⟩, ⟨tg1, iter1, ifs1, 0⟩] scope pos) (lc2D xi xg tt xi1 xg1 tt1 te (own.map (·.2)) vs1) :=
  pe_imp (pe_lc2 hc hN hi ok hv hg ht hi1 hg1 ht1 he hs hs1) fun _ _ _ q => to_lc2 hj hj1 hv q
end
end DL

set_option Elab.async false
set_option linter.all false
set_option maxRecDepth 100000
set_option maxHeartbeats 4000000
namespace Lw
open PySem PySem.Spec PyProof.Rows L2 Evl DL
/-! the text -/
def topS (i : Nat) : Stmt := PySem.Challenge.pw_supermoves_k19_whole_sides_of_capacity.main.body.getD i (.Pass ⟨0, 0, 0, 0⟩)
abbrev s_is_whole : Stmt := topS 7
abbrev N_is_whole : List Str := ["value"]
theorem sc_is_whole : FnScope N_is_whole ["value"] (defScope s_is_whole) := ⟨rfl, rfl, rfl, by decide +kernel, rfl, by decide +kernel, by decide +kernel⟩
abbrev s_is_from : Stmt := topS 8
abbrev N_is_from : List Str := ["value", "low"]
theorem sc_is_from : FnScope N_is_from ["value", "low"] (defScope s_is_from) := ⟨rfl, rfl, rfl, by decide +kernel, rfl, by decide +kernel, by decide +kernel⟩
abbrev s_is_tuple_of : Stmt := topS 9
abbrev N_is_tuple_of : List Str := ["value", "many"]
theorem sc_is_tuple_of : FnScope N_is_tuple_of ["value", "many"] (defScope s_is_tuple_of) := ⟨rfl, rfl, rfl, by decide +kernel, rfl, by decide +kernel, by decide +kernel⟩
abbrev s_check_from : Stmt := topS 10
abbrev N_check_from : List Str := ["value", "low"]
theorem sc_check_from : FnScope N_check_from ["value", "low"] (defScope s_check_from) := ⟨rfl, rfl, rfl, by decide +kernel, rfl, by decide +kernel, by decide +kernel⟩
abbrev s_is_kind : Stmt := topS 13
abbrev N_is_kind : List Str := ["value"]
theorem sc_is_kind : FnScope N_is_kind ["value"] (defScope s_is_kind) := ⟨rfl, rfl, rfl, by decide +kernel, rfl, by decide +kernel, by decide +kernel⟩
abbrev s_check_kind : Stmt := topS 14
abbrev N_check_kind : List Str := ["kind"]
theorem sc_check_kind : FnScope N_check_kind ["kind"] (defScope s_check_kind) := ⟨rfl, rfl, rfl, by decide +kernel, rfl, by decide +kernel, by decide +kernel⟩
abbrev s_are_tops : Stmt := topS 15
abbrev N_are_tops : List Str := ["value", "low", "high", "top"]
theorem sc_are_tops : FnScope N_are_tops ["value"] (defScope s_are_tops) := ⟨rfl, rfl, rfl, by decide +kernel, rfl, by decide +kernel, by decide +kernel⟩
abbrev s_check_tops : Stmt := topS 16
abbrev N_check_tops : List Str := ["tops"]
theorem sc_check_tops : FnScope N_check_tops ["tops"] (defScope s_check_tops) := ⟨rfl, rfl, rfl, by decide +kernel, rfl, by decide +kernel, by decide +kernel⟩
abbrev s_is_room : Stmt := topS 17
abbrev N_is_room : List Str := ["value", "cells", "empty", "tops"]
theorem sc_is_room : FnScope N_is_room ["value"] (defScope s_is_room) := ⟨rfl, rfl, rfl, by decide +kernel, rfl, by decide +kernel, by decide +kernel⟩
abbrev s_check_room : Stmt := topS 18
abbrev N_check_room : List Str := ["room"]
theorem sc_check_room : FnScope N_check_room ["room"] (defScope s_check_room) := ⟨rfl, rfl, rfl, by decide +kernel, rfl, by decide +kernel, by decide +kernel⟩
abbrev s_check_run : Stmt := topS 20
abbrev N_check_run : List Str := ["kind", "room", "many"]
theorem sc_check_run : FnScope N_check_run ["kind", "room", "many"] (defScope s_check_run) := ⟨rfl, rfl, rfl, by decide +kernel, rfl, by decide +kernel, by decide +kernel⟩
abbrev s_bound_beside : Stmt := topS 21
abbrev N_bound_beside : List Str := ["kind", "cells", "empty"]
theorem sc_bound_beside : FnScope N_bound_beside ["kind", "cells", "empty"] (defScope s_bound_beside) := ⟨rfl, rfl, rfl, by decide +kernel, rfl, by decide +kernel, by decide +kernel⟩
abbrev s_bound_of : Stmt := topS 22
abbrev N_bound_of : List Str := ["kind", "room", "cells", "empty", "_"]
theorem sc_bound_of : FnScope N_bound_of ["kind", "room"] (defScope s_bound_of) := ⟨rfl, rfl, rfl, by decide +kernel, rfl, by decide +kernel, by decide +kernel⟩
abbrev s_bound : Stmt := topS 23
abbrev N_bound : List Str := ["kind", "room"]
theorem sc_bound : FnScope N_bound ["kind", "room"] (defScope s_bound) := ⟨rfl, rfl, rfl, by decide +kernel, rfl, by decide +kernel, by decide +kernel⟩
abbrev s_marks_of : Stmt := topS 24
abbrev N_marks_of : List Str := ["tops", "many", "top"]
theorem sc_marks_of : FnScope N_marks_of ["tops", "many"] (defScope s_marks_of) := ⟨rfl, rfl, rfl, by decide +kernel, rfl, by decide +kernel, by decide +kernel⟩
abbrev s_stretches_of : Stmt := topS 25
abbrev N_stretches_of : List Str := ["tops", "many", "marks", "low", "high"]
theorem sc_stretches_of : FnScope N_stretches_of ["tops", "many"] (defScope s_stretches_of) := ⟨rfl, rfl, rfl, by decide +kernel, rfl, by decide +kernel, by decide +kernel⟩
abbrev s_longest_of : Stmt := topS 26
abbrev N_longest_of : List Str := ["tops", "many", "low", "high"]
theorem sc_longest_of : FnScope N_longest_of ["tops", "many"] (defScope s_longest_of) := ⟨rfl, rfl, rfl, by decide +kernel, rfl, by decide +kernel, by decide +kernel⟩
abbrev s_bars_of : Stmt := topS 27
abbrev N_bars_of : List Str := ["kind", "room", "many", "most", "low", "high"]
theorem sc_bars_of : FnScope N_bars_of ["kind", "room", "many"] (defScope s_bars_of) := ⟨rfl, rfl, rfl, by decide +kernel, rfl, by decide +kernel, by decide +kernel⟩
abbrev s_passes : Stmt := topS 28
abbrev N_passes : List Str := ["kind", "room", "many"]
theorem sc_passes : FnScope N_passes ["kind", "room", "many"] (defScope s_passes) := ⟨rfl, rfl, rfl, by decide +kernel, rfl, by decide +kernel, by decide +kernel⟩
abbrev s_can_pass : Stmt := topS 29
abbrev N_can_pass : List Str := ["kind", "room", "many"]
theorem sc_can_pass : FnScope N_can_pass ["kind", "room", "many"] (defScope s_can_pass) := ⟨rfl, rfl, rfl, by decide +kernel, rfl, by decide +kernel, by decide +kernel⟩
abbrev s_greatest_reached : Stmt := topS 30
abbrev N_greatest_reached : List Str := ["kind", "room", "further", "most", "mark", "top", "wanted"]
theorem sc_greatest_reached : FnScope N_greatest_reached ["kind", "room", "further"] (defScope s_greatest_reached) := ⟨rfl, rfl, rfl, by decide +kernel, rfl, by decide +kernel, by decide +kernel⟩
abbrev s_greatest : Stmt := topS 31
abbrev N_greatest : List Str := ["kind", "room"]
theorem sc_greatest : FnScope N_greatest ["kind", "room"] (defScope s_greatest) := ⟨rfl, rfl, rfl, by decide +kernel, rfl, by decide +kernel, by decide +kernel⟩
abbrev s_barring : Stmt := topS 32
abbrev N_barring : List Str := ["kind", "room", "many"]
theorem sc_barring : FnScope N_barring ["kind", "room", "many"] (defScope s_barring) := ⟨rfl, rfl, rfl, by decide +kernel, rfl, by decide +kernel, by decide +kernel⟩
abbrev s_cells_beside : Stmt := topS 33
abbrev N_cells_beside : List Str := ["kind", "empty", "longest"]
theorem sc_cells_beside : FnScope N_cells_beside ["kind", "empty", "longest"] (defScope s_cells_beside) := ⟨rfl, rfl, rfl, by decide +kernel, rfl, by decide +kernel, by decide +kernel⟩
abbrev s_least_cells : Stmt := topS 34
abbrev N_least_cells : List Str := ["kind", "empty", "tops", "many"]
theorem sc_least_cells : FnScope N_least_cells ["kind", "empty", "tops", "many"] (defScope s_least_cells) := ⟨rfl, rfl, rfl, by decide +kernel, rfl, by decide +kernel, by decide +kernel⟩
abbrev s_fewest_empty : Stmt := topS 35
abbrev N_fewest_empty : List Str := ["kind"]
theorem sc_fewest_empty : FnScope N_fewest_empty ["kind"] (defScope s_fewest_empty) := ⟨rfl, rfl, rfl, by decide +kernel, rfl, by decide +kernel, by decide +kernel⟩
abbrev s_least_empty : Stmt := topS 36
abbrev N_least_empty : List Str := ["kind", "cells", "tops", "many", "longest", "empty"]
theorem sc_least_empty : FnScope N_least_empty ["kind", "cells", "tops", "many"] (defScope s_least_empty) := ⟨rfl, rfl, rfl, by decide +kernel, rfl, by decide +kernel, by decide +kernel⟩
abbrev s_trades : Stmt := topS 37
abbrev N_trades : List Str := ["kind", "tops", "many", "longest", "empty", "found"]
theorem sc_trades : FnScope N_trades ["kind", "tops", "many"] (defScope s_trades) := ⟨rfl, rfl, rfl, by decide +kernel, rfl, by decide +kernel, by decide +kernel⟩
abbrev s_check_passes : Stmt := topS 39
abbrev N_check_passes : List Str := ["kind", "room", "many"]
theorem sc_check_passes : FnScope N_check_passes ["kind", "room", "many"] (defScope s_check_passes) := ⟨rfl, rfl, rfl, by decide +kernel, rfl, by decide +kernel, by decide +kernel⟩
abbrev s_needed_tops : Stmt := topS 40
abbrev N_needed_tops : List Str := ["kind", "room", "many", "most", "marks", "at"]
theorem sc_needed_tops : FnScope N_needed_tops ["kind", "room", "many"] (defScope s_needed_tops) := ⟨rfl, rfl, rfl, by decide +kernel, rfl, by decide +kernel, by decide +kernel⟩
abbrev s_tops_between : Stmt := topS 41
abbrev N_tops_between : List Str := ["low", "high", "most", "wanted", "left"]
theorem sc_tops_between : FnScope N_tops_between ["low", "high", "most"] (defScope s_tops_between) := ⟨rfl, rfl, rfl, by decide +kernel, rfl, by decide +kernel, by decide +kernel⟩
abbrev s_tops_to_add : Stmt := topS 42
abbrev N_tops_to_add : List Str := ["kind", "room", "many", "most", "top", "low", "high"]
theorem sc_tops_to_add : FnScope N_tops_to_add ["kind", "room", "many"] (defScope s_tops_to_add) := ⟨rfl, rfl, rfl, by decide +kernel, rfl, by decide +kernel, by decide +kernel⟩
abbrev s_greatest_with : Stmt := topS 43
abbrev N_greatest_with : List Str := ["kind", "room", "further"]
theorem sc_greatest_with : FnScope N_greatest_with ["kind", "room", "further"] (defScope s_greatest_with) := ⟨rfl, rfl, rfl, by decide +kernel, rfl, by decide +kernel, by decide +kernel⟩
abbrev s_law_cell : Stmt := topS 45
abbrev N_law_cell : List Str := ["script", "index"]
theorem sc_law_cell : FnScope N_law_cell ["script", "index"] (defScope s_law_cell) := ⟨rfl, rfl, rfl, by decide +kernel, rfl, by decide +kernel, by decide +kernel⟩
abbrev s_law_hash : Stmt := topS 46
abbrev N_law_hash : List Str := ["seed", "index", "mixed"]
theorem sc_law_hash : FnScope N_law_hash ["seed", "index"] (defScope s_law_hash) := ⟨rfl, rfl, rfl, by decide +kernel, rfl, by decide +kernel, by decide +kernel⟩
abbrev s_law_generator : Stmt := topS 47
abbrev N_law_generator : List Str := ["script", "index", "seed"]
theorem sc_law_generator : FnScope N_law_generator ["script", "index"] (defScope s_law_generator) := ⟨rfl, rfl, rfl, by decide +kernel, rfl, by decide +kernel, by decide +kernel⟩
abbrev s_law_random : Stmt := topS 48
abbrev N_law_random : List Str := ["generator", "limit", "drawn", "turn"]
theorem sc_law_random : FnScope N_law_random ["generator", "limit"] (defScope s_law_random) := ⟨rfl, rfl, rfl, by decide +kernel, rfl, by decide +kernel, by decide +kernel⟩
abbrev s_law_tops : Stmt := topS 49
abbrev N_law_tops : List Str := ["generator", "many", "most", "top"]
theorem sc_law_tops : FnScope N_law_tops ["generator", "many", "most"] (defScope s_law_tops) := ⟨rfl, rfl, rfl, by decide +kernel, rfl, by decide +kernel, by decide +kernel⟩
abbrev s_law_room : Stmt := topS 50
abbrev N_law_room : List Str := ["generator", "many"]
theorem sc_law_room : FnScope N_law_room ["generator", "many"] (defScope s_law_room) := ⟨rfl, rfl, rfl, by decide +kernel, rfl, by decide +kernel, by decide +kernel⟩
abbrev s_law_great : Stmt := topS 51
abbrev N_law_great : List Str := ["generator", "turn", "tops", "here"]
theorem sc_law_great : FnScope N_law_great ["generator"] (defScope s_law_great) := ⟨rfl, rfl, rfl, by decide +kernel, rfl, by decide +kernel, by decide +kernel⟩
abbrev s_law_greatest : Stmt := topS 52
abbrev N_law_greatest : List Str := ["kind", "room", "top", "cells", "empty", "tops", "most", "last"]
theorem sc_law_greatest : FnScope N_law_greatest ["kind", "room"] (defScope s_law_greatest) := ⟨rfl, rfl, rfl, by decide +kernel, rfl, by decide +kernel, by decide +kernel⟩
abbrev s_law_sides_right : Stmt := topS 53
abbrev N_law_sides_right : List Str := ["kind", "room", "most", "pairs", "top", "cells", "empty", "tops", "few", "wide", "added", "bars", "pair", "other"]
theorem sc_law_sides_right : FnScope N_law_sides_right ["kind", "room"] (defScope s_law_sides_right) := ⟨rfl, rfl, rfl, by decide +kernel, rfl, by decide +kernel, by decide +kernel⟩
abbrev s_law : Stmt := topS 54
abbrev N_law : List Str := ["script", "index", "generator", "room", "kind", "wider", "many"]
theorem sc_law : FnScope N_law ["script"] (defScope s_law) := ⟨rfl, rfl, rfl, by decide +kernel, rfl, by decide +kernel, by decide +kernel⟩
/-! the mirrors -/
def c_KINDS : List PyData := [.str "over", .str "into", .str "whole"]
/-! def is_whole -/
def b_is_whole : SE :=
  (sRet (xAndV (xUn (isiD "int") (xVar 0)) (xUn notD (xUn (isiD "bool") (xVar 0)))))
def m_is_whole : XM := mOf 1 1 b_is_whole
/-! def is_from -/
def b_is_from : SE :=
  (sRet (xAndV (xFn m_is_whole (xaD (xVar 0) xaNil)) (xOp geD (xVar 0) (xVar 1))))
def m_is_from : XM := mOf 2 2 b_is_from
/-! def is_tuple_of -/
def b_is_tuple_of : SE :=
  (sRet (xAndV (xUn (isiD "tuple") (xVar 0)) (xOp eqD (xCall lenD (xaD (xVar 0) xaNil)) (xVar 1))))
def m_is_tuple_of : XM := mOf 2 2 b_is_tuple_of
/-! def check_from -/
def b_check_from : SE :=
  (sIf (xNotT (xTruth (xFn m_is_from (xaD (xVar 0) (xaD (xVar 1) xaNil)))))
  sNever
  sNext)
def m_check_from : XM := mOf 2 2 b_check_from
/-! def is_kind -/
def b_is_kind : SE :=
  (sRet (xOp (inD false) (xVar 0) (xC (.tuple c_KINDS))))
def m_is_kind : XM := mOf 1 1 b_is_kind
/-! def check_kind -/
def b_check_kind : SE :=
  (sIf (xNotT (xTruth (xFn m_is_kind (xaD (xVar 0) xaNil))))
  sNever
  sNext)
def m_check_kind : XM := mOf 1 1 b_check_kind
/-! def are_tops -/
def b_are_tops : SE :=
  (sSeq (sIf (xOrT (xNotT (xTruth (xUn (isiD "list") (xVar 0)))) (xNotT (xTruth (xCall allD (xaD (xF (lcD (iLst (xVar 0)) (gNm 3) xYes (xFn m_is_from (xaD (xVar 3) (xaD (xC (.int 1)) xaNil))) [3])) xaNil)))))
  (sRet (xC (.bool false)))
  sNext)
  (sRet (xCall allD (xaD (xF (lcD (iZp (xaD (xVar 0) (xaD (xF (xSl (xVar 0) (oSome (xC (.int 1))) oNone)) xaNil))) (gTp 2 (gsCons (gNm 1) (gsCons (gNm 2) gsNil))) xYes (xOp ltD (xVar 1) (xVar 2)) [1, 2])) xaNil))))
def m_are_tops : XM := mOf 1 4 b_are_tops
/-! def check_tops -/
def b_check_tops : SE :=
  (sIf (xNotT (xTruth (xFn m_are_tops (xaD (xVar 0) xaNil))))
  sNever
  sNext)
def m_check_tops : XM := mOf 1 1 b_check_tops
/-! def is_room -/
def b_is_room : SE :=
  (sSeq (sIf (xNotT (xTruth (xFn m_is_tuple_of (xaD (xVar 0) (xaD (xC (.int 3)) xaNil)))))
  (sRet (xC (.bool false)))
  sNext)
  (sSeq (sAsg (xVar 0) (gTp 3 (gsCons (gNm 1) (gsCons (gNm 2) (gsCons (gNm 3) gsNil)))))
  (sRet (xAndV (xFn m_is_from (xaD (xVar 1) (xaD (xC (.int 0)) xaNil))) (xAndV (xFn m_is_from (xaD (xVar 2) (xaD (xC (.int 0)) xaNil))) (xFn m_are_tops (xaD (xVar 3) xaNil)))))))
def m_is_room : XM := mOf 1 4 b_is_room
/-! def check_room -/
def b_check_room : SE :=
  (sIf (xNotT (xTruth (xFn m_is_room (xaD (xVar 0) xaNil))))
  sNever
  sNext)
def m_check_room : XM := mOf 1 1 b_check_room
/-! def check_run -/
def b_check_run : SE :=
  (sSeq (sDrop (xFn m_check_kind (xaD (xVar 0) xaNil)))
  (sSeq (sDrop (xFn m_check_room (xaD (xVar 1) xaNil)))
  (sDrop (xFn m_check_from (xaD (xVar 2) (xaD (xC (.int 1)) xaNil))))))
def m_check_run : XM := mOf 3 3 b_check_run
/-! def bound_beside -/
def b_bound_beside : SE :=
  (sSeq (sIf (xBool (xOp neD (xVar 0) (xC (.str "into"))))
  (sRet (xOp shlD (xOp addD (xVar 1) (xC (.int 1))) (xVar 2)))
  sNext)
  (sRet (xIf (xBool (xOp gtD (xVar 2) (xC (.int 0)))) (xOp shlD (xOp addD (xVar 1) (xC (.int 1))) (xOp subD (xVar 2) (xC (.int 1)))) (xC (.int 0)))))
def m_bound_beside : XM := mOf 3 3 b_bound_beside
/-! def bound_of -/
def b_bound_of : SE :=
  (sSeq (sAsg (xVar 1) (gTp 3 (gsCons (gNm 2) (gsCons (gNm 3) (gsCons (gNm 4) gsNil)))))
  (sRet (xFn m_bound_beside (xaD (xVar 0) (xaD (xVar 2) (xaD (xVar 3) xaNil))))))
def m_bound_of : XM := mOf 2 5 b_bound_of
/-! def bound -/
def b_bound : SE :=
  (sSeq (sDrop (xFn m_check_kind (xaD (xVar 0) xaNil)))
  (sSeq (sDrop (xFn m_check_room (xaD (xVar 1) xaNil)))
  (sRet (xFn m_bound_of (xaD (xVar 0) (xaD (xVar 1) xaNil))))))
def m_bound : XM := mOf 2 2 b_bound
/-! def marks_of -/
def b_marks_of : SE :=
  (sRet (xOp addD (xOp addD (xCall lstD (xaD (xC (.int 0)) xaNil)) (xF (lcD (iLst (xVar 0)) (gNm 2) (xBool (xOp ltD (xVar 2) (xVar 1))) (xVar 2) [2]))) (xCall lstD (xaD (xVar 1) xaNil))))
def m_marks_of : XM := mOf 2 3 b_marks_of
/-! def stretches_of -/
def b_stretches_of : SE :=
  (sSeq (sAsg (xFn m_marks_of (xaD (xVar 0) (xaD (xVar 1) xaNil))) (gNm 2))
  (sRet (xF (lcD (iZp (xaD (xVar 2) (xaD (xF (xSl (xVar 2) (oSome (xC (.int 1))) oNone)) xaNil))) (gTp 2 (gsCons (gNm 3) (gsCons (gNm 4) gsNil))) xYes (xCall tupD (xaD (xVar 3) (xaD (xVar 4) xaNil))) [3, 4]))))
def m_stretches_of : XM := mOf 2 5 b_stretches_of
/-! def longest_of -/
def b_longest_of : SE :=
  (sRet (xCall maxD (xaD (xF (lcD (iLst (xFn m_stretches_of (xaD (xVar 0) (xaD (xVar 1) xaNil)))) (gTp 2 (gsCons (gNm 2) (gsCons (gNm 3) gsNil))) xYes (xOp subD (xVar 3) (xVar 2)) [2, 3])) xaNil)))
def m_longest_of : XM := mOf 2 4 b_longest_of
/-! def bars_of -/
def b_bars_of (n0 : Nat) : SE :=
  (sSeq (sAsg (xFn m_bound_of (xaD (xVar 0) (xaD (xVar 1) xaNil))) (gNm 3))
  (sRetF (lcD (iLst (xFn m_stretches_of (xaD (xOp ixD (xVar 1) (xC (.int 2))) (xaD (xVar 2) xaNil)))) (gTp 2 (gsCons (gNm 4) (gsCons (gNm 5) gsNil))) (xBool (xOp gtD (xOp subD (xVar 5) (xVar 4)) (xVar 3))) (xCall tupD (xaD (xVar 4) (xaD (xVar 5) xaNil))) [4, 5])))
def m_bars_of : XMF := mOfF 3 6 b_bars_of
/-! def passes -/
def b_passes : SE :=
  (sRet (xOp leD (xFn m_longest_of (xaD (xOp ixD (xVar 1) (xC (.int 2))) (xaD (xVar 2) xaNil))) (xFn m_bound_of (xaD (xVar 0) (xaD (xVar 1) xaNil)))))
def m_passes : XM := mOf 3 3 b_passes
/-! def can_pass -/
def b_can_pass : SE :=
  (sSeq (sDrop (xFn m_check_run (xaD (xVar 0) (xaD (xVar 1) (xaD (xVar 2) xaNil)))))
  (sRet (xFn m_passes (xaD (xVar 0) (xaD (xVar 1) (xaD (xVar 2) xaNil))))))
def m_can_pass : XM := mOf 3 3 b_can_pass
/-! def greatest_reached -/
def b_greatest_reached : SE :=
  (sSeq (sAsg (xFn m_bound_of (xaD (xVar 0) (xaD (xVar 1) xaNil))) (gNm 3))
  (sSeq (sIf (xBool (xOp eqD (xVar 3) (xC (.int 0))))
  (sRet (xC (.int 0)))
  sNext)
  (sSeq (sAsg (xC (.int 0)) (gNm 4))
  (sSeq (sFor (iLst (xOp ixD (xVar 1) (xC (.int 2)))) (gNm 5)
  (sSeq (sAsg (xOp fdivD (xOp subD (xOp subD (xVar 5) (xVar 4)) (xC (.int 1))) (xVar 3)) (gNm 6))
  (sSeq (sIf (xBool (xOp gtD (xVar 6) (xVar 2)))
  sBrk
  sNext)
  (sSeq (sAug 2 (fun i j => i - j) (xVar 6))
  (sAsg (xVar 5) (gNm 4))))))
  (sRet (xOp addD (xVar 4) (xOp mulD (xOp addD (xVar 2) (xC (.int 1))) (xVar 3))))))))
def m_greatest_reached : XM := mOf 3 7 b_greatest_reached
/-! def greatest -/
def b_greatest : SE :=
  (sSeq (sDrop (xFn m_check_kind (xaD (xVar 0) xaNil)))
  (sSeq (sDrop (xFn m_check_room (xaD (xVar 1) xaNil)))
  (sRet (xFn m_greatest_reached (xaD (xVar 0) (xaD (xVar 1) (xaD (xC (.int 0)) xaNil)))))))
def m_greatest : XM := mOf 2 2 b_greatest
/-! def barring -/
def b_barring (n0 : Nat) : SE :=
  (sSeq (sDrop (xFn m_check_run (xaD (xVar 0) (xaD (xVar 1) (xaD (xVar 2) xaNil)))))
  (sRetF (fFn m_bars_of (xaD (xVar 0) (xaD (xVar 1) (xaD (xVar 2) xaNil))))))
def m_barring : XMF := mOfF 3 3 b_barring
/-! def cells_beside -/
def b_cells_beside : SE :=
  (sRet (xOp fdivD (xOp subD (xVar 2) (xC (.int 1))) (xFn m_bound_beside (xaD (xVar 0) (xaD (xC (.int 0)) (xaD (xVar 1) xaNil))))))
def m_cells_beside : XM := mOf 3 3 b_cells_beside
/-! def least_cells -/
def b_least_cells : SE :=
  (sSeq (sDrop (xFn m_check_kind (xaD (xVar 0) xaNil)))
  (sSeq (sDrop (xFn m_check_from (xaD (xVar 1) (xaD (xC (.int 0)) xaNil))))
  (sSeq (sDrop (xFn m_check_tops (xaD (xVar 2) xaNil)))
  (sSeq (sDrop (xFn m_check_from (xaD (xVar 3) (xaD (xC (.int 1)) xaNil))))
  (sSeq (sIf (xAndT (xBool (xOp eqD (xVar 0) (xC (.str "into")))) (xBool (xOp eqD (xVar 1) (xC (.int 0)))))
  (sRet (xC .none))
  sNext)
  (sRet (xFn m_cells_beside (xaD (xVar 0) (xaD (xVar 1) (xaD (xFn m_longest_of (xaD (xVar 2) (xaD (xVar 3) xaNil))) xaNil))))))))))
def m_least_cells : XM := mOf 4 4 b_least_cells
/-! def fewest_empty -/
def b_fewest_empty : SE :=
  (sRet (xIf (xBool (xOp eqD (xVar 0) (xC (.str "into")))) (xC (.int 1)) (xC (.int 0))))
def m_fewest_empty : XM := mOf 1 1 b_fewest_empty
/-! def least_empty -/
def b_least_empty : SE :=
  (sSeq (sDrop (xFn m_check_kind (xaD (xVar 0) xaNil)))
  (sSeq (sDrop (xFn m_check_from (xaD (xVar 1) (xaD (xC (.int 0)) xaNil))))
  (sSeq (sDrop (xFn m_check_tops (xaD (xVar 2) xaNil)))
  (sSeq (sDrop (xFn m_check_from (xaD (xVar 3) (xaD (xC (.int 1)) xaNil))))
  (sSeq (sAsg (xFn m_longest_of (xaD (xVar 2) (xaD (xVar 3) xaNil))) (gNm 4))
  (sSeq (sAsg (xFn m_fewest_empty (xaD (xVar 0) xaNil)) (gNm 5))
  (sSeq (sWhile 1000 (xBool (xOp ltD (xFn m_bound_beside (xaD (xVar 0) (xaD (xVar 1) (xaD (xVar 5) xaNil)))) (xVar 4)))
  (sAug 5 (fun i j => i + j) (xC (.int 1))))
  (sRet (xVar 5)))))))))
def m_least_empty : XM := mOf 4 6 b_least_empty
/-! def trades -/
def b_trades (n0 : Nat) : SE :=
  (sSeq (sDrop (xFn m_check_kind (xaD (xVar 0) xaNil)))
  (sSeq (sDrop (xFn m_check_tops (xaD (xVar 1) xaNil)))
  (sSeq (sDrop (xFn m_check_from (xaD (xVar 2) (xaD (xC (.int 1)) xaNil))))
  (sSeq (sAsg (xFn m_longest_of (xaD (xVar 1) (xaD (xVar 2) xaNil))) (gNm 3))
  (sSeq (sAsg (xFn m_fewest_empty (xaD (xVar 0) xaNil)) (gNm 4))
  (sSeq (sOwn 5 (fLst (xaD (xCall tupD (xaD (xFn m_cells_beside (xaD (xVar 0) (xaD (xVar 4) (xaD (xVar 3) xaNil)))) (xaD (xVar 4) xaNil))) xaNil)))
  (sSeq (sWhile 1000 (tView (xBool (xOp gtD (xOp ixD (xOp ixD (xVar 5) (xUn negD (xC (.int 1)))) (xC (.int 0))) (xC (.int 0)))))
  (sSeq (sAug 4 (fun i j => i + j) (xC (.int 1)))
  (sApp 5 (xCall tupD (xaD (xFn m_cells_beside (xaD (xVar 0) (xaD (xVar 4) (xaD (xVar 3) xaNil)))) (xaD (xVar 4) xaNil))))))
  (sFrz 5 (sRetF (fRev (xVar 5)))))))))))
def m_trades : XMF := mOfF 3 6 b_trades
/-! def check_passes -/
def b_check_passes : SE :=
  (sSeq (sDrop (xFn m_check_run (xaD (xVar 0) (xaD (xVar 1) (xaD (xVar 2) xaNil)))))
  (sIf (xNotT (xTruth (xFn m_passes (xaD (xVar 0) (xaD (xVar 1) (xaD (xVar 2) xaNil))))))
  sNever
  sNext))
def m_check_passes : XM := mOf 3 3 b_check_passes
/-! def needed_tops -/
def b_needed_tops : SE :=
  (sSeq (sDrop (xFn m_check_passes (xaD (xVar 0) (xaD (xVar 1) (xaD (xVar 2) xaNil)))))
  (sSeq (sAsg (xFn m_bound_of (xaD (xVar 0) (xaD (xVar 1) xaNil))) (gNm 3))
  (sSeq (sAsg (xFn m_marks_of (xaD (xOp ixD (xVar 1) (xC (.int 2))) (xaD (xVar 2) xaNil))) (gNm 4))
  (sRet (xF (lcD (iRg (xaD (xC (.int 1)) (xaD (xOp subD (xCall lenD (xaD (xVar 4) xaNil)) (xC (.int 1))) xaNil))) (gNm 5) (xBool (xOp gtD (xOp subD (xOp ixD (xVar 4) (xOp addD (xVar 5) (xC (.int 1)))) (xOp ixD (xVar 4) (xOp subD (xVar 5) (xC (.int 1))))) (xVar 3))) (xOp ixD (xVar 4) (xVar 5)) [5]))))))
def m_needed_tops : XM := mOf 3 6 b_needed_tops
/-! def tops_between -/
def b_tops_between : SE :=
  (sSeq (sAsg (xOp fdivD (xOp subD (xOp subD (xVar 1) (xVar 0)) (xC (.int 1))) (xVar 2)) (gNm 3))
  (sRet (xF (lcD (iRgR (rg2 (xC (.int 1)) (xOp addD (xVar 3) (xC (.int 1))))) (gNm 4) xYes (xOp subD (xVar 1) (xOp mulD (xVar 2) (xVar 4))) [4]))))
def m_tops_between : XM := mOf 3 5 b_tops_between
/-! def tops_to_add -/
def b_tops_to_add : SE :=
  (sSeq (sDrop (xFn m_check_run (xaD (xVar 0) (xaD (xVar 1) (xaD (xVar 2) xaNil)))))
  (sSeq (sAsg (xFn m_bound_of (xaD (xVar 0) (xaD (xVar 1) xaNil))) (gNm 3))
  (sSeq (sIf (xBool (xOp eqD (xVar 3) (xC (.int 0))))
  sNever
  sNext)
  (sRet (xF (lc2D (iLst (xFn m_stretches_of (xaD (xOp ixD (xVar 1) (xC (.int 2))) (xaD (xVar 2) xaNil)))) (gTp 2 (gsCons (gNm 5) (gsCons (gNm 6) gsNil))) xYes (iLst (xFn m_tops_between (xaD (xVar 5) (xaD (xVar 6) (xaD (xVar 3) xaNil))))) (gNm 4) xYes (xVar 4) [5, 6, 4] [4]))))))
def m_tops_to_add : XM := mOf 3 7 b_tops_to_add
/-! def greatest_with -/
def b_greatest_with : SE :=
  (sSeq (sDrop (xFn m_check_kind (xaD (xVar 0) xaNil)))
  (sSeq (sDrop (xFn m_check_room (xaD (xVar 1) xaNil)))
  (sSeq (sDrop (xFn m_check_from (xaD (xVar 2) (xaD (xC (.int 0)) xaNil))))
  (sRet (xFn m_greatest_reached (xaD (xVar 0) (xaD (xVar 1) (xaD (xVar 2) xaNil))))))))
def m_greatest_with : XM := mOf 3 3 b_greatest_with
/-! def law_cell -/
def b_law_cell : SE :=
  (sSeq (sIf (xBool (xOp ltD (xVar 1) (xCall lenD (xaD (xVar 0) xaNil))))
  (sRet (xOp ixD (xVar 0) (xVar 1)))
  sNext)
  (sRet (xOp modD (xCall sumD (xaD (xF (xSl (xVar 0) oNone (oSome (xC (.int 1))))) xaNil)) (xC (.int 1000003)))))
def m_law_cell : XM := mOf 2 2 b_law_cell
/-! def law_hash -/
def b_law_hash : SE :=
  (sSeq (sAsg (xOp modD (xCall intD (xaD (xOp addD (xOp addD (xOp addD (xOp mulD (xVar 0) (xC (.int 1140671))) (xOp mulD (xOp mulD (xC (.int 27644437)) (xVar 1)) (xVar 1))) (xOp mulD (xC (.int 131)) (xVar 1))) (xC (.int 19))) xaNil)) (xC (.int 2147483629))) (gNm 2))
  (sSeq (sAsg (xOp modD (xCall intD (xaD (xOp addD (xOp addD (xOp mulD (xVar 2) (xVar 2)) (xOp mulD (xC (.int 62089)) (xVar 1))) (xC (.int 32416187))) xaNil)) (xC (.int 2147483587))) (gNm 2))
  (sRet (xOp modD (xCall intD (xaD (xOp mulD (xVar 2) (xC (.int 48271))) xaNil)) (xC (.int 2147483647))))))
def m_law_hash : XM := mOf 2 3 b_law_hash
/-! def law_generator -/
def b_law_generator (n0 : Nat) : SE :=
  (sSeq (sAsg (xFn m_law_cell (xaD (xVar 0) (xaD (xVar 1) xaNil))) (gNm 2))
  (sRetF (fLst (xaD (xOp modD (xCall intD (xaD (xCall maxD (xaD (xOp subD (xVar 2) (xOp powD (xC (.int 10)) (xC (.int 18)))) (xaD (xC (.int 0)) xaNil))) xaNil)) (xOp powD (xOp powD (xC (.int 10)) (xC (.int 60))) (xC (.int 10)))) (xaD (xOp modD (xCall intD (xaD (xVar 2) xaNil)) (xC (.int 2147483647))) (xaD (xOp mulD (xC (.int 1000)) (xVar 1)) xaNil))))))
def m_law_generator : XMF := mOfF 2 3 b_law_generator
/-! def law_random -/
def b_law_random : SE :=
  (sSeq (sIf (tView (xBool (xOp gtD (xOp ixD (xVar 0) (xC (.int 0))) (xC (.int 0)))))
  (sSeq (sAsg (xView (xOp modD (xCall intD (xaD (xOp ixD (xVar 0) (xC (.int 0))) xaNil)) (xVar 1))) (gNm 2))
  (sSeq (sSet 0 (xC (.int 0)) (xView (xOp fdivD (xOp ixD (xVar 0) (xC (.int 0))) (xVar 1))))
  (sRet (xVar 2))))
  sNext)
  (sSeq (sAsg (xC (.int 0)) (gNm 2))
  (sSeq (sFor (iRg (xaD (xOp addD (xC (.int 1)) (xOp fdivD (xUn bitsD (xVar 1)) (xC (.int 30)))) xaNil)) (gNm 3)
  (sSeq (sSet 0 (xC (.int 2)) (xView (xOp addD (xOp ixD (xVar 0) (xC (.int 2))) (xC (.int 1)))))
  (sAsg (xView (xOp addD (xOp mulD (xVar 2) (xC (.int 2147483587))) (xFn m_law_hash (xaD (xOp ixD (xVar 0) (xC (.int 1))) (xaD (xOp ixD (xVar 0) (xC (.int 2))) xaNil))))) (gNm 2))))
  (sRet (xOp modD (xCall intD (xaD (xVar 2) xaNil)) (xVar 1))))))
def m_law_random : XM := mOf 2 4 b_law_random
/-! def law_tops -/
def b_law_tops : SE :=
  (sRet (xF (lcD (iRg (xaD (xC (.int 1)) (xaD (xOp addD (xVar 1) (xC (.int 1))) xaNil))) (gNm 3) (xBool (xOp ltD (xFn m_law_random (xaO 0 (xaD (xVar 1) xaNil))) (xVar 2))) (xVar 3) [3])))
def m_law_tops : XM := mOf 3 4 b_law_tops
/-! def law_room -/
def b_law_room : SE :=
  (sRet (xCall tupD (xaD (xFn m_law_random (xaO 0 (xaD (xC (.int 3)) xaNil))) (xaD (xFn m_law_random (xaO 0 (xaD (xC (.int 3)) xaNil))) (xaD (xFn m_law_tops (xaO 0 (xaD (xVar 1) (xaD (xC (.int 2)) xaNil)))) xaNil)))))
def m_law_room : XM := mOf 2 2 b_law_room
/-! def law_great -/
def b_law_great : SE :=
  (sSeq (sParO 2 3 (fLst xaNil) (xC (.int 0)))
  (sSeq (sFor (iRg (xaD (xFn m_law_random (xaO 0 (xaD (xC (.int 8)) xaNil))) xaNil)) (gNm 1)
  (sSeq (sAsg (xOp addD (xOp addD (xVar 3) (xC (.int 1))) (xFn m_law_random (xaO 0 (xaD (xOp ixD (xCall lstD (xaD (xC (.int 10)) (xaD (xOp powD (xC (.int 10)) (xC (.int 6))) (xaD (xOp powD (xC (.int 10)) (xC (.int 24))) xaNil)))) (xFn m_law_random (xaO 0 (xaD (xC (.int 3)) xaNil)))) xaNil)))) (gNm 3))
  (sApp 2 (xVar 3))))
  (sFrz 2 (sRet (xCall tupD (xaD (xFn m_law_random (xaO 0 (xaD (xOp ixD (xCall lstD (xaD (xC (.int 4)) (xaD (xOp powD (xC (.int 10)) (xC (.int 6))) (xaD (xOp powD (xC (.int 10)) (xC (.int 10))) xaNil)))) (xFn m_law_random (xaO 0 (xaD (xC (.int 3)) xaNil)))) xaNil))) (xaD (xFn m_law_random (xaO 0 (xaD (xOp ixD (xCall lstD (xaD (xC (.int 4)) (xaD (xC (.int 12)) (xaD (xC (.int 60)) xaNil)))) (xFn m_law_random (xaO 0 (xaD (xC (.int 3)) xaNil)))) xaNil))) (xaD (xVar 2) xaNil))))))))
def m_law_great : XM := mOf 1 4 b_law_great
/-! def law_greatest -/
def b_law_greatest : SE :=
  (sSeq (sAsg (xVar 1) (gTp 3 (gsCons (gNm 3) (gsCons (gNm 4) (gsCons (gNm 5) gsNil)))))
  (sSeq (sPar 6 7 (xIf (xAndT (xBool (xOp eqD (xVar 0) (xC (.str "into")))) (xBool (xOp eqD (xVar 4) (xC (.int 0))))) (xC (.int 0)) (xOp mulD (xOp addD (xVar 3) (xC (.int 1))) (xOp shlD (xC (.int 1)) (xOp subD (xVar 4) (xCall intD (xaD (xOp eqD (xVar 0) (xC (.str "into"))) xaNil)))))) (xC (.int 0)))
  (sSeq (sFor (iLst (xVar 5)) (gNm 2)
  (sAsg (xIf (xAndT (xBool (xOp gtD (xVar 6) (xC (.int 0)))) (xBool (xOp leD (xOp subD (xVar 2) (xVar 7)) (xVar 6)))) (xVar 2) (xVar 7)) (gNm 7)))
  (sRet (xIf (xBool (xOp gtD (xVar 6) (xC (.int 0)))) (xOp addD (xVar 7) (xVar 6)) (xC (.int 0)))))))
def m_law_greatest : XM := mOf 2 8 b_law_greatest
/-! def law_sides_right -/
def b_law_sides_right : SE :=
  (sSeq (sAsg (xVar 1) (gTp 3 (gsCons (gNm 5) (gsCons (gNm 6) (gsCons (gNm 7) gsNil)))))
  (sSeq (sAsg (xFn m_greatest (xaD (xVar 0) (xaD (xVar 1) xaNil))) (gNm 2))
  (sSeq (sIf (xBool (xOp neD (xCall reprD (xaD (xVar 2) xaNil)) (xCall reprD (xaD (xFn m_law_greatest (xaD (xVar 0) (xaD (xVar 1) xaNil))) xaNil))))
  (sRet (xC (.bool false)))
  sNext)
  (sSeq (sIf (xBool (xOp eqD (xVar 2) (xC (.int 0))))
  (sRet (xAndV (xOp eqD (xVar 0) (xC (.str "into"))) (xAndV (xOp eqD (xVar 6) (xC (.int 0))) (xOp eqD (xFn m_greatest_with (xaD (xVar 0) (xaD (xVar 1) (xaD (xC (.int 5)) xaNil)))) (xC (.int 0))))))
  sNext)
  (sSeq (sPar 8 9 (xFn m_least_cells (xaD (xVar 0) (xaD (xVar 6) (xaD (xVar 7) (xaD (xVar 2) xaNil))))) (xFn m_least_empty (xaD (xVar 0) (xaD (xVar 5) (xaD (xVar 7) (xaD (xVar 2) xaNil))))))
  (sSeq (sIf (xOrT (xBool (xOp gtD (xVar 8) (xVar 5))) (xOrT (xBool (xOp gtD (xVar 9) (xVar 6))) (xOrT (xBool (xOp (isD true) (xFn m_can_pass (xaD (xVar 0) (xaD (xCall tupD (xaD (xVar 8) (xaD (xVar 6) (xaD (xVar 7) xaNil)))) (xaD (xVar 2) xaNil)))) (xC (.bool true)))) (xBool (xOp (isD true) (xFn m_can_pass (xaD (xVar 0) (xaD (xCall tupD (xaD (xVar 5) (xaD (xVar 9) (xaD (xVar 7) xaNil)))) (xaD (xVar 2) xaNil)))) (xC (.bool true)))))))
  (sRet (xC (.bool false)))
  sNext)
  (sSeq (sIf (xOrT (xBool (xOp leD (xFn m_least_cells (xaD (xVar 0) (xaD (xVar 6) (xaD (xVar 7) (xaD (xOp addD (xVar 2) (xC (.int 1))) xaNil))))) (xVar 5))) (xBool (xOp leD (xFn m_least_empty (xaD (xVar 0) (xaD (xVar 5) (xaD (xVar 7) (xaD (xOp addD (xVar 2) (xC (.int 1))) xaNil))))) (xVar 6))))
  (sRet (xC (.bool false)))
  sNext)
  (sSeq (sPar 10 11 (xFn m_tops_to_add (xaD (xVar 0) (xaD (xVar 1) (xaD (xOp addD (xVar 2) (xC (.int 1))) xaNil)))) (xF (fFn m_barring (xaD (xVar 0) (xaD (xVar 1) (xaD (xOp addD (xVar 2) (xC (.int 1))) xaNil))))))
  (sSeq (sIf (xOrT (xBool (xOp neD (xCall lenD (xaD (xVar 11) xaNil)) (xC (.int 1)))) (xOrT (xBool (xOp eqD (xVar 10) (xCall lstD xaNil))) (xAndT (xBool (xOp eqD (xCall lenD (xaD (xVar 10) xaNil)) (xC (.int 1)))) (xBool (xOp ltD (xFn m_greatest_with (xaD (xVar 0) (xaD (xVar 1) (xaD (xC (.int 1)) xaNil)))) (xOp addD (xVar 2) (xC (.int 1))))))))
  (sRet (xC (.bool false)))
  sNext)
  (sSeq (sAsg (xF (lcD (iLst (xF (fFn m_trades (xaD (xVar 0) (xaD (xVar 7) (xaD (xVar 2) xaNil)))))) (gNm 12) (xAndT (xBool (xOp leD (xOp ixD (xVar 12) (xC (.int 0))) (xVar 5))) (xBool (xOp leD (xOp ixD (xVar 12) (xC (.int 1))) (xVar 6)))) (xVar 12) [12])) (gNm 3))
  (sSeq (sIf (xOrT (xBool (xOp eqD (xVar 3) (xCall lstD xaNil))) (xBool (xOp neD (xFn m_greatest_with (xaD (xVar 0) (xaD (xVar 1) (xaD (xC (.int 0)) xaNil)))) (xVar 2))))
  (sRet (xC (.bool false)))
  sNext)
  (sSeq (sFor (iLst (xFn m_needed_tops (xaD (xVar 0) (xaD (xVar 1) (xaD (xVar 2) xaNil))))) (gNm 4)
  (sIf (xBool (xOp geD (xFn m_greatest (xaD (xVar 0) (xaD (xCall tupD (xaD (xVar 5) (xaD (xVar 6) (xaD (xF (lcD (iLst (xVar 7)) (gNm 13) (xBool (xOp neD (xVar 13) (xVar 4))) (xVar 13) [13])) xaNil)))) xaNil))) (xVar 2)))
  (sRet (xC (.bool false)))
  sNext))
  (sRet (xC (.bool true)))))))))))))))
def m_law_sides_right : XM := mOf 2 14 b_law_sides_right
/-! def law -/
def b_law : SE :=
  (sSeq (sFor (iRg (xaD (xC (.int 4)) xaNil)) (gNm 1)
  (sSeq (sOwn 2 (fFn m_law_generator (xaD (xVar 0) (xaD (xVar 1) xaNil))))
  (sSeq (sAsg (xIf (xBool (xOp ltD (xVar 1) (xC (.int 2)))) (xFn m_law_room (xaO 2 (xaD (xC (.int 9)) xaNil))) (xFn m_law_great (xaO 2 xaNil))) (gNm 3))
  (sSeq (sFor (iLst (xCall lstD (xaD (xC (.str "over")) (xaD (xC (.str "into")) (xaD (xC (.str "whole")) xaNil))))) (gNm 4)
  (sIf (xNotT (xTruth (xFn m_law_sides_right (xaD (xVar 4) (xaD (xVar 3) xaNil)))))
  (sRet (xC (.bool false)))
  sNext))
  (sSeq (sAsg (xCall tupD (xaD (xOp ixD (xVar 3) (xC (.int 0))) (xaD (xOp addD (xOp ixD (xVar 3) (xC (.int 1))) (xC (.int 1))) (xaD (xOp ixD (xVar 3) (xC (.int 2))) xaNil)))) (gNm 5))
  (sSeq (sIf (xOrT (xNotT (xBool (xChain eqD eqD (xFn m_bound (xaD (xC (.str "into")) (xaD (xVar 5) xaNil))) (xFn m_bound (xaD (xC (.str "over")) (xaD (xVar 3) xaNil))) (xFn m_bound (xaD (xC (.str "whole")) (xaD (xVar 3) xaNil)))))) (xBool (xOp neD (xFn m_greatest (xaD (xC (.str "into")) (xaD (xVar 5) xaNil))) (xFn m_greatest (xaD (xC (.str "over")) (xaD (xVar 3) xaNil))))))
  (sRet (xC (.bool false)))
  sNext)
  (sSeq (sAsg (xOp addD (xC (.int 2)) (xFn m_law_random (xaO 2 (xaD (xC (.int 20)) xaNil)))) (gNm 6))
  (sIf (xOrT (xBool (xOp (isD true) (xFn m_can_pass (xaD (xC (.str "over")) (xaD (xCall tupD (xaD (xC (.int 0)) (xaD (xC (.int 0)) (xaD (xF (fRng (rg2 (xC (.int 1)) (xVar 6)))) xaNil)))) (xaD (xVar 6) xaNil)))) (xC (.bool true)))) (xBool (xOp (isD true) (xFn m_can_pass (xaD (xC (.str "into")) (xaD (xCall tupD (xaD (xC (.int 0)) (xaD (xC (.int 1)) (xaD (xF (fRng (rg2 (xC (.int 1)) (xVar 6)))) xaNil)))) (xaD (xVar 6) xaNil)))) (xC (.bool true)))))
  (sRet (xC (.bool false)))
  sNext))))))))
  (sRet (xAndV (xOp eqD (xFn m_greatest (xaD (xC (.str "over")) (xaD (xCall tupD (xaD (xC (.int 0)) (xaD (xC (.int 0)) (xaD (xCall lstD xaNil) xaNil)))) xaNil))) (xC (.int 1))) (xAndV (xOp eqD (xFn m_greatest (xaD (xC (.str "into")) (xaD (xCall tupD (xaD (xC (.int 0)) (xaD (xC (.int 1)) (xaD (xCall lstD xaNil) xaNil)))) xaNil))) (xC (.int 1))) (xOp eqD (xFn m_greatest (xaD (xC (.str "whole")) (xaD (xCall tupD (xaD (xC (.int 0)) (xaD (xC (.int 0)) (xaD (xCall lstD (xaD (xC (.int 1)) (xaD (xC (.int 2)) xaNil))) xaNil)))) xaNil))) (xC (.int 3)))))))
def m_law : XM := mOf 1 7 b_law
/-! what stands at the top -/
structure Tx (K : PySem.W.Frag) (mg : Str → Option Value) where
  f_is_whole : Addr
  d_is_whole : FuncData
  F_is_whole : Fun K "is_whole" "is_whole" s_is_whole f_is_whole d_is_whole
  m_is_whole : mg "is_whole" = some (.ref f_is_whole)
  b_is_whole : Binds K d_is_whole ["value"] []
  f_is_from : Addr
  d_is_from : FuncData
  F_is_from : Fun K "is_from" "is_from" s_is_from f_is_from d_is_from
  m_is_from : mg "is_from" = some (.ref f_is_from)
  b_is_from : Binds K d_is_from ["value", "low"] []
  f_is_tuple_of : Addr
  d_is_tuple_of : FuncData
  F_is_tuple_of : Fun K "is_tuple_of" "is_tuple_of" s_is_tuple_of f_is_tuple_of d_is_tuple_of
  m_is_tuple_of : mg "is_tuple_of" = some (.ref f_is_tuple_of)
  b_is_tuple_of : Binds K d_is_tuple_of ["value", "many"] []
  f_check_from : Addr
  d_check_from : FuncData
  F_check_from : Fun K "check_from" "check_from" s_check_from f_check_from d_check_from
  m_check_from : mg "check_from" = some (.ref f_check_from)
  b_check_from : Binds K d_check_from ["value", "low"] []
  f_is_kind : Addr
  d_is_kind : FuncData
  F_is_kind : Fun K "is_kind" "is_kind" s_is_kind f_is_kind d_is_kind
  m_is_kind : mg "is_kind" = some (.ref f_is_kind)
  b_is_kind : Binds K d_is_kind ["value"] []
  f_check_kind : Addr
  d_check_kind : FuncData
  F_check_kind : Fun K "check_kind" "check_kind" s_check_kind f_check_kind d_check_kind
  m_check_kind : mg "check_kind" = some (.ref f_check_kind)
  b_check_kind : Binds K d_check_kind ["kind"] []
  f_are_tops : Addr
  d_are_tops : FuncData
  F_are_tops : Fun K "are_tops" "are_tops" s_are_tops f_are_tops d_are_tops
  m_are_tops : mg "are_tops" = some (.ref f_are_tops)
  b_are_tops : Binds K d_are_tops ["value"] []
  f_check_tops : Addr
  d_check_tops : FuncData
  F_check_tops : Fun K "check_tops" "check_tops" s_check_tops f_check_tops d_check_tops
  m_check_tops : mg "check_tops" = some (.ref f_check_tops)
  b_check_tops : Binds K d_check_tops ["tops"] []
  f_is_room : Addr
  d_is_room : FuncData
  F_is_room : Fun K "is_room" "is_room" s_is_room f_is_room d_is_room
  m_is_room : mg "is_room" = some (.ref f_is_room)
  b_is_room : Binds K d_is_room ["value"] []
  f_check_room : Addr
  d_check_room : FuncData
  F_check_room : Fun K "check_room" "check_room" s_check_room f_check_room d_check_room
  m_check_room : mg "check_room" = some (.ref f_check_room)
  b_check_room : Binds K d_check_room ["room"] []
  f_check_run : Addr
  d_check_run : FuncData
  F_check_run : Fun K "check_run" "check_run" s_check_run f_check_run d_check_run
  m_check_run : mg "check_run" = some (.ref f_check_run)
  b_check_run : Binds K d_check_run ["kind", "room", "many"] []
  f_bound_beside : Addr
  d_bound_beside : FuncData
  F_bound_beside : Fun K "bound_beside" "bound_beside" s_bound_beside f_bound_beside d_bound_beside
  m_bound_beside : mg "bound_beside" = some (.ref f_bound_beside)
  b_bound_beside : Binds K d_bound_beside ["kind", "cells", "empty"] []
  f_bound_of : Addr
  d_bound_of : FuncData
  F_bound_of : Fun K "bound_of" "bound_of" s_bound_of f_bound_of d_bound_of
  m_bound_of : mg "bound_of" = some (.ref f_bound_of)
  b_bound_of : Binds K d_bound_of ["kind", "room"] []
  f_bound : Addr
  d_bound : FuncData
  F_bound : Fun K "bound" "bound" s_bound f_bound d_bound
  m_bound : mg "bound" = some (.ref f_bound)
  b_bound : Binds K d_bound ["kind", "room"] []
  f_marks_of : Addr
  d_marks_of : FuncData
  F_marks_of : Fun K "marks_of" "marks_of" s_marks_of f_marks_of d_marks_of
  m_marks_of : mg "marks_of" = some (.ref f_marks_of)
  b_marks_of : Binds K d_marks_of ["tops", "many"] []
  f_stretches_of : Addr
  d_stretches_of : FuncData
  F_stretches_of : Fun K "stretches_of" "stretches_of" s_stretches_of f_stretches_of d_stretches_of
  m_stretches_of : mg "stretches_of" = some (.ref f_stretches_of)
  b_stretches_of : Binds K d_stretches_of ["tops", "many"] []
  f_longest_of : Addr
  d_longest_of : FuncData
  F_longest_of : Fun K "longest_of" "longest_of" s_longest_of f_longest_of d_longest_of
  m_longest_of : mg "longest_of" = some (.ref f_longest_of)
  b_longest_of : Binds K d_longest_of ["tops", "many"] []
  f_bars_of : Addr
  d_bars_of : FuncData
  F_bars_of : Fun K "bars_of" "bars_of" s_bars_of f_bars_of d_bars_of
  m_bars_of : mg "bars_of" = some (.ref f_bars_of)
  b_bars_of : Binds K d_bars_of ["kind", "room", "many"] []
  f_passes : Addr
  d_passes : FuncData
  F_passes : Fun K "passes" "passes" s_passes f_passes d_passes
  m_passes : mg "passes" = some (.ref f_passes)
  b_passes : Binds K d_passes ["kind", "room", "many"] []
  f_can_pass : Addr
  d_can_pass : FuncData
  F_can_pass : Fun K "can_pass" "can_pass" s_can_pass f_can_pass d_can_pass
  m_can_pass : mg "can_pass" = some (.ref f_can_pass)
  b_can_pass : Binds K d_can_pass ["kind", "room", "many"] []
  f_greatest_reached : Addr
  d_greatest_reached : FuncData
  F_greatest_reached : Fun K "greatest_reached" "greatest_reached" s_greatest_reached f_greatest_reached d_greatest_reached
  m_greatest_reached : mg "greatest_reached" = some (.ref f_greatest_reached)
  b_greatest_reached : Binds K d_greatest_reached ["kind", "room", "further"] []
  f_greatest : Addr
  d_greatest : FuncData
  F_greatest : Fun K "greatest" "greatest" s_greatest f_greatest d_greatest
  m_greatest : mg "greatest" = some (.ref f_greatest)
  b_greatest : Binds K d_greatest ["kind", "room"] []
  f_barring : Addr
  d_barring : FuncData
  F_barring : Fun K "barring" "barring" s_barring f_barring d_barring
  m_barring : mg "barring" = some (.ref f_barring)
  b_barring : Binds K d_barring ["kind", "room", "many"] []
  f_cells_beside : Addr
  d_cells_beside : FuncData
  F_cells_beside : Fun K "cells_beside" "cells_beside" s_cells_beside f_cells_beside d_cells_beside
  m_cells_beside : mg "cells_beside" = some (.ref f_cells_beside)
  b_cells_beside : Binds K d_cells_beside ["kind", "empty", "longest"] []
  f_least_cells : Addr
  d_least_cells : FuncData
  F_least_cells : Fun K "least_cells" "least_cells" s_least_cells f_least_cells d_least_cells
  m_least_cells : mg "least_cells" = some (.ref f_least_cells)
  b_least_cells : Binds K d_least_cells ["kind", "empty", "tops", "many"] []
  f_fewest_empty : Addr
  d_fewest_empty : FuncData
  F_fewest_empty : Fun K "fewest_empty" "fewest_empty" s_fewest_empty f_fewest_empty d_fewest_empty
  m_fewest_empty : mg "fewest_empty" = some (.ref f_fewest_empty)
  b_fewest_empty : Binds K d_fewest_empty ["kind"] []
  f_least_empty : Addr
  d_least_empty : FuncData
  F_least_empty : Fun K "least_empty" "least_empty" s_least_empty f_least_empty d_least_empty
  m_least_empty : mg "least_empty" = some (.ref f_least_empty)
  b_least_empty : Binds K d_least_empty ["kind", "cells", "tops", "many"] []
  f_trades : Addr
  d_trades : FuncData
  F_trades : Fun K "trades" "trades" s_trades f_trades d_trades
  m_trades : mg "trades" = some (.ref f_trades)
  b_trades : Binds K d_trades ["kind", "tops", "many"] []
  f_check_passes : Addr
  d_check_passes : FuncData
  F_check_passes : Fun K "check_passes" "check_passes" s_check_passes f_check_passes d_check_passes
  m_check_passes : mg "check_passes" = some (.ref f_check_passes)
  b_check_passes : Binds K d_check_passes ["kind", "room", "many"] []
  f_needed_tops : Addr
  d_needed_tops : FuncData
  F_needed_tops : Fun K "needed_tops" "needed_tops" s_needed_tops f_needed_tops d_needed_tops
  m_needed_tops : mg "needed_tops" = some (.ref f_needed_tops)
  b_needed_tops : Binds K d_needed_tops ["kind", "room", "many"] []
  f_tops_between : Addr
  d_tops_between : FuncData
  F_tops_between : Fun K "tops_between" "tops_between" s_tops_between f_tops_between d_tops_between
  m_tops_between : mg "tops_between" = some (.ref f_tops_between)
  b_tops_between : Binds K d_tops_between ["low", "high", "most"] []
  f_tops_to_add : Addr
  d_tops_to_add : FuncData
  F_tops_to_add : Fun K "tops_to_add" "tops_to_add" s_tops_to_add f_tops_to_add d_tops_to_add
  m_tops_to_add : mg "tops_to_add" = some (.ref f_tops_to_add)
  b_tops_to_add : Binds K d_tops_to_add ["kind", "room", "many"] []
  f_greatest_with : Addr
  d_greatest_with : FuncData
  F_greatest_with : Fun K "greatest_with" "greatest_with" s_greatest_with f_greatest_with d_greatest_with
  m_greatest_with : mg "greatest_with" = some (.ref f_greatest_with)
  b_greatest_with : Binds K d_greatest_with ["kind", "room", "further"] []
  f_law_cell : Addr
  d_law_cell : FuncData
  F_law_cell : Fun K "_law_cell" "_law_cell" s_law_cell f_law_cell d_law_cell
  m_law_cell : mg "_law_cell" = some (.ref f_law_cell)
  b_law_cell : Binds K d_law_cell ["script", "index"] []
  f_law_hash : Addr
  d_law_hash : FuncData
  F_law_hash : Fun K "_law_hash" "_law_hash" s_law_hash f_law_hash d_law_hash
  m_law_hash : mg "_law_hash" = some (.ref f_law_hash)
  b_law_hash : Binds K d_law_hash ["seed", "index"] []
  f_law_generator : Addr
  d_law_generator : FuncData
  F_law_generator : Fun K "_law_generator" "_law_generator" s_law_generator f_law_generator d_law_generator
  m_law_generator : mg "_law_generator" = some (.ref f_law_generator)
  b_law_generator : Binds K d_law_generator ["script", "index"] []
  f_law_random : Addr
  d_law_random : FuncData
  F_law_random : Fun K "_law_random" "_law_random" s_law_random f_law_random d_law_random
  m_law_random : mg "_law_random" = some (.ref f_law_random)
  b_law_random : Binds K d_law_random ["generator", "limit"] []
  f_law_tops : Addr
  d_law_tops : FuncData
  F_law_tops : Fun K "_law_tops" "_law_tops" s_law_tops f_law_tops d_law_tops
  m_law_tops : mg "_law_tops" = some (.ref f_law_tops)
  b_law_tops : Binds K d_law_tops ["generator", "many", "most"] []
  f_law_room : Addr
  d_law_room : FuncData
  F_law_room : Fun K "_law_room" "_law_room" s_law_room f_law_room d_law_room
  m_law_room : mg "_law_room" = some (.ref f_law_room)
  b_law_room : Binds K d_law_room ["generator", "many"] []
  f_law_great : Addr
  d_law_great : FuncData
  F_law_great : Fun K "_law_great" "_law_great" s_law_great f_law_great d_law_great
  m_law_great : mg "_law_great" = some (.ref f_law_great)
  b_law_great : Binds K d_law_great ["generator"] []
  f_law_greatest : Addr
  d_law_greatest : FuncData
  F_law_greatest : Fun K "_law_greatest" "_law_greatest" s_law_greatest f_law_greatest d_law_greatest
  m_law_greatest : mg "_law_greatest" = some (.ref f_law_greatest)
  b_law_greatest : Binds K d_law_greatest ["kind", "room"] []
  f_law_sides_right : Addr
  d_law_sides_right : FuncData
  F_law_sides_right : Fun K "_law_sides_right" "_law_sides_right" s_law_sides_right f_law_sides_right d_law_sides_right
  m_law_sides_right : mg "_law_sides_right" = some (.ref f_law_sides_right)
  b_law_sides_right : Binds K d_law_sides_right ["kind", "room"] []
  f_law : Addr
  d_law : FuncData
  F_law : Fun K "law" "law" s_law f_law d_law
  m_law : mg "law" = some (.ref f_law)
  b_law : Binds K d_law ["script"] []
  n_all : mg "all" = none
  n_bool : mg "bool" = none
  n_int : mg "int" = none
  n_isinstance : mg "isinstance" = none
  n_len : mg "len" = none
  n_list : mg "list" = none
  n_max : mg "max" = none
  n_range : mg "range" = none
  n_repr : mg "repr" = none
  n_reversed : mg "reversed" = none
  n_sum : mg "sum" = none
  n_tuple : mg "tuple" = none
  n_zip : mg "zip" = none
  a_KINDS : Addr
  v_KINDS : List V
  g_KINDS : mg "KINDS" = some (.ref a_KINDS)
  t_KINDS : ∀ H, SqT K H a_KINDS v_KINDS
  d_KINDS : ∀ H, DaAll K H v_KINDS c_KINDS
section
variable {P : Program} {w : World} {K : PySem.W.Frag} {mg : Str → Option Value} {base : Heap}
theorem ok_is_whole (T : Tx K mg) : FnG P w K mg base 1 T.f_is_whole T.d_is_whole 1 ["value"] (spM K 1 m_is_whole) :=
  fn_m T.F_is_whole sc_is_whole fun cdv A outer s H E hr =>
  (psx_one (psx_ret (px_and (px_isi (by rfl) T.n_isinstance (px_var (pv 0)) (by rfl) T.n_int bt_int) (px_one (px_not (px_isi (by rfl) T.n_isinstance (px_var (pv 0)) (by rfl) T.n_bool bt_bool))))))
theorem ok_is_from (T : Tx K mg) (G_is_whole : FnG P w K mg base 1 T.f_is_whole T.d_is_whole 1 ["value"] (spM K 1 m_is_whole)) : FnG P w K mg base 2 T.f_is_from T.d_is_from 2 ["value", "low"] (spM K 2 m_is_from) :=
  fn_m T.F_is_from sc_is_from fun cdv A outer s H E hr =>
  (psx_one (psx_ret (px_and (px_fn G_is_whole (hr.mono (by decide)) (by rfl) T.m_is_whole T.F_is_whole.kp T.b_is_whole (pxa_d (px_var (pv 0)) pxa_nil) (xaD_len (fun _ _ _ _ h => xaNil_len h))) (px_one (px_cmp op_geD (px_var (pv 0)) (px_var (pv 1)) (nomark _))))))
theorem ok_is_tuple_of (T : Tx K mg) : FnG P w K mg base 1 T.f_is_tuple_of T.d_is_tuple_of 2 ["value", "many"] (spM K 2 m_is_tuple_of) :=
  fn_m T.F_is_tuple_of sc_is_tuple_of fun cdv A outer s H E hr =>
  (psx_one (psx_ret (px_and (px_isi (by rfl) T.n_isinstance (px_var (pv 0)) (by rfl) T.n_tuple bt_tuple) (px_one (px_cmp (op_eqDD hr.u64) (px_bi (c_len) (by rfl) T.n_len bt_len (pxa_d (px_var (pv 0)) pxa_nil)) (px_var (pv 1)) (nomark _))))))
theorem ok_check_from (T : Tx K mg) (G_is_from : FnG P w K mg base 2 T.f_is_from T.d_is_from 2 ["value", "low"] (spM K 2 m_is_from)) : FnG P w K mg base 3 T.f_check_from T.d_check_from 2 ["value", "low"] (spM K 2 m_check_from) :=
  fn_m T.F_check_from sc_check_from fun cdv A outer s H E hr =>
  (psx_one (psx_if (pxt_not (pxt_truth (px_fn G_is_from (hr.mono (by decide)) (by rfl) T.m_is_from T.F_is_from.kp T.b_is_from (pxa_d (px_var (pv 0)) (pxa_d (px_var (pv 1)) pxa_nil)) (xaD_len (xaD_len (fun _ _ _ _ h => xaNil_len h))))))
  (psx_one psx_never)
  psx_nil))
theorem ok_is_kind (T : Tx K mg) : FnG P w K mg base 1 T.f_is_kind T.d_is_kind 1 ["value"] (spM K 1 m_is_kind) :=
  fn_m T.F_is_kind sc_is_kind fun cdv A outer s H E hr =>
  (psx_one (psx_ret (px_cmp (op_inDD hr.u65) (px_var (pv 0)) (px_globt (by rfl) T.g_KINDS T.t_KINDS T.d_KINDS) (by rfl))))
theorem ok_check_kind (T : Tx K mg) (G_is_kind : FnG P w K mg base 1 T.f_is_kind T.d_is_kind 1 ["value"] (spM K 1 m_is_kind)) : FnG P w K mg base 2 T.f_check_kind T.d_check_kind 1 ["kind"] (spM K 1 m_check_kind) :=
  fn_m T.F_check_kind sc_check_kind fun cdv A outer s H E hr =>
  (psx_one (psx_if (pxt_not (pxt_truth (px_fn G_is_kind (hr.mono (by decide)) (by rfl) T.m_is_kind T.F_is_kind.kp T.b_is_kind (pxa_d (px_var (pv 0)) pxa_nil) (xaD_len (fun _ _ _ _ h => xaNil_len h)))))
  (psx_one psx_never)
  psx_nil))
theorem ok_are_tops (T : Tx K mg) (G_is_from : FnG P w K mg base 2 T.f_is_from T.d_is_from 2 ["value", "low"] (spM K 2 m_is_from)) : FnG P w K mg base 3 T.f_are_tops T.d_are_tops 1 ["value"] (spM K 1 m_are_tops) :=
  fn_m T.F_are_tops sc_are_tops fun cdv A outer s H E hr =>
  (psx_cons (psx_if (pxw_t (pxw_or (pxt_not (pxt_truth (px_isi (by rfl) T.n_isinstance (px_var (pv 0)) (by rfl) T.n_list bt_list))) (pxw_or1 (pxt_not (pxt_truth (px_bi (c_all rfl) (by rfl) T.n_all bt_all (pxa_d (px_of_f (pxf_lc (own := [("top", 3)]) rfl sc_are_tops.nd (pxi_list (px_var (pv 0))) (blkOk_by (own := [("top", 3)]) (N := N_are_tops) (sc := defScope s_are_tops) (by decide +kernel)) (fun _ _ _ _ _ => (pxg_nm (pg_name (i := 3) sc_are_tops.nd rfl (.inl rfl)))) (fun _ _ _ _ _ => pxts_nil) (fun _ _ _ _ _ => (px_fn G_is_from (hr.mono (by decide)) (by rfl) T.m_is_from T.F_is_from.kp T.b_is_from (pxa_d (px_var (pv 3)) (pxa_d px_int pxa_nil)) (xaD_len (xaD_len (fun _ _ _ _ h => xaNil_len h))))) (by decide))) pxa_nil)))))))
  (psx_one (psx_ret px_bl))
  psx_nil)
  (psx_one (psx_ret (px_bi (c_all rfl) (by rfl) T.n_all bt_all (pxa_d (px_of_f (pxf_lc (own := [("low", 1), ("high", 2)]) rfl sc_are_tops.nd (pxi_zip (by rfl) T.n_zip (pxa_d (px_var (pv 0)) (pxa_d (px_of_f (pxf_slice (px_var (pv 0)) (pxo_some px_int) pxo_none)) pxa_nil))) (blkOk_by (own := [("low", 1), ("high", 2)]) (N := N_are_tops) (sc := defScope s_are_tops) (by decide +kernel)) (fun _ _ _ _ _ => (pxg_tup rfl (pxgs_cons (pxg_nm (pg_name (i := 1) sc_are_tops.nd rfl (.inl rfl))) (pxgs_cons (pxg_nm (pg_name (i := 2) sc_are_tops.nd rfl (.inl rfl))) pxgs_nil)))) (fun _ _ _ _ _ => pxts_nil) (fun _ _ _ _ _ => (px_cmp op_ltD (px_var (pv 1)) (px_var (pv 2)) (nomark _))) (by decide))) pxa_nil)))))
theorem ok_check_tops (T : Tx K mg) (G_are_tops : FnG P w K mg base 3 T.f_are_tops T.d_are_tops 1 ["value"] (spM K 1 m_are_tops)) : FnG P w K mg base 4 T.f_check_tops T.d_check_tops 1 ["tops"] (spM K 1 m_check_tops) :=
  fn_m T.F_check_tops sc_check_tops fun cdv A outer s H E hr =>
  (psx_one (psx_if (pxt_not (pxt_truth (px_fn G_are_tops (hr.mono (by decide)) (by rfl) T.m_are_tops T.F_are_tops.kp T.b_are_tops (pxa_d (px_var (pv 0)) pxa_nil) (xaD_len (fun _ _ _ _ h => xaNil_len h)))))
  (psx_one psx_never)
  psx_nil))
theorem ok_is_room (T : Tx K mg) (G_is_from : FnG P w K mg base 2 T.f_is_from T.d_is_from 2 ["value", "low"] (spM K 2 m_is_from)) (G_is_tuple_of : FnG P w K mg base 1 T.f_is_tuple_of T.d_is_tuple_of 2 ["value", "many"] (spM K 2 m_is_tuple_of)) (G_are_tops : FnG P w K mg base 3 T.f_are_tops T.d_are_tops 1 ["value"] (spM K 1 m_are_tops)) : FnG P w K mg base 4 T.f_is_room T.d_is_room 1 ["value"] (spM K 1 m_is_room) :=
  fn_m T.F_is_room sc_is_room fun cdv A outer s H E hr =>
  (psx_cons (psx_if (pxt_not (pxt_truth (px_fn G_is_tuple_of (hr.mono (by decide)) (by rfl) T.m_is_tuple_of T.F_is_tuple_of.kp T.b_is_tuple_of (pxa_d (px_var (pv 0)) (pxa_d px_int pxa_nil)) (xaD_len (xaD_len (fun _ _ _ _ h => xaNil_len h))))))
  (psx_one (psx_ret px_bl))
  psx_nil)
  (psx_cons (psx_asg (px_var (pv 0)) (pxg_tup rfl (pxgs_cons (pxg_nm (pg_name (i := 1) sc_is_room.nd rfl (.inl rfl))) (pxgs_cons (pxg_nm (pg_name (i := 2) sc_is_room.nd rfl (.inl rfl))) (pxgs_cons (pxg_nm (pg_name (i := 3) sc_is_room.nd rfl (.inl rfl))) pxgs_nil)))))
  (psx_one (psx_ret (px_and (px_fn G_is_from (hr.mono (by decide)) (by rfl) T.m_is_from T.F_is_from.kp T.b_is_from (pxa_d (px_var (pv 1)) (pxa_d px_int pxa_nil)) (xaD_len (xaD_len (fun _ _ _ _ h => xaNil_len h)))) (px_and (px_fn G_is_from (hr.mono (by decide)) (by rfl) T.m_is_from T.F_is_from.kp T.b_is_from (pxa_d (px_var (pv 2)) (pxa_d px_int pxa_nil)) (xaD_len (xaD_len (fun _ _ _ _ h => xaNil_len h)))) (px_one (px_fn G_are_tops (hr.mono (by decide)) (by rfl) T.m_are_tops T.F_are_tops.kp T.b_are_tops (pxa_d (px_var (pv 3)) pxa_nil) (xaD_len (fun _ _ _ _ h => xaNil_len h))))))))))
theorem ok_check_room (T : Tx K mg) (G_is_room : FnG P w K mg base 4 T.f_is_room T.d_is_room 1 ["value"] (spM K 1 m_is_room)) : FnG P w K mg base 5 T.f_check_room T.d_check_room 1 ["room"] (spM K 1 m_check_room) :=
  fn_m T.F_check_room sc_check_room fun cdv A outer s H E hr =>
  (psx_one (psx_if (pxt_not (pxt_truth (px_fn G_is_room (hr.mono (by decide)) (by rfl) T.m_is_room T.F_is_room.kp T.b_is_room (pxa_d (px_var (pv 0)) pxa_nil) (xaD_len (fun _ _ _ _ h => xaNil_len h)))))
  (psx_one psx_never)
  psx_nil))
theorem ok_check_run (T : Tx K mg) (G_check_from : FnG P w K mg base 3 T.f_check_from T.d_check_from 2 ["value", "low"] (spM K 2 m_check_from)) (G_check_kind : FnG P w K mg base 2 T.f_check_kind T.d_check_kind 1 ["kind"] (spM K 1 m_check_kind)) (G_check_room : FnG P w K mg base 5 T.f_check_room T.d_check_room 1 ["room"] (spM K 1 m_check_room)) : FnG P w K mg base 6 T.f_check_run T.d_check_run 3 ["kind", "room", "many"] (spM K 3 m_check_run) :=
  fn_m T.F_check_run sc_check_run fun cdv A outer s H E hr =>
  (psx_cons (psx_expr (px_fn G_check_kind (hr.mono (by decide)) (by rfl) T.m_check_kind T.F_check_kind.kp T.b_check_kind (pxa_d (px_var (pv 0)) pxa_nil) (xaD_len (fun _ _ _ _ h => xaNil_len h))))
  (psx_cons (psx_expr (px_fn G_check_room (hr.mono (by decide)) (by rfl) T.m_check_room T.F_check_room.kp T.b_check_room (pxa_d (px_var (pv 1)) pxa_nil) (xaD_len (fun _ _ _ _ h => xaNil_len h))))
  (psx_one (psx_expr (px_fn G_check_from (hr.mono (by decide)) (by rfl) T.m_check_from T.F_check_from.kp T.b_check_from (pxa_d (px_var (pv 2)) (pxa_d px_int pxa_nil)) (xaD_len (xaD_len (fun _ _ _ _ h => xaNil_len h))))))))
theorem ok_bound_beside (T : Tx K mg) : FnG P w K mg base 1 T.f_bound_beside T.d_bound_beside 3 ["kind", "cells", "empty"] (spM K 3 m_bound_beside) :=
  fn_m T.F_bound_beside sc_bound_beside fun cdv A outer s H E hr =>
  (psx_cons (psx_if (pxt_cmp (op_neDD hr.u64) (px_var (pv 0)) px_str (nomark _))
  (psx_one (psx_ret (px_op op_shlD (px_op op_addD (px_var (pv 1)) px_int) (px_var (pv 2)))))
  psx_nil)
  (psx_one (psx_ret (px_if (pxt_cmp op_gtD (px_var (pv 2)) px_int (nomark _)) (px_op op_shlD (px_op op_addD (px_var (pv 1)) px_int) (px_op op_subD (px_var (pv 2)) px_int)) px_int))))
theorem ok_bound_of (T : Tx K mg) (G_bound_beside : FnG P w K mg base 1 T.f_bound_beside T.d_bound_beside 3 ["kind", "cells", "empty"] (spM K 3 m_bound_beside)) : FnG P w K mg base 2 T.f_bound_of T.d_bound_of 2 ["kind", "room"] (spM K 2 m_bound_of) :=
  fn_m T.F_bound_of sc_bound_of fun cdv A outer s H E hr =>
  (psx_cons (psx_asg (px_var (pv 1)) (pxg_tup rfl (pxgs_cons (pxg_nm (pg_name (i := 2) sc_bound_of.nd rfl (.inl rfl))) (pxgs_cons (pxg_nm (pg_name (i := 3) sc_bound_of.nd rfl (.inl rfl))) (pxgs_cons (pxg_nm (pg_name (i := 4) sc_bound_of.nd rfl (.inl rfl))) pxgs_nil)))))
  (psx_one (psx_ret (px_fn G_bound_beside (hr.mono (by decide)) (by rfl) T.m_bound_beside T.F_bound_beside.kp T.b_bound_beside (pxa_d (px_var (pv 0)) (pxa_d (px_var (pv 2)) (pxa_d (px_var (pv 3)) pxa_nil))) (xaD_len (xaD_len (xaD_len (fun _ _ _ _ h => xaNil_len h))))))))
theorem ok_bound (T : Tx K mg) (G_check_kind : FnG P w K mg base 2 T.f_check_kind T.d_check_kind 1 ["kind"] (spM K 1 m_check_kind)) (G_check_room : FnG P w K mg base 5 T.f_check_room T.d_check_room 1 ["room"] (spM K 1 m_check_room)) (G_bound_of : FnG P w K mg base 2 T.f_bound_of T.d_bound_of 2 ["kind", "room"] (spM K 2 m_bound_of)) : FnG P w K mg base 6 T.f_bound T.d_bound 2 ["kind", "room"] (spM K 2 m_bound) :=
  fn_m T.F_bound sc_bound fun cdv A outer s H E hr =>
  (psx_cons (psx_expr (px_fn G_check_kind (hr.mono (by decide)) (by rfl) T.m_check_kind T.F_check_kind.kp T.b_check_kind (pxa_d (px_var (pv 0)) pxa_nil) (xaD_len (fun _ _ _ _ h => xaNil_len h))))
  (psx_cons (psx_expr (px_fn G_check_room (hr.mono (by decide)) (by rfl) T.m_check_room T.F_check_room.kp T.b_check_room (pxa_d (px_var (pv 1)) pxa_nil) (xaD_len (fun _ _ _ _ h => xaNil_len h))))
  (psx_one (psx_ret (px_fn G_bound_of (hr.mono (by decide)) (by rfl) T.m_bound_of T.F_bound_of.kp T.b_bound_of (pxa_d (px_var (pv 0)) (pxa_d (px_var (pv 1)) pxa_nil)) (xaD_len (xaD_len (fun _ _ _ _ h => xaNil_len h))))))))
theorem ok_marks_of (T : Tx K mg) : FnG P w K mg base 1 T.f_marks_of T.d_marks_of 2 ["tops", "many"] (spM K 2 m_marks_of) :=
  fn_m T.F_marks_of sc_marks_of fun cdv A outer s H E hr =>
  (psx_one (psx_ret (px_op op_addD (px_op op_addD (px_lst (pxa_d px_int pxa_nil)) (px_of_f (pxf_lc (own := [("top", 2)]) rfl sc_marks_of.nd (pxi_list (px_var (pv 0))) (blkOk_by (own := [("top", 2)]) (N := N_marks_of) (sc := defScope s_marks_of) (by decide +kernel)) (fun _ _ _ _ _ => (pxg_nm (pg_name (i := 2) sc_marks_of.nd rfl (.inl rfl)))) (fun _ _ _ _ _ => (pxts_one (pxt_cmp op_ltD (px_var (pv 2)) (px_var (pv 1)) (nomark _)))) (fun _ _ _ _ _ => (px_var (pv 2))) (by decide)))) (px_lst (pxa_d (px_var (pv 1)) pxa_nil)))))
theorem ok_stretches_of (T : Tx K mg) (G_marks_of : FnG P w K mg base 1 T.f_marks_of T.d_marks_of 2 ["tops", "many"] (spM K 2 m_marks_of)) : FnG P w K mg base 2 T.f_stretches_of T.d_stretches_of 2 ["tops", "many"] (spM K 2 m_stretches_of) :=
  fn_m T.F_stretches_of sc_stretches_of fun cdv A outer s H E hr =>
  (psx_cons (psx_set (i := 2) sc_stretches_of.nd rfl (.inl rfl) (px_fn G_marks_of (hr.mono (by decide)) (by rfl) T.m_marks_of T.F_marks_of.kp T.b_marks_of (pxa_d (px_var (pv 0)) (pxa_d (px_var (pv 1)) pxa_nil)) (xaD_len (xaD_len (fun _ _ _ _ h => xaNil_len h)))))
  (psx_one (psx_ret (px_of_f (pxf_lc (own := [("low", 3), ("high", 4)]) rfl sc_stretches_of.nd (pxi_zip (by rfl) T.n_zip (pxa_d (px_var (pv 2)) (pxa_d (px_of_f (pxf_slice (px_var (pv 2)) (pxo_some px_int) pxo_none)) pxa_nil))) (blkOk_by (own := [("low", 3), ("high", 4)]) (N := N_stretches_of) (sc := defScope s_stretches_of) (by decide +kernel)) (fun _ _ _ _ _ => (pxg_tup rfl (pxgs_cons (pxg_nm (pg_name (i := 3) sc_stretches_of.nd rfl (.inl rfl))) (pxgs_cons (pxg_nm (pg_name (i := 4) sc_stretches_of.nd rfl (.inl rfl))) pxgs_nil)))) (fun _ _ _ _ _ => pxts_nil) (fun _ _ _ _ _ => (px_tup (pxa_d (px_var (pv 3)) (pxa_d (px_var (pv 4)) pxa_nil)))) (by decide))))))
theorem ok_longest_of (T : Tx K mg) (G_stretches_of : FnG P w K mg base 2 T.f_stretches_of T.d_stretches_of 2 ["tops", "many"] (spM K 2 m_stretches_of)) : FnG P w K mg base 3 T.f_longest_of T.d_longest_of 2 ["tops", "many"] (spM K 2 m_longest_of) :=
  fn_m T.F_longest_of sc_longest_of fun cdv A outer s H E hr =>
  (psx_one (psx_ret (px_bi (c_max rfl) (by rfl) T.n_max bt_max (pxa_d (px_of_f (pxf_lc (own := [("low", 2), ("high", 3)]) rfl sc_longest_of.nd (pxi_list (px_fn G_stretches_of (hr.mono (by decide)) (by rfl) T.m_stretches_of T.F_stretches_of.kp T.b_stretches_of (pxa_d (px_var (pv 0)) (pxa_d (px_var (pv 1)) pxa_nil)) (xaD_len (xaD_len (fun _ _ _ _ h => xaNil_len h))))) (blkOk_by (own := [("low", 2), ("high", 3)]) (N := N_longest_of) (sc := defScope s_longest_of) (by decide +kernel)) (fun _ _ _ _ _ => (pxg_tup rfl (pxgs_cons (pxg_nm (pg_name (i := 2) sc_longest_of.nd rfl (.inl rfl))) (pxgs_cons (pxg_nm (pg_name (i := 3) sc_longest_of.nd rfl (.inl rfl))) pxgs_nil)))) (fun _ _ _ _ _ => pxts_nil) (fun _ _ _ _ _ => (px_op op_subD (px_var (pv 3)) (px_var (pv 2)))) (by decide))) pxa_nil))))
theorem ok_bars_of (T : Tx K mg) (G_bound_of : FnG P w K mg base 2 T.f_bound_of T.d_bound_of 2 ["kind", "room"] (spM K 2 m_bound_of)) (G_stretches_of : FnG P w K mg base 2 T.f_stretches_of T.d_stretches_of 2 ["tops", "many"] (spM K 2 m_stretches_of)) : FnG P w K mg base 3 T.f_bars_of T.d_bars_of 3 ["kind", "room", "many"] (spF K 3 m_bars_of) :=
  fn_f T.F_bars_of sc_bars_of fun n0 cdv A outer s H E hr =>
  (psx_cons (psx_set (i := 3) sc_bars_of.nd rfl (.inr rfl) (px_fn G_bound_of (hr.mono (by decide)) (by rfl) T.m_bound_of T.F_bound_of.kp T.b_bound_of (pxa_d (px_var (pv 0)) (pxa_d (px_var (pv 1)) pxa_nil)) (xaD_len (xaD_len (fun _ _ _ _ h => xaNil_len h)))))
  (psx_one (psx_retF (pxf_lc (own := [("low", 4), ("high", 5)]) rfl sc_bars_of.nd (pxi_list (px_fn G_stretches_of (hr.mono (by decide)) (by rfl) T.m_stretches_of T.F_stretches_of.kp T.b_stretches_of (pxa_d (px_ix (px_var (pv 1)) px_int (fun _ _ => rfl)) (pxa_d (px_var (pv 2)) pxa_nil)) (xaD_len (xaD_len (fun _ _ _ _ h => xaNil_len h))))) (blkOk_by (own := [("low", 4), ("high", 5)]) (N := N_bars_of) (sc := defScope s_bars_of) (by decide +kernel)) (fun _ _ _ _ _ => (pxg_tup rfl (pxgs_cons (pxg_nm (pg_name (i := 4) sc_bars_of.nd rfl (.inl rfl))) (pxgs_cons (pxg_nm (pg_name (i := 5) sc_bars_of.nd rfl (.inl rfl))) pxgs_nil)))) (fun _ _ _ _ _ => (pxts_one (pxt_cmp op_gtD (px_op op_subD (px_var (pv 5)) (px_var (pv 4))) (px_var (pv 3)) (nomark _)))) (fun _ _ _ _ _ => (px_tup (pxa_d (px_var (pv 4)) (pxa_d (px_var (pv 5)) pxa_nil)))) (by decide)))))
theorem ok_passes (T : Tx K mg) (G_bound_of : FnG P w K mg base 2 T.f_bound_of T.d_bound_of 2 ["kind", "room"] (spM K 2 m_bound_of)) (G_longest_of : FnG P w K mg base 3 T.f_longest_of T.d_longest_of 2 ["tops", "many"] (spM K 2 m_longest_of)) : FnG P w K mg base 4 T.f_passes T.d_passes 3 ["kind", "room", "many"] (spM K 3 m_passes) :=
  fn_m T.F_passes sc_passes fun cdv A outer s H E hr =>
  (psx_one (psx_ret (px_cmp op_leD (px_fn G_longest_of (hr.mono (by decide)) (by rfl) T.m_longest_of T.F_longest_of.kp T.b_longest_of (pxa_d (px_ix (px_var (pv 1)) px_int (fun _ _ => rfl)) (pxa_d (px_var (pv 2)) pxa_nil)) (xaD_len (xaD_len (fun _ _ _ _ h => xaNil_len h)))) (px_fn G_bound_of (hr.mono (by decide)) (by rfl) T.m_bound_of T.F_bound_of.kp T.b_bound_of (pxa_d (px_var (pv 0)) (pxa_d (px_var (pv 1)) pxa_nil)) (xaD_len (xaD_len (fun _ _ _ _ h => xaNil_len h)))) (nomark _))))
theorem ok_can_pass (T : Tx K mg) (G_check_run : FnG P w K mg base 6 T.f_check_run T.d_check_run 3 ["kind", "room", "many"] (spM K 3 m_check_run)) (G_passes : FnG P w K mg base 4 T.f_passes T.d_passes 3 ["kind", "room", "many"] (spM K 3 m_passes)) : FnG P w K mg base 7 T.f_can_pass T.d_can_pass 3 ["kind", "room", "many"] (spM K 3 m_can_pass) :=
  fn_m T.F_can_pass sc_can_pass fun cdv A outer s H E hr =>
  (psx_cons (psx_expr (px_fn G_check_run (hr.mono (by decide)) (by rfl) T.m_check_run T.F_check_run.kp T.b_check_run (pxa_d (px_var (pv 0)) (pxa_d (px_var (pv 1)) (pxa_d (px_var (pv 2)) pxa_nil))) (xaD_len (xaD_len (xaD_len (fun _ _ _ _ h => xaNil_len h))))))
  (psx_one (psx_ret (px_fn G_passes (hr.mono (by decide)) (by rfl) T.m_passes T.F_passes.kp T.b_passes (pxa_d (px_var (pv 0)) (pxa_d (px_var (pv 1)) (pxa_d (px_var (pv 2)) pxa_nil))) (xaD_len (xaD_len (xaD_len (fun _ _ _ _ h => xaNil_len h))))))))
theorem ok_greatest_reached (T : Tx K mg) (G_bound_of : FnG P w K mg base 2 T.f_bound_of T.d_bound_of 2 ["kind", "room"] (spM K 2 m_bound_of)) : FnG P w K mg base 3 T.f_greatest_reached T.d_greatest_reached 3 ["kind", "room", "further"] (spM K 3 m_greatest_reached) :=
  fn_m T.F_greatest_reached sc_greatest_reached fun cdv A outer s H E hr =>
  (psx_cons (psx_set (i := 3) sc_greatest_reached.nd rfl (.inl rfl) (px_fn G_bound_of (hr.mono (by decide)) (by rfl) T.m_bound_of T.F_bound_of.kp T.b_bound_of (pxa_d (px_var (pv 0)) (pxa_d (px_var (pv 1)) pxa_nil)) (xaD_len (xaD_len (fun _ _ _ _ h => xaNil_len h)))))
  (psx_cons (psx_if (pxt_cmp (op_eqDD hr.u64) (px_var (pv 3)) px_int (nomark _))
  (psx_one (psx_ret px_int))
  psx_nil)
  (psx_cons (psx_set (i := 4) sc_greatest_reached.nd rfl (.inl rfl) px_int)
  (psx_cons (psx_for PassesOwn.never rfl (pxi_list (px_ix (px_var (pv 1)) px_int (fun _ _ => rfl))) (pxg_nm (pg_name (i := 5) sc_greatest_reached.nd rfl (.inl rfl)))
  (psx_cons (psx_set (i := 6) sc_greatest_reached.nd rfl (.inl rfl) (px_op op_fdivD (px_op op_subD (px_op op_subD (px_var (pv 5)) (px_var (pv 4))) px_int) (px_var (pv 3))))
  (psx_cons (psx_if (pxt_cmp op_gtD (px_var (pv 6)) (px_var (pv 2)) (nomark _))
  (psx_one psx_break)
  psx_nil)
  (psx_cons (psx_aug (ps_aug (i := 2) sc_greatest_reached.nd rfl (.inl rfl) (px_var (pv 6)) ip_sub))
  (psx_one (psx_set (i := 4) sc_greatest_reached.nd rfl (.inl rfl) (px_var (pv 5))))))))
  (psx_one (psx_ret (px_op op_addD (px_var (pv 4)) (px_op op_mulD (px_op op_addD (px_var (pv 2)) px_int) (px_var (pv 3))))))))))
theorem ok_greatest (T : Tx K mg) (G_check_kind : FnG P w K mg base 2 T.f_check_kind T.d_check_kind 1 ["kind"] (spM K 1 m_check_kind)) (G_check_room : FnG P w K mg base 5 T.f_check_room T.d_check_room 1 ["room"] (spM K 1 m_check_room)) (G_greatest_reached : FnG P w K mg base 3 T.f_greatest_reached T.d_greatest_reached 3 ["kind", "room", "further"] (spM K 3 m_greatest_reached)) : FnG P w K mg base 6 T.f_greatest T.d_greatest 2 ["kind", "room"] (spM K 2 m_greatest) :=
  fn_m T.F_greatest sc_greatest fun cdv A outer s H E hr =>
  (psx_cons (psx_expr (px_fn G_check_kind (hr.mono (by decide)) (by rfl) T.m_check_kind T.F_check_kind.kp T.b_check_kind (pxa_d (px_var (pv 0)) pxa_nil) (xaD_len (fun _ _ _ _ h => xaNil_len h))))
  (psx_cons (psx_expr (px_fn G_check_room (hr.mono (by decide)) (by rfl) T.m_check_room T.F_check_room.kp T.b_check_room (pxa_d (px_var (pv 1)) pxa_nil) (xaD_len (fun _ _ _ _ h => xaNil_len h))))
  (psx_one (psx_ret (px_fn G_greatest_reached (hr.mono (by decide)) (by rfl) T.m_greatest_reached T.F_greatest_reached.kp T.b_greatest_reached (pxa_d (px_var (pv 0)) (pxa_d (px_var (pv 1)) (pxa_d px_int pxa_nil))) (xaD_len (xaD_len (xaD_len (fun _ _ _ _ h => xaNil_len h)))))))))
theorem ok_barring (T : Tx K mg) (G_check_run : FnG P w K mg base 6 T.f_check_run T.d_check_run 3 ["kind", "room", "many"] (spM K 3 m_check_run)) (G_bars_of : FnG P w K mg base 3 T.f_bars_of T.d_bars_of 3 ["kind", "room", "many"] (spF K 3 m_bars_of)) : FnG P w K mg base 7 T.f_barring T.d_barring 3 ["kind", "room", "many"] (spF K 3 m_barring) :=
  fn_f T.F_barring sc_barring fun n0 cdv A outer s H E hr =>
  (psx_cons (psx_expr (px_fn G_check_run (hr.mono (by decide)) (by rfl) T.m_check_run T.F_check_run.kp T.b_check_run (pxa_d (px_var (pv 0)) (pxa_d (px_var (pv 1)) (pxa_d (px_var (pv 2)) pxa_nil))) (xaD_len (xaD_len (xaD_len (fun _ _ _ _ h => xaNil_len h))))))
  (psx_one (psx_retF (pxf_fn G_bars_of (hr.mono (by decide)) (by rfl) T.m_bars_of T.F_bars_of.kp T.b_bars_of (pxa_d (px_var (pv 0)) (pxa_d (px_var (pv 1)) (pxa_d (px_var (pv 2)) pxa_nil))) (xaD_len (xaD_len (xaD_len (fun _ _ _ _ h => xaNil_len h))))))))
theorem ok_cells_beside (T : Tx K mg) (G_bound_beside : FnG P w K mg base 1 T.f_bound_beside T.d_bound_beside 3 ["kind", "cells", "empty"] (spM K 3 m_bound_beside)) : FnG P w K mg base 2 T.f_cells_beside T.d_cells_beside 3 ["kind", "empty", "longest"] (spM K 3 m_cells_beside) :=
  fn_m T.F_cells_beside sc_cells_beside fun cdv A outer s H E hr =>
  (psx_one (psx_ret (px_op op_fdivD (px_op op_subD (px_var (pv 2)) px_int) (px_fn G_bound_beside (hr.mono (by decide)) (by rfl) T.m_bound_beside T.F_bound_beside.kp T.b_bound_beside (pxa_d (px_var (pv 0)) (pxa_d px_int (pxa_d (px_var (pv 1)) pxa_nil))) (xaD_len (xaD_len (xaD_len (fun _ _ _ _ h => xaNil_len h))))))))
theorem ok_least_cells (T : Tx K mg) (G_check_from : FnG P w K mg base 3 T.f_check_from T.d_check_from 2 ["value", "low"] (spM K 2 m_check_from)) (G_check_kind : FnG P w K mg base 2 T.f_check_kind T.d_check_kind 1 ["kind"] (spM K 1 m_check_kind)) (G_check_tops : FnG P w K mg base 4 T.f_check_tops T.d_check_tops 1 ["tops"] (spM K 1 m_check_tops)) (G_longest_of : FnG P w K mg base 3 T.f_longest_of T.d_longest_of 2 ["tops", "many"] (spM K 2 m_longest_of)) (G_cells_beside : FnG P w K mg base 2 T.f_cells_beside T.d_cells_beside 3 ["kind", "empty", "longest"] (spM K 3 m_cells_beside)) : FnG P w K mg base 5 T.f_least_cells T.d_least_cells 4 ["kind", "empty", "tops", "many"] (spM K 4 m_least_cells) :=
  fn_m T.F_least_cells sc_least_cells fun cdv A outer s H E hr =>
  (psx_cons (psx_expr (px_fn G_check_kind (hr.mono (by decide)) (by rfl) T.m_check_kind T.F_check_kind.kp T.b_check_kind (pxa_d (px_var (pv 0)) pxa_nil) (xaD_len (fun _ _ _ _ h => xaNil_len h))))
  (psx_cons (psx_expr (px_fn G_check_from (hr.mono (by decide)) (by rfl) T.m_check_from T.F_check_from.kp T.b_check_from (pxa_d (px_var (pv 1)) (pxa_d px_int pxa_nil)) (xaD_len (xaD_len (fun _ _ _ _ h => xaNil_len h)))))
  (psx_cons (psx_expr (px_fn G_check_tops (hr.mono (by decide)) (by rfl) T.m_check_tops T.F_check_tops.kp T.b_check_tops (pxa_d (px_var (pv 2)) pxa_nil) (xaD_len (fun _ _ _ _ h => xaNil_len h))))
  (psx_cons (psx_expr (px_fn G_check_from (hr.mono (by decide)) (by rfl) T.m_check_from T.F_check_from.kp T.b_check_from (pxa_d (px_var (pv 3)) (pxa_d px_int pxa_nil)) (xaD_len (xaD_len (fun _ _ _ _ h => xaNil_len h)))))
  (psx_cons (psx_if (pxw_t (pxw_and (pxt_cmp (op_eqDD hr.u64) (px_var (pv 0)) px_str (nomark _)) (pxw_and1 (pxt_cmp (op_eqDD hr.u64) (px_var (pv 1)) px_int (nomark _)))))
  (psx_one (psx_ret px_non))
  psx_nil)
  (psx_one (psx_ret (px_fn G_cells_beside (hr.mono (by decide)) (by rfl) T.m_cells_beside T.F_cells_beside.kp T.b_cells_beside (pxa_d (px_var (pv 0)) (pxa_d (px_var (pv 1)) (pxa_d (px_fn G_longest_of (hr.mono (by decide)) (by rfl) T.m_longest_of T.F_longest_of.kp T.b_longest_of (pxa_d (px_var (pv 2)) (pxa_d (px_var (pv 3)) pxa_nil)) (xaD_len (xaD_len (fun _ _ _ _ h => xaNil_len h)))) pxa_nil))) (xaD_len (xaD_len (xaD_len (fun _ _ _ _ h => xaNil_len h))))))))))))
theorem ok_fewest_empty (T : Tx K mg) : FnG P w K mg base 1 T.f_fewest_empty T.d_fewest_empty 1 ["kind"] (spM K 1 m_fewest_empty) :=
  fn_m T.F_fewest_empty sc_fewest_empty fun cdv A outer s H E hr =>
  (psx_one (psx_ret (px_if (pxt_cmp (op_eqDD hr.u64) (px_var (pv 0)) px_str (nomark _)) px_int px_int)))
theorem ok_least_empty (T : Tx K mg) (G_check_from : FnG P w K mg base 3 T.f_check_from T.d_check_from 2 ["value", "low"] (spM K 2 m_check_from)) (G_check_kind : FnG P w K mg base 2 T.f_check_kind T.d_check_kind 1 ["kind"] (spM K 1 m_check_kind)) (G_check_tops : FnG P w K mg base 4 T.f_check_tops T.d_check_tops 1 ["tops"] (spM K 1 m_check_tops)) (G_bound_beside : FnG P w K mg base 1 T.f_bound_beside T.d_bound_beside 3 ["kind", "cells", "empty"] (spM K 3 m_bound_beside)) (G_longest_of : FnG P w K mg base 3 T.f_longest_of T.d_longest_of 2 ["tops", "many"] (spM K 2 m_longest_of)) (G_fewest_empty : FnG P w K mg base 1 T.f_fewest_empty T.d_fewest_empty 1 ["kind"] (spM K 1 m_fewest_empty)) : FnG P w K mg base 5 T.f_least_empty T.d_least_empty 4 ["kind", "cells", "tops", "many"] (spM K 4 m_least_empty) :=
  fn_m T.F_least_empty sc_least_empty fun cdv A outer s H E hr =>
  (psx_cons (psx_expr (px_fn G_check_kind (hr.mono (by decide)) (by rfl) T.m_check_kind T.F_check_kind.kp T.b_check_kind (pxa_d (px_var (pv 0)) pxa_nil) (xaD_len (fun _ _ _ _ h => xaNil_len h))))
  (psx_cons (psx_expr (px_fn G_check_from (hr.mono (by decide)) (by rfl) T.m_check_from T.F_check_from.kp T.b_check_from (pxa_d (px_var (pv 1)) (pxa_d px_int pxa_nil)) (xaD_len (xaD_len (fun _ _ _ _ h => xaNil_len h)))))
  (psx_cons (psx_expr (px_fn G_check_tops (hr.mono (by decide)) (by rfl) T.m_check_tops T.F_check_tops.kp T.b_check_tops (pxa_d (px_var (pv 2)) pxa_nil) (xaD_len (fun _ _ _ _ h => xaNil_len h))))
  (psx_cons (psx_expr (px_fn G_check_from (hr.mono (by decide)) (by rfl) T.m_check_from T.F_check_from.kp T.b_check_from (pxa_d (px_var (pv 3)) (pxa_d px_int pxa_nil)) (xaD_len (xaD_len (fun _ _ _ _ h => xaNil_len h)))))
  (psx_cons (psx_set (i := 4) sc_least_empty.nd rfl (.inl rfl) (px_fn G_longest_of (hr.mono (by decide)) (by rfl) T.m_longest_of T.F_longest_of.kp T.b_longest_of (pxa_d (px_var (pv 2)) (pxa_d (px_var (pv 3)) pxa_nil)) (xaD_len (xaD_len (fun _ _ _ _ h => xaNil_len h)))))
  (psx_cons (psx_set (i := 5) sc_least_empty.nd rfl (.inl rfl) (px_fn G_fewest_empty (hr.mono (by decide)) (by rfl) T.m_fewest_empty T.F_fewest_empty.kp T.b_fewest_empty (pxa_d (px_var (pv 0)) pxa_nil) (xaD_len (fun _ _ _ _ h => xaNil_len h))))
  (psx_cons (psx_while PassesOwn.never (pxt_cmp op_ltD (px_fn G_bound_beside (hr.mono (by decide)) (by rfl) T.m_bound_beside T.F_bound_beside.kp T.b_bound_beside (pxa_d (px_var (pv 0)) (pxa_d (px_var (pv 1)) (pxa_d (px_var (pv 5)) pxa_nil))) (xaD_len (xaD_len (xaD_len (fun _ _ _ _ h => xaNil_len h))))) (px_var (pv 4)) (nomark _))
  (psx_one (psx_aug (ps_aug (i := 5) sc_least_empty.nd rfl (.inl rfl) px_int ip_add))))
  (psx_one (psx_ret (px_var (pv 5)))))))))))
theorem ok_trades (T : Tx K mg) (G_check_from : FnG P w K mg base 3 T.f_check_from T.d_check_from 2 ["value", "low"] (spM K 2 m_check_from)) (G_check_kind : FnG P w K mg base 2 T.f_check_kind T.d_check_kind 1 ["kind"] (spM K 1 m_check_kind)) (G_check_tops : FnG P w K mg base 4 T.f_check_tops T.d_check_tops 1 ["tops"] (spM K 1 m_check_tops)) (G_longest_of : FnG P w K mg base 3 T.f_longest_of T.d_longest_of 2 ["tops", "many"] (spM K 2 m_longest_of)) (G_cells_beside : FnG P w K mg base 2 T.f_cells_beside T.d_cells_beside 3 ["kind", "empty", "longest"] (spM K 3 m_cells_beside)) (G_fewest_empty : FnG P w K mg base 1 T.f_fewest_empty T.d_fewest_empty 1 ["kind"] (spM K 1 m_fewest_empty)) : FnG P w K mg base 5 T.f_trades T.d_trades 3 ["kind", "tops", "many"] (spF K 3 m_trades) :=
  fn_f T.F_trades sc_trades fun n0 cdv A outer s H E hr =>
  (psx_cons (psx_expr (px_fn G_check_kind (hr.mono (by decide)) (by rfl) T.m_check_kind T.F_check_kind.kp T.b_check_kind (pxa_d (px_var (pv 0)) pxa_nil) (xaD_len (fun _ _ _ _ h => xaNil_len h))))
  (psx_cons (psx_expr (px_fn G_check_tops (hr.mono (by decide)) (by rfl) T.m_check_tops T.F_check_tops.kp T.b_check_tops (pxa_d (px_var (pv 1)) pxa_nil) (xaD_len (fun _ _ _ _ h => xaNil_len h))))
  (psx_cons (psx_expr (px_fn G_check_from (hr.mono (by decide)) (by rfl) T.m_check_from T.F_check_from.kp T.b_check_from (pxa_d (px_var (pv 2)) (pxa_d px_int pxa_nil)) (xaD_len (xaD_len (fun _ _ _ _ h => xaNil_len h)))))
  (psx_cons (psx_set (i := 3) sc_trades.nd rfl (.inl rfl) (px_fn G_longest_of (hr.mono (by decide)) (by rfl) T.m_longest_of T.F_longest_of.kp T.b_longest_of (pxa_d (px_var (pv 1)) (pxa_d (px_var (pv 2)) pxa_nil)) (xaD_len (xaD_len (fun _ _ _ _ h => xaNil_len h)))))
  (psx_cons (psx_set (i := 4) sc_trades.nd rfl (.inl rfl) (px_fn G_fewest_empty (hr.mono (by decide)) (by rfl) T.m_fewest_empty T.F_fewest_empty.kp T.b_fewest_empty (pxa_d (px_var (pv 0)) pxa_nil) (xaD_len (fun _ _ _ _ h => xaNil_len h))))
  (psx_cons (psx_own (i := 5) sc_trades.nd rfl (.inl rfl) (pxf_lst (pxa_d (px_tup (pxa_d (px_fn G_cells_beside (hr.mono (by decide)) (by rfl) T.m_cells_beside T.F_cells_beside.kp T.b_cells_beside (pxa_d (px_var (pv 0)) (pxa_d (px_var (pv 4)) (pxa_d (px_var (pv 3)) pxa_nil))) (xaD_len (xaD_len (xaD_len (fun _ _ _ _ h => xaNil_len h))))) (pxa_d (px_var (pv 4)) pxa_nil))) pxa_nil)))
  (psx_cons (psx_while PassesOwn.never (pxt_view (pxt_cmp op_gtD (px_ix (px_ix (px_var (pv 5)) (px_un un_negD px_int) (fun _ _ => rfl)) px_int (fun _ _ => rfl)) px_int (nomark _)))
  (psx_cons (psx_aug (ps_aug (i := 4) sc_trades.nd rfl (.inl rfl) px_int ip_add))
  (psx_one (psx_app (ps_expr (pe_bm PySem.F.plainAttrs_list PySem.F.slot_list_append PySem.F.type_list_append mt_append (pv 5) (pa_cons (px_tup (pxa_d (px_fn G_cells_beside (hr.mono (by decide)) (by rfl) T.m_cells_beside T.F_cells_beside.kp T.b_cells_beside (pxa_d (px_var (pv 0)) (pxa_d (px_var (pv 4)) (pxa_d (px_var (pv 3)) pxa_nil))) (xaD_len (xaD_len (xaD_len (fun _ _ _ _ h => xaNil_len h))))) (pxa_d (px_var (pv 4)) pxa_nil))) pa_nil)))))))
  (psx_one (psx_frz 5 (psx_retF (pxf_rev (px_var (pv 5)))))))))))))
theorem ok_check_passes (T : Tx K mg) (G_check_run : FnG P w K mg base 6 T.f_check_run T.d_check_run 3 ["kind", "room", "many"] (spM K 3 m_check_run)) (G_passes : FnG P w K mg base 4 T.f_passes T.d_passes 3 ["kind", "room", "many"] (spM K 3 m_passes)) : FnG P w K mg base 7 T.f_check_passes T.d_check_passes 3 ["kind", "room", "many"] (spM K 3 m_check_passes) :=
  fn_m T.F_check_passes sc_check_passes fun cdv A outer s H E hr =>
  (psx_cons (psx_expr (px_fn G_check_run (hr.mono (by decide)) (by rfl) T.m_check_run T.F_check_run.kp T.b_check_run (pxa_d (px_var (pv 0)) (pxa_d (px_var (pv 1)) (pxa_d (px_var (pv 2)) pxa_nil))) (xaD_len (xaD_len (xaD_len (fun _ _ _ _ h => xaNil_len h))))))
  (psx_one (psx_if (pxt_not (pxt_truth (px_fn G_passes (hr.mono (by decide)) (by rfl) T.m_passes T.F_passes.kp T.b_passes (pxa_d (px_var (pv 0)) (pxa_d (px_var (pv 1)) (pxa_d (px_var (pv 2)) pxa_nil))) (xaD_len (xaD_len (xaD_len (fun _ _ _ _ h => xaNil_len h)))))))
  (psx_one psx_never)
  psx_nil)))
theorem ok_needed_tops (T : Tx K mg) (G_bound_of : FnG P w K mg base 2 T.f_bound_of T.d_bound_of 2 ["kind", "room"] (spM K 2 m_bound_of)) (G_marks_of : FnG P w K mg base 1 T.f_marks_of T.d_marks_of 2 ["tops", "many"] (spM K 2 m_marks_of)) (G_check_passes : FnG P w K mg base 7 T.f_check_passes T.d_check_passes 3 ["kind", "room", "many"] (spM K 3 m_check_passes)) : FnG P w K mg base 8 T.f_needed_tops T.d_needed_tops 3 ["kind", "room", "many"] (spM K 3 m_needed_tops) :=
  fn_m T.F_needed_tops sc_needed_tops fun cdv A outer s H E hr =>
  (psx_cons (psx_expr (px_fn G_check_passes (hr.mono (by decide)) (by rfl) T.m_check_passes T.F_check_passes.kp T.b_check_passes (pxa_d (px_var (pv 0)) (pxa_d (px_var (pv 1)) (pxa_d (px_var (pv 2)) pxa_nil))) (xaD_len (xaD_len (xaD_len (fun _ _ _ _ h => xaNil_len h))))))
  (psx_cons (psx_set (i := 3) sc_needed_tops.nd rfl (.inr rfl) (px_fn G_bound_of (hr.mono (by decide)) (by rfl) T.m_bound_of T.F_bound_of.kp T.b_bound_of (pxa_d (px_var (pv 0)) (pxa_d (px_var (pv 1)) pxa_nil)) (xaD_len (xaD_len (fun _ _ _ _ h => xaNil_len h)))))
  (psx_cons (psx_set (i := 4) sc_needed_tops.nd rfl (.inr rfl) (px_fn G_marks_of (hr.mono (by decide)) (by rfl) T.m_marks_of T.F_marks_of.kp T.b_marks_of (pxa_d (px_ix (px_var (pv 1)) px_int (fun _ _ => rfl)) (pxa_d (px_var (pv 2)) pxa_nil)) (xaD_len (xaD_len (fun _ _ _ _ h => xaNil_len h)))))
  (psx_one (psx_ret (px_of_f (pxf_lc (own := [("at", 5)]) rfl sc_needed_tops.nd (pxi_range2 (by rfl) T.n_range (pxa_d px_int (pxa_d (px_op op_subD (px_bi (c_len) (by rfl) T.n_len bt_len (pxa_d (px_var (pv 4)) pxa_nil)) px_int) pxa_nil)) (h1 := (xaD_len (xaD_len (fun _ _ _ _ h => xaNil_len h))))) (blkOk_by (own := [("at", 5)]) (N := N_needed_tops) (sc := defScope s_needed_tops) (by decide +kernel)) (fun _ _ _ _ _ => (pxg_nm (pg_name (i := 5) sc_needed_tops.nd rfl (.inl rfl)))) (fun _ _ _ _ _ => (pxts_one (pxt_cmp op_gtD (px_op op_subD (px_ix (px_var (pv 4)) (px_op op_addD (px_var (pv 5)) px_int) (fun _ _ => rfl)) (px_ix (px_var (pv 4)) (px_op op_subD (px_var (pv 5)) px_int) (fun _ _ => rfl))) (px_var (pv 3)) (nomark _)))) (fun _ _ _ _ _ => (px_ix (px_var (pv 4)) (px_var (pv 5)) (fun _ _ => rfl))) (by decide))))))))
theorem ok_tops_between (T : Tx K mg) : FnG P w K mg base 1 T.f_tops_between T.d_tops_between 3 ["low", "high", "most"] (spM K 3 m_tops_between) :=
  fn_m T.F_tops_between sc_tops_between fun cdv A outer s H E hr =>
  (psx_cons (psx_set (i := 3) sc_tops_between.nd rfl (.inl rfl) (px_op op_fdivD (px_op op_subD (px_op op_subD (px_var (pv 1)) (px_var (pv 0))) px_int) (px_var (pv 2))))
  (psx_one (psx_ret (px_of_f (pxf_lc (own := [("left", 4)]) rfl sc_tops_between.nd (pxi_revR (fun _ h => pi_revR (by rfl) T.n_reversed h) (pxr_2 (by rfl) T.n_range px_int (px_op op_addD (px_var (pv 3)) px_int))) (blkOk_by (own := [("left", 4)]) (N := N_tops_between) (sc := defScope s_tops_between) (by decide +kernel)) (fun _ _ _ _ _ => (pxg_nm (pg_name (i := 4) sc_tops_between.nd rfl (.inl rfl)))) (fun _ _ _ _ _ => pxts_nil) (fun _ _ _ _ _ => (px_op op_subD (px_var (pv 1)) (px_op op_mulD (px_var (pv 2)) (px_var (pv 4))))) (by decide))))))
theorem ok_tops_to_add (T : Tx K mg) (G_check_run : FnG P w K mg base 6 T.f_check_run T.d_check_run 3 ["kind", "room", "many"] (spM K 3 m_check_run)) (G_bound_of : FnG P w K mg base 2 T.f_bound_of T.d_bound_of 2 ["kind", "room"] (spM K 2 m_bound_of)) (G_stretches_of : FnG P w K mg base 2 T.f_stretches_of T.d_stretches_of 2 ["tops", "many"] (spM K 2 m_stretches_of)) (G_tops_between : FnG P w K mg base 1 T.f_tops_between T.d_tops_between 3 ["low", "high", "most"] (spM K 3 m_tops_between)) : FnG P w K mg base 7 T.f_tops_to_add T.d_tops_to_add 3 ["kind", "room", "many"] (spM K 3 m_tops_to_add) :=
  fn_m T.F_tops_to_add sc_tops_to_add fun cdv A outer s H E hr =>
  (psx_cons (psx_expr (px_fn G_check_run (hr.mono (by decide)) (by rfl) T.m_check_run T.F_check_run.kp T.b_check_run (pxa_d (px_var (pv 0)) (pxa_d (px_var (pv 1)) (pxa_d (px_var (pv 2)) pxa_nil))) (xaD_len (xaD_len (xaD_len (fun _ _ _ _ h => xaNil_len h))))))
  (psx_cons (psx_set (i := 3) sc_tops_to_add.nd rfl (.inr rfl) (px_fn G_bound_of (hr.mono (by decide)) (by rfl) T.m_bound_of T.F_bound_of.kp T.b_bound_of (pxa_d (px_var (pv 0)) (pxa_d (px_var (pv 1)) pxa_nil)) (xaD_len (xaD_len (fun _ _ _ _ h => xaNil_len h)))))
  (psx_cons (psx_if (pxt_cmp (op_eqDD hr.u64) (px_var (pv 3)) px_int (nomark _))
  (psx_one psx_never)
  psx_nil)
  (psx_one (psx_ret (px_of_f (pxf_lc2 (own := [("low", 5), ("high", 6), ("top", 4)]) (vs1 := [4]) rfl sc_tops_to_add.nd (pxi_list (px_fn G_stretches_of (hr.mono (by decide)) (by rfl) T.m_stretches_of T.F_stretches_of.kp T.b_stretches_of (pxa_d (px_ix (px_var (pv 1)) px_int (fun _ _ => rfl)) (pxa_d (px_var (pv 2)) pxa_nil)) (xaD_len (xaD_len (fun _ _ _ _ h => xaNil_len h))))) (blkOk_by (own := [("low", 5), ("high", 6), ("top", 4)]) (N := N_tops_to_add) (sc := defScope s_tops_to_add) (by decide +kernel)) (by decide) (fun _ _ _ _ _ => (pxg_tup rfl (pxgs_cons (pxg_nm (pg_name (i := 5) sc_tops_to_add.nd rfl (.inl rfl))) (pxgs_cons (pxg_nm (pg_name (i := 6) sc_tops_to_add.nd rfl (.inl rfl))) pxgs_nil)))) (fun _ _ _ _ _ => pxts_nil) (fun _ _ _ _ _ => (pxi_list (px_fn G_tops_between (hr.mono (by decide)) (by rfl) T.m_tops_between T.F_tops_between.kp T.b_tops_between (pxa_d (px_var (pv 5)) (pxa_d (px_var (pv 6)) (pxa_d (px_var (pv 3)) pxa_nil))) (xaD_len (xaD_len (xaD_len (fun _ _ _ _ h => xaNil_len h))))))) (fun _ _ _ _ _ => (pxg_nm (pg_name (i := 4) sc_tops_to_add.nd rfl (.inl rfl)))) (fun _ _ _ _ _ => pxts_nil) (fun _ _ _ _ _ => (px_var (pv 4))) (by decide) (by decide))))))))
theorem ok_greatest_with (T : Tx K mg) (G_check_from : FnG P w K mg base 3 T.f_check_from T.d_check_from 2 ["value", "low"] (spM K 2 m_check_from)) (G_check_kind : FnG P w K mg base 2 T.f_check_kind T.d_check_kind 1 ["kind"] (spM K 1 m_check_kind)) (G_check_room : FnG P w K mg base 5 T.f_check_room T.d_check_room 1 ["room"] (spM K 1 m_check_room)) (G_greatest_reached : FnG P w K mg base 3 T.f_greatest_reached T.d_greatest_reached 3 ["kind", "room", "further"] (spM K 3 m_greatest_reached)) : FnG P w K mg base 6 T.f_greatest_with T.d_greatest_with 3 ["kind", "room", "further"] (spM K 3 m_greatest_with) :=
  fn_m T.F_greatest_with sc_greatest_with fun cdv A outer s H E hr =>
  (psx_cons (psx_expr (px_fn G_check_kind (hr.mono (by decide)) (by rfl) T.m_check_kind T.F_check_kind.kp T.b_check_kind (pxa_d (px_var (pv 0)) pxa_nil) (xaD_len (fun _ _ _ _ h => xaNil_len h))))
  (psx_cons (psx_expr (px_fn G_check_room (hr.mono (by decide)) (by rfl) T.m_check_room T.F_check_room.kp T.b_check_room (pxa_d (px_var (pv 1)) pxa_nil) (xaD_len (fun _ _ _ _ h => xaNil_len h))))
  (psx_cons (psx_expr (px_fn G_check_from (hr.mono (by decide)) (by rfl) T.m_check_from T.F_check_from.kp T.b_check_from (pxa_d (px_var (pv 2)) (pxa_d px_int pxa_nil)) (xaD_len (xaD_len (fun _ _ _ _ h => xaNil_len h)))))
  (psx_one (psx_ret (px_fn G_greatest_reached (hr.mono (by decide)) (by rfl) T.m_greatest_reached T.F_greatest_reached.kp T.b_greatest_reached (pxa_d (px_var (pv 0)) (pxa_d (px_var (pv 1)) (pxa_d (px_var (pv 2)) pxa_nil))) (xaD_len (xaD_len (xaD_len (fun _ _ _ _ h => xaNil_len h))))))))))
theorem ok_law_cell (T : Tx K mg) : FnG P w K mg base 1 T.f_law_cell T.d_law_cell 2 ["script", "index"] (spM K 2 m_law_cell) :=
  fn_m T.F_law_cell sc_law_cell fun cdv A outer s H E hr =>
  (psx_cons (psx_if (pxt_cmp op_ltD (px_var (pv 1)) (px_bi (c_len) (by rfl) T.n_len bt_len (pxa_d (px_var (pv 0)) pxa_nil)) (nomark _))
  (psx_one (psx_ret (px_ix (px_var (pv 0)) (px_var (pv 1)) (fun _ _ => rfl))))
  psx_nil)
  (psx_one (psx_ret (px_op op_modD (px_bi (c_sum rfl) (by rfl) T.n_sum bt_sum (pxa_d (px_of_f (pxf_slice (px_var (pv 0)) pxo_none (pxo_some px_int))) pxa_nil)) px_int))))
theorem ok_law_hash (T : Tx K mg) : FnG P w K mg base 1 T.f_law_hash T.d_law_hash 2 ["seed", "index"] (spM K 2 m_law_hash) :=
  fn_m T.F_law_hash sc_law_hash fun cdv A outer s H E hr =>
  (psx_cons (psx_set (i := 2) sc_law_hash.nd rfl (.inl rfl) (px_op op_modD (px_ty (c_int) (by rfl) T.n_int bt_int (pxa_d (px_op op_addD (px_op op_addD (px_op op_addD (px_op op_mulD (px_var (pv 0)) px_int) (px_op op_mulD (px_op op_mulD px_int (px_var (pv 1))) (px_var (pv 1)))) (px_op op_mulD px_int (px_var (pv 1)))) px_int) pxa_nil)) px_int))
  (psx_cons (psx_set (i := 2) sc_law_hash.nd rfl (.inl rfl) (px_op op_modD (px_ty (c_int) (by rfl) T.n_int bt_int (pxa_d (px_op op_addD (px_op op_addD (px_op op_mulD (px_var (pv 2)) (px_var (pv 2))) (px_op op_mulD px_int (px_var (pv 1)))) px_int) pxa_nil)) px_int))
  (psx_one (psx_ret (px_op op_modD (px_ty (c_int) (by rfl) T.n_int bt_int (pxa_d (px_op op_mulD (px_var (pv 2)) px_int) pxa_nil)) px_int)))))
theorem ok_law_generator (T : Tx K mg) (G_law_cell : FnG P w K mg base 1 T.f_law_cell T.d_law_cell 2 ["script", "index"] (spM K 2 m_law_cell)) : FnG P w K mg base 2 T.f_law_generator T.d_law_generator 2 ["script", "index"] (spF K 2 m_law_generator) :=
  fn_f T.F_law_generator sc_law_generator fun n0 cdv A outer s H E hr =>
  (psx_cons (psx_set (i := 2) sc_law_generator.nd rfl (.inl rfl) (px_fn G_law_cell (hr.mono (by decide)) (by rfl) T.m_law_cell T.F_law_cell.kp T.b_law_cell (pxa_d (px_var (pv 0)) (pxa_d (px_var (pv 1)) pxa_nil)) (xaD_len (xaD_len (fun _ _ _ _ h => xaNil_len h)))))
  (psx_one (psx_retF (pxf_lst (pxa_d (px_op op_modD (px_ty (c_int) (by rfl) T.n_int bt_int (pxa_d (px_bi (c_max rfl) (by rfl) T.n_max bt_max (pxa_d (px_op op_subD (px_var (pv 2)) (px_op op_powD px_int px_int)) (pxa_d px_int pxa_nil))) pxa_nil)) (px_op op_powD (px_op op_powD px_int px_int) px_int)) (pxa_d (px_op op_modD (px_ty (c_int) (by rfl) T.n_int bt_int (pxa_d (px_var (pv 2)) pxa_nil)) px_int) (pxa_d (px_op op_mulD px_int (px_var (pv 1))) pxa_nil)))))))
theorem ok_law_random (T : Tx K mg) (G_law_hash : FnG P w K mg base 1 T.f_law_hash T.d_law_hash 2 ["seed", "index"] (spM K 2 m_law_hash)) : FnG P w K mg base 2 T.f_law_random T.d_law_random 2 ["generator", "limit"] (spM K 2 m_law_random) :=
  fn_m T.F_law_random sc_law_random fun cdv A outer s H E hr =>
  (psx_cons (psx_if (pxt_view (pxt_cmp op_gtD (px_ix (px_var (pv 0)) px_int (fun _ _ => rfl)) px_int (nomark _)))
  (psx_cons (psx_set (i := 2) sc_law_random.nd rfl (.inl rfl) (px_view (px_op op_modD (px_ty (c_int) (by rfl) T.n_int bt_int (pxa_d (px_ix (px_var (pv 0)) px_int (fun _ _ => rfl)) pxa_nil)) (px_var (pv 1)))))
  (psx_cons (psx_setItem (ps_asg (px_view (px_op op_fdivD (px_ix (px_var (pv 0)) px_int (fun _ _ => rfl)) (px_var (pv 1)))) (pg_sub (pv 0) px_int set_list)))
  (psx_one (psx_ret (px_var (pv 2))))))
  psx_nil)
  (psx_cons (psx_set (i := 2) sc_law_random.nd rfl (.inl rfl) px_int)
  (psx_cons (psx_for PassesOwn.never rfl (pxi_range1 (by rfl) T.n_range (pxa_d (px_op op_addD px_int (px_op op_fdivD (px_bits (pe_bits (px_var (pv 1)))) px_int)) pxa_nil) (h1 := (xaD_len (fun _ _ _ _ h => xaNil_len h)))) (pxg_nm (pg_name (i := 3) sc_law_random.nd rfl (.inl rfl)))
  (psx_cons (psx_setItem (ps_asg (px_view (px_op op_addD (px_ix (px_var (pv 0)) px_int (fun _ _ => rfl)) px_int)) (pg_sub (pv 0) px_int set_list)))
  (psx_one (psx_set (i := 2) sc_law_random.nd rfl (.inl rfl) (px_view (px_op op_addD (px_op op_mulD (px_var (pv 2)) px_int) (px_fn G_law_hash (hr.mono (by decide)) (by rfl) T.m_law_hash T.F_law_hash.kp T.b_law_hash (pxa_d (px_ix (px_var (pv 0)) px_int (fun _ _ => rfl)) (pxa_d (px_ix (px_var (pv 0)) px_int (fun _ _ => rfl)) pxa_nil)) (xaD_len (xaD_len (fun _ _ _ _ h => xaNil_len h))))))))))
  (psx_one (psx_ret (px_op op_modD (px_ty (c_int) (by rfl) T.n_int bt_int (pxa_d (px_var (pv 2)) pxa_nil)) (px_var (pv 1))))))))
theorem ok_law_tops (T : Tx K mg) (G_law_random : FnG P w K mg base 2 T.f_law_random T.d_law_random 2 ["generator", "limit"] (spM K 2 m_law_random)) : FnG P w K mg base 3 T.f_law_tops T.d_law_tops 3 ["generator", "many", "most"] (spM K 3 m_law_tops) :=
  fn_m T.F_law_tops sc_law_tops fun cdv A outer s H E hr =>
  (psx_one (psx_ret (px_of_f (pxf_lc (own := [("top", 3)]) rfl sc_law_tops.nd (pxi_range2 (by rfl) T.n_range (pxa_d px_int (pxa_d (px_op op_addD (px_var (pv 1)) px_int) pxa_nil)) (h1 := (xaD_len (xaD_len (fun _ _ _ _ h => xaNil_len h))))) (blkOk_by (own := [("top", 3)]) (N := N_law_tops) (sc := defScope s_law_tops) (by decide +kernel)) (fun _ _ _ _ _ => (pxg_nm (pg_name (i := 3) sc_law_tops.nd rfl (.inl rfl)))) (fun _ _ _ _ _ => (pxts_one (pxt_cmp op_ltD (px_fn G_law_random (hr.mono (by decide)) (by rfl) T.m_law_random T.F_law_random.kp T.b_law_random (pxa_o (pv 0) (pxa_d (px_var (pv 1)) pxa_nil)) (xaO_len (xaD_len (fun _ _ _ _ h => xaNil_len h)))) (px_var (pv 2)) (nomark _)))) (fun _ _ _ _ _ => (px_var (pv 3))) (by decide)))))
theorem ok_law_room (T : Tx K mg) (G_law_random : FnG P w K mg base 2 T.f_law_random T.d_law_random 2 ["generator", "limit"] (spM K 2 m_law_random)) (G_law_tops : FnG P w K mg base 3 T.f_law_tops T.d_law_tops 3 ["generator", "many", "most"] (spM K 3 m_law_tops)) : FnG P w K mg base 4 T.f_law_room T.d_law_room 2 ["generator", "many"] (spM K 2 m_law_room) :=
  fn_m T.F_law_room sc_law_room fun cdv A outer s H E hr =>
  (psx_one (psx_ret (px_tup (pxa_d (px_fn G_law_random (hr.mono (by decide)) (by rfl) T.m_law_random T.F_law_random.kp T.b_law_random (pxa_o (pv 0) (pxa_d px_int pxa_nil)) (xaO_len (xaD_len (fun _ _ _ _ h => xaNil_len h)))) (pxa_d (px_fn G_law_random (hr.mono (by decide)) (by rfl) T.m_law_random T.F_law_random.kp T.b_law_random (pxa_o (pv 0) (pxa_d px_int pxa_nil)) (xaO_len (xaD_len (fun _ _ _ _ h => xaNil_len h)))) (pxa_d (px_fn G_law_tops (hr.mono (by decide)) (by rfl) T.m_law_tops T.F_law_tops.kp T.b_law_tops (pxa_o (pv 0) (pxa_d (px_var (pv 1)) (pxa_d px_int pxa_nil))) (xaO_len (xaD_len (xaD_len (fun _ _ _ _ h => xaNil_len h))))) pxa_nil))))))
theorem ok_law_great (T : Tx K mg) (G_law_random : FnG P w K mg base 2 T.f_law_random T.d_law_random 2 ["generator", "limit"] (spM K 2 m_law_random)) : FnG P w K mg base 3 T.f_law_great T.d_law_great 1 ["generator"] (spM K 1 m_law_great) :=
  fn_m T.F_law_great sc_law_great fun cdv A outer s H E hr =>
  (psx_cons (psx_parO (by decide) (ps_par (i := 2) (j := 3) rfl sc_law_great.nd rfl rfl (by decide) rfl rfl (pa_cons (pxf_lst pxa_nil) (pa_cons px_int pa_nil)) (by rfl)))
  (psx_cons (psx_for PassesOwn.never rfl (pxi_range1 (by rfl) T.n_range (pxa_d (px_fn G_law_random (hr.mono (by decide)) (by rfl) T.m_law_random T.F_law_random.kp T.b_law_random (pxa_o (pv 0) (pxa_d px_int pxa_nil)) (xaO_len (xaD_len (fun _ _ _ _ h => xaNil_len h)))) pxa_nil) (h1 := (xaD_len (fun _ _ _ _ h => xaNil_len h)))) (pxg_nm (pg_name (i := 1) sc_law_great.nd rfl (.inl rfl)))
  (psx_cons (psx_set (i := 3) sc_law_great.nd rfl (.inl rfl) (px_op op_addD (px_op op_addD (px_var (pv 3)) px_int) (px_fn G_law_random (hr.mono (by decide)) (by rfl) T.m_law_random T.F_law_random.kp T.b_law_random (pxa_o (pv 0) (pxa_d (px_ix (px_lst (pxa_d px_int (pxa_d (px_op op_powD px_int px_int) (pxa_d (px_op op_powD px_int px_int) pxa_nil)))) (px_fn G_law_random (hr.mono (by decide)) (by rfl) T.m_law_random T.F_law_random.kp T.b_law_random (pxa_o (pv 0) (pxa_d px_int pxa_nil)) (xaO_len (xaD_len (fun _ _ _ _ h => xaNil_len h)))) (fun _ _ => rfl)) pxa_nil)) (xaO_len (xaD_len (fun _ _ _ _ h => xaNil_len h))))))
  (psx_one (psx_app (ps_expr (pe_bm PySem.F.plainAttrs_list PySem.F.slot_list_append PySem.F.type_list_append mt_append (pv 2) (pa_cons (px_var (pv 3)) pa_nil)))))))
  (psx_one (psx_frz 2 (psx_ret (px_tup (pxa_d (px_fn G_law_random (hr.mono (by decide)) (by rfl) T.m_law_random T.F_law_random.kp T.b_law_random (pxa_o (pv 0) (pxa_d (px_ix (px_lst (pxa_d px_int (pxa_d (px_op op_powD px_int px_int) (pxa_d (px_op op_powD px_int px_int) pxa_nil)))) (px_fn G_law_random (hr.mono (by decide)) (by rfl) T.m_law_random T.F_law_random.kp T.b_law_random (pxa_o (pv 0) (pxa_d px_int pxa_nil)) (xaO_len (xaD_len (fun _ _ _ _ h => xaNil_len h)))) (fun _ _ => rfl)) pxa_nil)) (xaO_len (xaD_len (fun _ _ _ _ h => xaNil_len h)))) (pxa_d (px_fn G_law_random (hr.mono (by decide)) (by rfl) T.m_law_random T.F_law_random.kp T.b_law_random (pxa_o (pv 0) (pxa_d (px_ix (px_lst (pxa_d px_int (pxa_d px_int (pxa_d px_int pxa_nil)))) (px_fn G_law_random (hr.mono (by decide)) (by rfl) T.m_law_random T.F_law_random.kp T.b_law_random (pxa_o (pv 0) (pxa_d px_int pxa_nil)) (xaO_len (xaD_len (fun _ _ _ _ h => xaNil_len h)))) (fun _ _ => rfl)) pxa_nil)) (xaO_len (xaD_len (fun _ _ _ _ h => xaNil_len h)))) (pxa_d (px_var (pv 2)) pxa_nil)))))))))
theorem ok_law_greatest (T : Tx K mg) : FnG P w K mg base 1 T.f_law_greatest T.d_law_greatest 2 ["kind", "room"] (spM K 2 m_law_greatest) :=
  fn_m T.F_law_greatest sc_law_greatest fun cdv A outer s H E hr =>
  (psx_cons (psx_asg (px_var (pv 1)) (pxg_tup rfl (pxgs_cons (pxg_nm (pg_name (i := 3) sc_law_greatest.nd rfl (.inl rfl))) (pxgs_cons (pxg_nm (pg_name (i := 4) sc_law_greatest.nd rfl (.inl rfl))) (pxgs_cons (pxg_nm (pg_name (i := 5) sc_law_greatest.nd rfl (.inl rfl))) pxgs_nil)))))
  (psx_cons (psx_par (ps_par (i := 6) (j := 7) rfl sc_law_greatest.nd rfl rfl (by decide) rfl rfl (pa_cons (px_if (pxw_t (pxw_and (pxt_cmp (op_eqDD hr.u64) (px_var (pv 0)) px_str (nomark _)) (pxw_and1 (pxt_cmp (op_eqDD hr.u64) (px_var (pv 4)) px_int (nomark _))))) px_int (px_op op_mulD (px_op op_addD (px_var (pv 3)) px_int) (px_op op_shlD px_int (px_op op_subD (px_var (pv 4)) (px_ty (c_int) (by rfl) T.n_int bt_int (pxa_d (px_cmp (op_eqDD hr.u64) (px_var (pv 0)) px_str (nomark _)) pxa_nil)))))) (pa_cons px_int pa_nil)) (by rfl)))
  (psx_cons (psx_for PassesOwn.never rfl (pxi_list (px_var (pv 5))) (pxg_nm (pg_name (i := 2) sc_law_greatest.nd rfl (.inl rfl)))
  (psx_one (psx_set (i := 7) sc_law_greatest.nd rfl (.inl rfl) (px_if (pxw_t (pxw_and (pxt_cmp op_gtD (px_var (pv 6)) px_int (nomark _)) (pxw_and1 (pxt_cmp op_leD (px_op op_subD (px_var (pv 2)) (px_var (pv 7))) (px_var (pv 6)) (nomark _))))) (px_var (pv 2)) (px_var (pv 7))))))
  (psx_one (psx_ret (px_if (pxt_cmp op_gtD (px_var (pv 6)) px_int (nomark _)) (px_op op_addD (px_var (pv 7)) (px_var (pv 6))) px_int))))))
theorem ok_law_sides_right (T : Tx K mg) (G_can_pass : FnG P w K mg base 7 T.f_can_pass T.d_can_pass 3 ["kind", "room", "many"] (spM K 3 m_can_pass)) (G_greatest : FnG P w K mg base 6 T.f_greatest T.d_greatest 2 ["kind", "room"] (spM K 2 m_greatest)) (G_barring : FnG P w K mg base 7 T.f_barring T.d_barring 3 ["kind", "room", "many"] (spF K 3 m_barring)) (G_least_cells : FnG P w K mg base 5 T.f_least_cells T.d_least_cells 4 ["kind", "empty", "tops", "many"] (spM K 4 m_least_cells)) (G_least_empty : FnG P w K mg base 5 T.f_least_empty T.d_least_empty 4 ["kind", "cells", "tops", "many"] (spM K 4 m_least_empty)) (G_trades : FnG P w K mg base 5 T.f_trades T.d_trades 3 ["kind", "tops", "many"] (spF K 3 m_trades)) (G_needed_tops : FnG P w K mg base 8 T.f_needed_tops T.d_needed_tops 3 ["kind", "room", "many"] (spM K 3 m_needed_tops)) (G_tops_to_add : FnG P w K mg base 7 T.f_tops_to_add T.d_tops_to_add 3 ["kind", "room", "many"] (spM K 3 m_tops_to_add)) (G_greatest_with : FnG P w K mg base 6 T.f_greatest_with T.d_greatest_with 3 ["kind", "room", "further"] (spM K 3 m_greatest_with)) (G_law_greatest : FnG P w K mg base 1 T.f_law_greatest T.d_law_greatest 2 ["kind", "room"] (spM K 2 m_law_greatest)) : FnG P w K mg base 9 T.f_law_sides_right T.d_law_sides_right 2 ["kind", "room"] (spM K 2 m_law_sides_right) :=
  fn_m T.F_law_sides_right sc_law_sides_right fun cdv A outer s H E hr =>
  (psx_cons (psx_asg (px_var (pv 1)) (pxg_tup rfl (pxgs_cons (pxg_nm (pg_name (i := 5) sc_law_sides_right.nd rfl (.inr rfl))) (pxgs_cons (pxg_nm (pg_name (i := 6) sc_law_sides_right.nd rfl (.inr rfl))) (pxgs_cons (pxg_nm (pg_name (i := 7) sc_law_sides_right.nd rfl (.inl rfl))) pxgs_nil)))))
  (psx_cons (psx_set (i := 2) sc_law_sides_right.nd rfl (.inl rfl) (px_fn G_greatest (hr.mono (by decide)) (by rfl) T.m_greatest T.F_greatest.kp T.b_greatest (pxa_d (px_var (pv 0)) (pxa_d (px_var (pv 1)) pxa_nil)) (xaD_len (xaD_len (fun _ _ _ _ h => xaNil_len h)))))
  (psx_cons (psx_if (pxt_cmp (op_neDD hr.u64) (px_bi (c_repr hr.gd hr.u65) (by rfl) T.n_repr bt_repr (pxa_d (px_var (pv 2)) pxa_nil)) (px_bi (c_repr hr.gd hr.u65) (by rfl) T.n_repr bt_repr (pxa_d (px_fn G_law_greatest (hr.mono (by decide)) (by rfl) T.m_law_greatest T.F_law_greatest.kp T.b_law_greatest (pxa_d (px_var (pv 0)) (pxa_d (px_var (pv 1)) pxa_nil)) (xaD_len (xaD_len (fun _ _ _ _ h => xaNil_len h)))) pxa_nil)) (nomark _))
  (psx_one (psx_ret px_bl))
  psx_nil)
  (psx_cons (psx_if (pxt_cmp (op_eqDD hr.u64) (px_var (pv 2)) px_int (nomark _))
  (psx_one (psx_ret (px_and (px_cmp (op_eqDD hr.u64) (px_var (pv 0)) px_str (nomark _)) (px_and (px_cmp (op_eqDD hr.u64) (px_var (pv 6)) px_int (nomark _)) (px_one (px_cmp (op_eqDD hr.u64) (px_fn G_greatest_with (hr.mono (by decide)) (by rfl) T.m_greatest_with T.F_greatest_with.kp T.b_greatest_with (pxa_d (px_var (pv 0)) (pxa_d (px_var (pv 1)) (pxa_d px_int pxa_nil))) (xaD_len (xaD_len (xaD_len (fun _ _ _ _ h => xaNil_len h))))) px_int (nomark _)))))))
  psx_nil)
  (psx_cons (psx_par (ps_par (i := 8) (j := 9) rfl sc_law_sides_right.nd rfl rfl (by decide) rfl rfl (pa_cons (px_fn G_least_cells (hr.mono (by decide)) (by rfl) T.m_least_cells T.F_least_cells.kp T.b_least_cells (pxa_d (px_var (pv 0)) (pxa_d (px_var (pv 6)) (pxa_d (px_var (pv 7)) (pxa_d (px_var (pv 2)) pxa_nil)))) (xaD_len (xaD_len (xaD_len (xaD_len (fun _ _ _ _ h => xaNil_len h)))))) (pa_cons (px_fn G_least_empty (hr.mono (by decide)) (by rfl) T.m_least_empty T.F_least_empty.kp T.b_least_empty (pxa_d (px_var (pv 0)) (pxa_d (px_var (pv 5)) (pxa_d (px_var (pv 7)) (pxa_d (px_var (pv 2)) pxa_nil)))) (xaD_len (xaD_len (xaD_len (xaD_len (fun _ _ _ _ h => xaNil_len h)))))) pa_nil)) (by rfl)))
  (psx_cons (psx_if (pxw_t (pxw_or (pxt_cmp op_gtD (px_var (pv 8)) (px_var (pv 5)) (nomark _)) (pxw_or (pxt_cmp op_gtD (px_var (pv 9)) (px_var (pv 6)) (nomark _)) (pxw_or (pxt_cmp op_isntD (px_fn G_can_pass (hr.mono (by decide)) (by rfl) T.m_can_pass T.F_can_pass.kp T.b_can_pass (pxa_d (px_var (pv 0)) (pxa_d (px_tup (pxa_d (px_var (pv 8)) (pxa_d (px_var (pv 6)) (pxa_d (px_var (pv 7)) pxa_nil)))) (pxa_d (px_var (pv 2)) pxa_nil))) (xaD_len (xaD_len (xaD_len (fun _ _ _ _ h => xaNil_len h))))) px_bl (nomark _)) (pxw_or1 (pxt_cmp op_isntD (px_fn G_can_pass (hr.mono (by decide)) (by rfl) T.m_can_pass T.F_can_pass.kp T.b_can_pass (pxa_d (px_var (pv 0)) (pxa_d (px_tup (pxa_d (px_var (pv 5)) (pxa_d (px_var (pv 9)) (pxa_d (px_var (pv 7)) pxa_nil)))) (pxa_d (px_var (pv 2)) pxa_nil))) (xaD_len (xaD_len (xaD_len (fun _ _ _ _ h => xaNil_len h))))) px_bl (nomark _)))))))
  (psx_one (psx_ret px_bl))
  psx_nil)
  (psx_cons (psx_if (pxw_t (pxw_or (pxt_cmp op_leD (px_fn G_least_cells (hr.mono (by decide)) (by rfl) T.m_least_cells T.F_least_cells.kp T.b_least_cells (pxa_d (px_var (pv 0)) (pxa_d (px_var (pv 6)) (pxa_d (px_var (pv 7)) (pxa_d (px_op op_addD (px_var (pv 2)) px_int) pxa_nil)))) (xaD_len (xaD_len (xaD_len (xaD_len (fun _ _ _ _ h => xaNil_len h)))))) (px_var (pv 5)) (nomark _)) (pxw_or1 (pxt_cmp op_leD (px_fn G_least_empty (hr.mono (by decide)) (by rfl) T.m_least_empty T.F_least_empty.kp T.b_least_empty (pxa_d (px_var (pv 0)) (pxa_d (px_var (pv 5)) (pxa_d (px_var (pv 7)) (pxa_d (px_op op_addD (px_var (pv 2)) px_int) pxa_nil)))) (xaD_len (xaD_len (xaD_len (xaD_len (fun _ _ _ _ h => xaNil_len h)))))) (px_var (pv 6)) (nomark _)))))
  (psx_one (psx_ret px_bl))
  psx_nil)
  (psx_cons (psx_par (ps_par (i := 10) (j := 11) rfl sc_law_sides_right.nd rfl rfl (by decide) rfl rfl (pa_cons (px_fn G_tops_to_add (hr.mono (by decide)) (by rfl) T.m_tops_to_add T.F_tops_to_add.kp T.b_tops_to_add (pxa_d (px_var (pv 0)) (pxa_d (px_var (pv 1)) (pxa_d (px_op op_addD (px_var (pv 2)) px_int) pxa_nil))) (xaD_len (xaD_len (xaD_len (fun _ _ _ _ h => xaNil_len h))))) (pa_cons (px_fnf G_barring (hr.mono (by decide)) (by rfl) T.m_barring T.F_barring.kp T.b_barring (pxa_d (px_var (pv 0)) (pxa_d (px_var (pv 1)) (pxa_d (px_op op_addD (px_var (pv 2)) px_int) pxa_nil))) (xaD_len (xaD_len (xaD_len (fun _ _ _ _ h => xaNil_len h))))) pa_nil)) (by rfl)))
  (psx_cons (psx_if (pxw_t (pxw_or (pxt_cmp (op_neDD hr.u64) (px_bi (c_len) (by rfl) T.n_len bt_len (pxa_d (px_var (pv 11)) pxa_nil)) px_int (nomark _)) (pxw_or (pxt_cmp (op_eqDD hr.u64) (px_var (pv 10)) (px_lst pxa_nil) (nomark _)) (pxw_or1 (pxw_t (pxw_and (pxt_cmp (op_eqDD hr.u64) (px_bi (c_len) (by rfl) T.n_len bt_len (pxa_d (px_var (pv 10)) pxa_nil)) px_int (nomark _)) (pxw_and1 (pxt_cmp op_ltD (px_fn G_greatest_with (hr.mono (by decide)) (by rfl) T.m_greatest_with T.F_greatest_with.kp T.b_greatest_with (pxa_d (px_var (pv 0)) (pxa_d (px_var (pv 1)) (pxa_d px_int pxa_nil))) (xaD_len (xaD_len (xaD_len (fun _ _ _ _ h => xaNil_len h))))) (px_op op_addD (px_var (pv 2)) px_int) (nomark _)))))))))
  (psx_one (psx_ret px_bl))
  psx_nil)
  (psx_cons (psx_setLc (ps_lcF (own := [("pair", 12)]) (by decide) (ps_setLc (i := 3) (own := [("pair", 12)]) rfl sc_law_sides_right.nd rfl rfl (sw_true rfl rfl rfl (by decide +kernel)) (pxi_list (px_fnf G_trades (hr.mono (by decide)) (by rfl) T.m_trades T.F_trades.kp T.b_trades (pxa_d (px_var (pv 0)) (pxa_d (px_var (pv 7)) (pxa_d (px_var (pv 2)) pxa_nil))) (xaD_len (xaD_len (xaD_len (fun _ _ _ _ h => xaNil_len h)))))) (blkOk_by (own := [("pair", 12)]) (N := N_law_sides_right) (sc := defScope s_law_sides_right) (by decide +kernel)) (fun _ _ _ _ _ => (pxg_nm (pg_name (i := 12) sc_law_sides_right.nd rfl (.inl rfl)))) (fun _ _ _ _ _ => (pxts_one (pxw_t (pxw_and (pxt_cmp op_leD (px_ix (px_var (pv 12)) px_int (fun _ _ => rfl)) (px_var (pv 5)) (nomark _)) (pxw_and1 (pxt_cmp op_leD (px_ix (px_var (pv 12)) px_int (fun _ _ => rfl)) (px_var (pv 6)) (nomark _))))))) (fun _ _ _ _ _ => (px_var (pv 12))))))
  (psx_cons (psx_if (pxw_t (pxw_or (pxt_cmp (op_eqDD hr.u64) (px_var (pv 3)) (px_lst pxa_nil) (nomark _)) (pxw_or1 (pxt_cmp (op_neDD hr.u64) (px_fn G_greatest_with (hr.mono (by decide)) (by rfl) T.m_greatest_with T.F_greatest_with.kp T.b_greatest_with (pxa_d (px_var (pv 0)) (pxa_d (px_var (pv 1)) (pxa_d px_int pxa_nil))) (xaD_len (xaD_len (xaD_len (fun _ _ _ _ h => xaNil_len h))))) (px_var (pv 2)) (nomark _)))))
  (psx_one (psx_ret px_bl))
  psx_nil)
  (psx_cons (psx_for PassesOwn.never rfl (pxi_list (px_fn G_needed_tops (hr.mono (by decide)) (by rfl) T.m_needed_tops T.F_needed_tops.kp T.b_needed_tops (pxa_d (px_var (pv 0)) (pxa_d (px_var (pv 1)) (pxa_d (px_var (pv 2)) pxa_nil))) (xaD_len (xaD_len (xaD_len (fun _ _ _ _ h => xaNil_len h)))))) (pxg_nm (pg_name (i := 4) sc_law_sides_right.nd rfl (.inr rfl)))
  (psx_one (psx_if (pxt_cmp op_geD (px_fn G_greatest (hr.mono (by decide)) (by rfl) T.m_greatest T.F_greatest.kp T.b_greatest (pxa_d (px_var (pv 0)) (pxa_d (px_tup (pxa_d (px_var (pv 5)) (pxa_d (px_var (pv 6)) (pxa_d (px_of_f (pxf_lc (own := [("other", 13)]) rfl sc_law_sides_right.nd (pxi_list (px_var (pv 7))) (blkOk_by (own := [("other", 13)]) (N := N_law_sides_right) (sc := defScope s_law_sides_right) (by decide +kernel)) (fun _ _ _ _ _ => (pxg_nm (pg_name (i := 13) sc_law_sides_right.nd rfl (.inl rfl)))) (fun _ _ _ _ _ => (pxts_one (pxt_cmp (op_neDD hr.u64) (px_var (pv 13)) (px_var (pv 4)) (nomark _)))) (fun _ _ _ _ _ => (px_var (pv 13))) (by decide))) pxa_nil)))) pxa_nil)) (xaD_len (xaD_len (fun _ _ _ _ h => xaNil_len h)))) (px_var (pv 2)) (nomark _))
  (psx_one (psx_ret px_bl))
  psx_nil)))
  (psx_one (psx_ret px_bl))))))))))))))
theorem ok_law (T : Tx K mg) (G_bound : FnG P w K mg base 6 T.f_bound T.d_bound 2 ["kind", "room"] (spM K 2 m_bound)) (G_can_pass : FnG P w K mg base 7 T.f_can_pass T.d_can_pass 3 ["kind", "room", "many"] (spM K 3 m_can_pass)) (G_greatest : FnG P w K mg base 6 T.f_greatest T.d_greatest 2 ["kind", "room"] (spM K 2 m_greatest)) (G_law_generator : FnG P w K mg base 2 T.f_law_generator T.d_law_generator 2 ["script", "index"] (spF K 2 m_law_generator)) (G_law_random : FnG P w K mg base 2 T.f_law_random T.d_law_random 2 ["generator", "limit"] (spM K 2 m_law_random)) (G_law_room : FnG P w K mg base 4 T.f_law_room T.d_law_room 2 ["generator", "many"] (spM K 2 m_law_room)) (G_law_great : FnG P w K mg base 3 T.f_law_great T.d_law_great 1 ["generator"] (spM K 1 m_law_great)) (G_law_sides_right : FnG P w K mg base 9 T.f_law_sides_right T.d_law_sides_right 2 ["kind", "room"] (spM K 2 m_law_sides_right)) : FnG P w K mg base 10 T.f_law T.d_law 1 ["script"] (spM K 1 m_law) :=
  fn_m T.F_law sc_law fun cdv A outer s H E hr =>
  (psx_cons (psx_for PassesOwn.never rfl (pxi_range1 (by rfl) T.n_range (pxa_d px_int pxa_nil) (h1 := (xaD_len (fun _ _ _ _ h => xaNil_len h)))) (pxg_nm (pg_name (i := 1) sc_law.nd rfl (.inl rfl)))
  (psx_cons (psx_own (i := 2) sc_law.nd rfl (.inl rfl) (pxf_fn G_law_generator (hr.mono (by decide)) (by rfl) T.m_law_generator T.F_law_generator.kp T.b_law_generator (pxa_d (px_var (pv 0)) (pxa_d (px_var (pv 1)) pxa_nil)) (xaD_len (xaD_len (fun _ _ _ _ h => xaNil_len h)))))
  (psx_cons (psx_set (i := 3) sc_law.nd rfl (.inl rfl) (px_if (pxt_cmp op_ltD (px_var (pv 1)) px_int (nomark _)) (px_fn G_law_room (hr.mono (by decide)) (by rfl) T.m_law_room T.F_law_room.kp T.b_law_room (pxa_o (pv 2) (pxa_d px_int pxa_nil)) (xaO_len (xaD_len (fun _ _ _ _ h => xaNil_len h)))) (px_fn G_law_great (hr.mono (by decide)) (by rfl) T.m_law_great T.F_law_great.kp T.b_law_great (pxa_o (pv 2) pxa_nil) (xaO_len (fun _ _ _ _ h => xaNil_len h)))))
  (psx_cons (psx_for PassesOwn.never rfl (pxi_list (px_lst (pxa_d px_str (pxa_d px_str (pxa_d px_str pxa_nil))))) (pxg_nm (pg_name (i := 4) sc_law.nd rfl (.inl rfl)))
  (psx_one (psx_if (pxt_not (pxt_truth (px_fn G_law_sides_right (hr.mono (by decide)) (by rfl) T.m_law_sides_right T.F_law_sides_right.kp T.b_law_sides_right (pxa_d (px_var (pv 4)) (pxa_d (px_var (pv 3)) pxa_nil)) (xaD_len (xaD_len (fun _ _ _ _ h => xaNil_len h))))))
  (psx_one (psx_ret px_bl))
  psx_nil)))
  (psx_cons (psx_set (i := 5) sc_law.nd rfl (.inl rfl) (px_tup (pxa_d (px_ix (px_var (pv 3)) px_int (fun _ _ => rfl)) (pxa_d (px_op op_addD (px_ix (px_var (pv 3)) px_int (fun _ _ => rfl)) px_int) (pxa_d (px_ix (px_var (pv 3)) px_int (fun _ _ => rfl)) pxa_nil)))))
  (psx_cons (psx_if (pxw_t (pxw_or (pxt_not (pxt_chain (op_eqDD hr.u64) (op_eqDD hr.u64) (px_fn G_bound (hr.mono (by decide)) (by rfl) T.m_bound T.F_bound.kp T.b_bound (pxa_d px_str (pxa_d (px_var (pv 5)) pxa_nil)) (xaD_len (xaD_len (fun _ _ _ _ h => xaNil_len h)))) (px_fn G_bound (hr.mono (by decide)) (by rfl) T.m_bound T.F_bound.kp T.b_bound (pxa_d px_str (pxa_d (px_var (pv 3)) pxa_nil)) (xaD_len (xaD_len (fun _ _ _ _ h => xaNil_len h)))) (px_fn G_bound (hr.mono (by decide)) (by rfl) T.m_bound T.F_bound.kp T.b_bound (pxa_d px_str (pxa_d (px_var (pv 3)) pxa_nil)) (xaD_len (xaD_len (fun _ _ _ _ h => xaNil_len h)))))) (pxw_or1 (pxt_cmp (op_neDD hr.u64) (px_fn G_greatest (hr.mono (by decide)) (by rfl) T.m_greatest T.F_greatest.kp T.b_greatest (pxa_d px_str (pxa_d (px_var (pv 5)) pxa_nil)) (xaD_len (xaD_len (fun _ _ _ _ h => xaNil_len h)))) (px_fn G_greatest (hr.mono (by decide)) (by rfl) T.m_greatest T.F_greatest.kp T.b_greatest (pxa_d px_str (pxa_d (px_var (pv 3)) pxa_nil)) (xaD_len (xaD_len (fun _ _ _ _ h => xaNil_len h)))) (nomark _)))))
  (psx_one (psx_ret px_bl))
  psx_nil)
  (psx_cons (psx_set (i := 6) sc_law.nd rfl (.inl rfl) (px_op op_addD px_int (px_fn G_law_random (hr.mono (by decide)) (by rfl) T.m_law_random T.F_law_random.kp T.b_law_random (pxa_o (pv 2) (pxa_d px_int pxa_nil)) (xaO_len (xaD_len (fun _ _ _ _ h => xaNil_len h))))))
  (psx_one (psx_if (pxw_t (pxw_or (pxt_cmp op_isntD (px_fn G_can_pass (hr.mono (by decide)) (by rfl) T.m_can_pass T.F_can_pass.kp T.b_can_pass (pxa_d px_str (pxa_d (px_tup (pxa_d px_int (pxa_d px_int (pxa_d (px_of_f (pxf_rng rfl (by rfl) T.n_list (pxr_2 (by rfl) T.n_range px_int (px_var (pv 6))))) pxa_nil)))) (pxa_d (px_var (pv 6)) pxa_nil))) (xaD_len (xaD_len (xaD_len (fun _ _ _ _ h => xaNil_len h))))) px_bl (nomark _)) (pxw_or1 (pxt_cmp op_isntD (px_fn G_can_pass (hr.mono (by decide)) (by rfl) T.m_can_pass T.F_can_pass.kp T.b_can_pass (pxa_d px_str (pxa_d (px_tup (pxa_d px_int (pxa_d px_int (pxa_d (px_of_f (pxf_rng rfl (by rfl) T.n_list (pxr_2 (by rfl) T.n_range px_int (px_var (pv 6))))) pxa_nil)))) (pxa_d (px_var (pv 6)) pxa_nil))) (xaD_len (xaD_len (xaD_len (fun _ _ _ _ h => xaNil_len h))))) px_bl (nomark _)))))
  (psx_one (psx_ret px_bl))
  psx_nil)))))))))
  (psx_one (psx_ret (px_and (px_cmp (op_eqDD hr.u64) (px_fn G_greatest (hr.mono (by decide)) (by rfl) T.m_greatest T.F_greatest.kp T.b_greatest (pxa_d px_str (pxa_d (px_tup (pxa_d px_int (pxa_d px_int (pxa_d (px_lst pxa_nil) pxa_nil)))) pxa_nil)) (xaD_len (xaD_len (fun _ _ _ _ h => xaNil_len h)))) px_int (nomark _)) (px_and (px_cmp (op_eqDD hr.u64) (px_fn G_greatest (hr.mono (by decide)) (by rfl) T.m_greatest T.F_greatest.kp T.b_greatest (pxa_d px_str (pxa_d (px_tup (pxa_d px_int (pxa_d px_int (pxa_d (px_lst pxa_nil) pxa_nil)))) pxa_nil)) (xaD_len (xaD_len (fun _ _ _ _ h => xaNil_len h)))) px_int (nomark _)) (px_one (px_cmp (op_eqDD hr.u64) (px_fn G_greatest (hr.mono (by decide)) (by rfl) T.m_greatest T.F_greatest.kp T.b_greatest (pxa_d px_str (pxa_d (px_tup (pxa_d px_int (pxa_d px_int (pxa_d (px_lst (pxa_d px_int (pxa_d px_int pxa_nil))) pxa_nil)))) pxa_nil)) (xaD_len (xaD_len (fun _ _ _ _ h => xaNil_len h)))) px_int (nomark _))))))))
end
theorem all_mk {l : PySem.W.OpenLaw} {w : World} {K : PySem.W.Frag} {h : Heap} {mg : Str → Option Value} {fa : Addr} (X : K.In h) (G : h.Ns mainGlobals mg) (hfa : mg "law" = some (.ref fa))
    {f0 : Addr} {od0 an0 : Option Addr} {sl0 : Array (Option Value)} {oc0 kV0 dc0 pm0 cd0 ct0 : Value}
    (a0 : PySem.W.nsIn K mainGlobals "is_whole" = some (some (.ref f0))) (l0 : K.lookup f0 = some ⟨oc0, od0, .func (PySem.W.fnOf "is_whole" "is_whole" (defArgs s_is_whole) (defBody s_is_whole) (defScope s_is_whole) .none kV0 dc0 pm0 an0 cd0 ct0), sl0⟩) (c0 : PySem.W.codeIn K cd0 "is_whole" = true) (k0 : PySem.W.keepIn K (.ref f0) = true)
    {f1 : Addr} {od1 an1 : Option Addr} {sl1 : Array (Option Value)} {oc1 kV1 dc1 pm1 cd1 ct1 : Value}
    (a1 : PySem.W.nsIn K mainGlobals "is_from" = some (some (.ref f1))) (l1 : K.lookup f1 = some ⟨oc1, od1, .func (PySem.W.fnOf "is_from" "is_from" (defArgs s_is_from) (defBody s_is_from) (defScope s_is_from) .none kV1 dc1 pm1 an1 cd1 ct1), sl1⟩) (c1 : PySem.W.codeIn K cd1 "is_from" = true) (k1 : PySem.W.keepIn K (.ref f1) = true)
    {f2 : Addr} {od2 an2 : Option Addr} {sl2 : Array (Option Value)} {oc2 kV2 dc2 pm2 cd2 ct2 : Value}
    (a2 : PySem.W.nsIn K mainGlobals "is_tuple_of" = some (some (.ref f2))) (l2 : K.lookup f2 = some ⟨oc2, od2, .func (PySem.W.fnOf "is_tuple_of" "is_tuple_of" (defArgs s_is_tuple_of) (defBody s_is_tuple_of) (defScope s_is_tuple_of) .none kV2 dc2 pm2 an2 cd2 ct2), sl2⟩) (c2 : PySem.W.codeIn K cd2 "is_tuple_of" = true) (k2 : PySem.W.keepIn K (.ref f2) = true)
    {f3 : Addr} {od3 an3 : Option Addr} {sl3 : Array (Option Value)} {oc3 kV3 dc3 pm3 cd3 ct3 : Value}
    (a3 : PySem.W.nsIn K mainGlobals "check_from" = some (some (.ref f3))) (l3 : K.lookup f3 = some ⟨oc3, od3, .func (PySem.W.fnOf "check_from" "check_from" (defArgs s_check_from) (defBody s_check_from) (defScope s_check_from) .none kV3 dc3 pm3 an3 cd3 ct3), sl3⟩) (c3 : PySem.W.codeIn K cd3 "check_from" = true) (k3 : PySem.W.keepIn K (.ref f3) = true)
    {f4 : Addr} {od4 an4 : Option Addr} {sl4 : Array (Option Value)} {oc4 kV4 dc4 pm4 cd4 ct4 : Value}
    (a4 : PySem.W.nsIn K mainGlobals "is_kind" = some (some (.ref f4))) (l4 : K.lookup f4 = some ⟨oc4, od4, .func (PySem.W.fnOf "is_kind" "is_kind" (defArgs s_is_kind) (defBody s_is_kind) (defScope s_is_kind) .none kV4 dc4 pm4 an4 cd4 ct4), sl4⟩) (c4 : PySem.W.codeIn K cd4 "is_kind" = true) (k4 : PySem.W.keepIn K (.ref f4) = true)
    {f5 : Addr} {od5 an5 : Option Addr} {sl5 : Array (Option Value)} {oc5 kV5 dc5 pm5 cd5 ct5 : Value}
    (a5 : PySem.W.nsIn K mainGlobals "check_kind" = some (some (.ref f5))) (l5 : K.lookup f5 = some ⟨oc5, od5, .func (PySem.W.fnOf "check_kind" "check_kind" (defArgs s_check_kind) (defBody s_check_kind) (defScope s_check_kind) .none kV5 dc5 pm5 an5 cd5 ct5), sl5⟩) (c5 : PySem.W.codeIn K cd5 "check_kind" = true) (k5 : PySem.W.keepIn K (.ref f5) = true)
    {f6 : Addr} {od6 an6 : Option Addr} {sl6 : Array (Option Value)} {oc6 kV6 dc6 pm6 cd6 ct6 : Value}
    (a6 : PySem.W.nsIn K mainGlobals "are_tops" = some (some (.ref f6))) (l6 : K.lookup f6 = some ⟨oc6, od6, .func (PySem.W.fnOf "are_tops" "are_tops" (defArgs s_are_tops) (defBody s_are_tops) (defScope s_are_tops) .none kV6 dc6 pm6 an6 cd6 ct6), sl6⟩) (c6 : PySem.W.codeIn K cd6 "are_tops" = true) (k6 : PySem.W.keepIn K (.ref f6) = true)
    {f7 : Addr} {od7 an7 : Option Addr} {sl7 : Array (Option Value)} {oc7 kV7 dc7 pm7 cd7 ct7 : Value}
    (a7 : PySem.W.nsIn K mainGlobals "check_tops" = some (some (.ref f7))) (l7 : K.lookup f7 = some ⟨oc7, od7, .func (PySem.W.fnOf "check_tops" "check_tops" (defArgs s_check_tops) (defBody s_check_tops) (defScope s_check_tops) .none kV7 dc7 pm7 an7 cd7 ct7), sl7⟩) (c7 : PySem.W.codeIn K cd7 "check_tops" = true) (k7 : PySem.W.keepIn K (.ref f7) = true)
    {f8 : Addr} {od8 an8 : Option Addr} {sl8 : Array (Option Value)} {oc8 kV8 dc8 pm8 cd8 ct8 : Value}
    (a8 : PySem.W.nsIn K mainGlobals "is_room" = some (some (.ref f8))) (l8 : K.lookup f8 = some ⟨oc8, od8, .func (PySem.W.fnOf "is_room" "is_room" (defArgs s_is_room) (defBody s_is_room) (defScope s_is_room) .none kV8 dc8 pm8 an8 cd8 ct8), sl8⟩) (c8 : PySem.W.codeIn K cd8 "is_room" = true) (k8 : PySem.W.keepIn K (.ref f8) = true)
    {f9 : Addr} {od9 an9 : Option Addr} {sl9 : Array (Option Value)} {oc9 kV9 dc9 pm9 cd9 ct9 : Value}
    (a9 : PySem.W.nsIn K mainGlobals "check_room" = some (some (.ref f9))) (l9 : K.lookup f9 = some ⟨oc9, od9, .func (PySem.W.fnOf "check_room" "check_room" (defArgs s_check_room) (defBody s_check_room) (defScope s_check_room) .none kV9 dc9 pm9 an9 cd9 ct9), sl9⟩) (c9 : PySem.W.codeIn K cd9 "check_room" = true) (k9 : PySem.W.keepIn K (.ref f9) = true)
    {f10 : Addr} {od10 an10 : Option Addr} {sl10 : Array (Option Value)} {oc10 kV10 dc10 pm10 cd10 ct10 : Value}
    (a10 : PySem.W.nsIn K mainGlobals "check_run" = some (some (.ref f10))) (l10 : K.lookup f10 = some ⟨oc10, od10, .func (PySem.W.fnOf "check_run" "check_run" (defArgs s_check_run) (defBody s_check_run) (defScope s_check_run) .none kV10 dc10 pm10 an10 cd10 ct10), sl10⟩) (c10 : PySem.W.codeIn K cd10 "check_run" = true) (k10 : PySem.W.keepIn K (.ref f10) = true)
    {f11 : Addr} {od11 an11 : Option Addr} {sl11 : Array (Option Value)} {oc11 kV11 dc11 pm11 cd11 ct11 : Value}
    (a11 : PySem.W.nsIn K mainGlobals "bound_beside" = some (some (.ref f11))) (l11 : K.lookup f11 = some ⟨oc11, od11, .func (PySem.W.fnOf "bound_beside" "bound_beside" (defArgs s_bound_beside) (defBody s_bound_beside) (defScope s_bound_beside) .none kV11 dc11 pm11 an11 cd11 ct11), sl11⟩) (c11 : PySem.W.codeIn K cd11 "bound_beside" = true) (k11 : PySem.W.keepIn K (.ref f11) = true)
    {f12 : Addr} {od12 an12 : Option Addr} {sl12 : Array (Option Value)} {oc12 kV12 dc12 pm12 cd12 ct12 : Value}
    (a12 : PySem.W.nsIn K mainGlobals "bound_of" = some (some (.ref f12))) (l12 : K.lookup f12 = some ⟨oc12, od12, .func (PySem.W.fnOf "bound_of" "bound_of" (defArgs s_bound_of) (defBody s_bound_of) (defScope s_bound_of) .none kV12 dc12 pm12 an12 cd12 ct12), sl12⟩) (c12 : PySem.W.codeIn K cd12 "bound_of" = true) (k12 : PySem.W.keepIn K (.ref f12) = true)
    {f13 : Addr} {od13 an13 : Option Addr} {sl13 : Array (Option Value)} {oc13 kV13 dc13 pm13 cd13 ct13 : Value}
    (a13 : PySem.W.nsIn K mainGlobals "bound" = some (some (.ref f13))) (l13 : K.lookup f13 = some ⟨oc13, od13, .func (PySem.W.fnOf "bound" "bound" (defArgs s_bound) (defBody s_bound) (defScope s_bound) .none kV13 dc13 pm13 an13 cd13 ct13), sl13⟩) (c13 : PySem.W.codeIn K cd13 "bound" = true) (k13 : PySem.W.keepIn K (.ref f13) = true)
    {f14 : Addr} {od14 an14 : Option Addr} {sl14 : Array (Option Value)} {oc14 kV14 dc14 pm14 cd14 ct14 : Value}
    (a14 : PySem.W.nsIn K mainGlobals "marks_of" = some (some (.ref f14))) (l14 : K.lookup f14 = some ⟨oc14, od14, .func (PySem.W.fnOf "marks_of" "marks_of" (defArgs s_marks_of) (defBody s_marks_of) (defScope s_marks_of) .none kV14 dc14 pm14 an14 cd14 ct14), sl14⟩) (c14 : PySem.W.codeIn K cd14 "marks_of" = true) (k14 : PySem.W.keepIn K (.ref f14) = true)
    {f15 : Addr} {od15 an15 : Option Addr} {sl15 : Array (Option Value)} {oc15 kV15 dc15 pm15 cd15 ct15 : Value}
    (a15 : PySem.W.nsIn K mainGlobals "stretches_of" = some (some (.ref f15))) (l15 : K.lookup f15 = some ⟨oc15, od15, .func (PySem.W.fnOf "stretches_of" "stretches_of" (defArgs s_stretches_of) (defBody s_stretches_of) (defScope s_stretches_of) .none kV15 dc15 pm15 an15 cd15 ct15), sl15⟩) (c15 : PySem.W.codeIn K cd15 "stretches_of" = true) (k15 : PySem.W.keepIn K (.ref f15) = true)
    {f16 : Addr} {od16 an16 : Option Addr} {sl16 : Array (Option Value)} {oc16 kV16 dc16 pm16 cd16 ct16 : Value}
    (a16 : PySem.W.nsIn K mainGlobals "longest_of" = some (some (.ref f16))) (l16 : K.lookup f16 = some ⟨oc16, od16, .func (PySem.W.fnOf "longest_of" "longest_of" (defArgs s_longest_of) (defBody s_longest_of) (defScope s_longest_of) .none kV16 dc16 pm16 an16 cd16 ct16), sl16⟩) (c16 : PySem.W.codeIn K cd16 "longest_of" = true) (k16 : PySem.W.keepIn K (.ref f16) = true)
    {f17 : Addr} {od17 an17 : Option Addr} {sl17 : Array (Option Value)} {oc17 kV17 dc17 pm17 cd17 ct17 : Value}
    (a17 : PySem.W.nsIn K mainGlobals "bars_of" = some (some (.ref f17))) (l17 : K.lookup f17 = some ⟨oc17, od17, .func (PySem.W.fnOf "bars_of" "bars_of" (defArgs s_bars_of) (defBody s_bars_of) (defScope s_bars_of) .none kV17 dc17 pm17 an17 cd17 ct17), sl17⟩) (c17 : PySem.W.codeIn K cd17 "bars_of" = true) (k17 : PySem.W.keepIn K (.ref f17) = true)
    {f18 : Addr} {od18 an18 : Option Addr} {sl18 : Array (Option Value)} {oc18 kV18 dc18 pm18 cd18 ct18 : Value}
    (a18 : PySem.W.nsIn K mainGlobals "passes" = some (some (.ref f18))) (l18 : K.lookup f18 = some ⟨oc18, od18, .func (PySem.W.fnOf "passes" "passes" (defArgs s_passes) (defBody s_passes) (defScope s_passes) .none kV18 dc18 pm18 an18 cd18 ct18), sl18⟩) (c18 : PySem.W.codeIn K cd18 "passes" = true) (k18 : PySem.W.keepIn K (.ref f18) = true)
    {f19 : Addr} {od19 an19 : Option Addr} {sl19 : Array (Option Value)} {oc19 kV19 dc19 pm19 cd19 ct19 : Value}
    (a19 : PySem.W.nsIn K mainGlobals "can_pass" = some (some (.ref f19))) (l19 : K.lookup f19 = some ⟨oc19, od19, .func (PySem.W.fnOf "can_pass" "can_pass" (defArgs s_can_pass) (defBody s_can_pass) (defScope s_can_pass) .none kV19 dc19 pm19 an19 cd19 ct19), sl19⟩) (c19 : PySem.W.codeIn K cd19 "can_pass" = true) (k19 : PySem.W.keepIn K (.ref f19) = true)
    {f20 : Addr} {od20 an20 : Option Addr} {sl20 : Array (Option Value)} {oc20 kV20 dc20 pm20 cd20 ct20 : Value}
    (a20 : PySem.W.nsIn K mainGlobals "greatest_reached" = some (some (.ref f20))) (l20 : K.lookup f20 = some ⟨oc20, od20, .func (PySem.W.fnOf "greatest_reached" "greatest_reached" (defArgs s_greatest_reached) (defBody s_greatest_reached) (defScope s_greatest_reached) .none kV20 dc20 pm20 an20 cd20 ct20), sl20⟩) (c20 : PySem.W.codeIn K cd20 "greatest_reached" = true) (k20 : PySem.W.keepIn K (.ref f20) = true)
    {f21 : Addr} {od21 an21 : Option Addr} {sl21 : Array (Option Value)} {oc21 kV21 dc21 pm21 cd21 ct21 : Value}
    (a21 : PySem.W.nsIn K mainGlobals "greatest" = some (some (.ref f21))) (l21 : K.lookup f21 = some ⟨oc21, od21, .func (PySem.W.fnOf "greatest" "greatest" (defArgs s_greatest) (defBody s_greatest) (defScope s_greatest) .none kV21 dc21 pm21 an21 cd21 ct21), sl21⟩) (c21 : PySem.W.codeIn K cd21 "greatest" = true) (k21 : PySem.W.keepIn K (.ref f21) = true)
    {f22 : Addr} {od22 an22 : Option Addr} {sl22 : Array (Option Value)} {oc22 kV22 dc22 pm22 cd22 ct22 : Value}
    (a22 : PySem.W.nsIn K mainGlobals "barring" = some (some (.ref f22))) (l22 : K.lookup f22 = some ⟨oc22, od22, .func (PySem.W.fnOf "barring" "barring" (defArgs s_barring) (defBody s_barring) (defScope s_barring) .none kV22 dc22 pm22 an22 cd22 ct22), sl22⟩) (c22 : PySem.W.codeIn K cd22 "barring" = true) (k22 : PySem.W.keepIn K (.ref f22) = true)
    {f23 : Addr} {od23 an23 : Option Addr} {sl23 : Array (Option Value)} {oc23 kV23 dc23 pm23 cd23 ct23 : Value}
    (a23 : PySem.W.nsIn K mainGlobals "cells_beside" = some (some (.ref f23))) (l23 : K.lookup f23 = some ⟨oc23, od23, .func (PySem.W.fnOf "cells_beside" "cells_beside" (defArgs s_cells_beside) (defBody s_cells_beside) (defScope s_cells_beside) .none kV23 dc23 pm23 an23 cd23 ct23), sl23⟩) (c23 : PySem.W.codeIn K cd23 "cells_beside" = true) (k23 : PySem.W.keepIn K (.ref f23) = true)
    {f24 : Addr} {od24 an24 : Option Addr} {sl24 : Array (Option Value)} {oc24 kV24 dc24 pm24 cd24 ct24 : Value}
    (a24 : PySem.W.nsIn K mainGlobals "least_cells" = some (some (.ref f24))) (l24 : K.lookup f24 = some ⟨oc24, od24, .func (PySem.W.fnOf "least_cells" "least_cells" (defArgs s_least_cells) (defBody s_least_cells) (defScope s_least_cells) .none kV24 dc24 pm24 an24 cd24 ct24), sl24⟩) (c24 : PySem.W.codeIn K cd24 "least_cells" = true) (k24 : PySem.W.keepIn K (.ref f24) = true)
    {f25 : Addr} {od25 an25 : Option Addr} {sl25 : Array (Option Value)} {oc25 kV25 dc25 pm25 cd25 ct25 : Value}
    (a25 : PySem.W.nsIn K mainGlobals "fewest_empty" = some (some (.ref f25))) (l25 : K.lookup f25 = some ⟨oc25, od25, .func (PySem.W.fnOf "fewest_empty" "fewest_empty" (defArgs s_fewest_empty) (defBody s_fewest_empty) (defScope s_fewest_empty) .none kV25 dc25 pm25 an25 cd25 ct25), sl25⟩) (c25 : PySem.W.codeIn K cd25 "fewest_empty" = true) (k25 : PySem.W.keepIn K (.ref f25) = true)
    {f26 : Addr} {od26 an26 : Option Addr} {sl26 : Array (Option Value)} {oc26 kV26 dc26 pm26 cd26 ct26 : Value}
    (a26 : PySem.W.nsIn K mainGlobals "least_empty" = some (some (.ref f26))) (l26 : K.lookup f26 = some ⟨oc26, od26, .func (PySem.W.fnOf "least_empty" "least_empty" (defArgs s_least_empty) (defBody s_least_empty) (defScope s_least_empty) .none kV26 dc26 pm26 an26 cd26 ct26), sl26⟩) (c26 : PySem.W.codeIn K cd26 "least_empty" = true) (k26 : PySem.W.keepIn K (.ref f26) = true)
    {f27 : Addr} {od27 an27 : Option Addr} {sl27 : Array (Option Value)} {oc27 kV27 dc27 pm27 cd27 ct27 : Value}
    (a27 : PySem.W.nsIn K mainGlobals "trades" = some (some (.ref f27))) (l27 : K.lookup f27 = some ⟨oc27, od27, .func (PySem.W.fnOf "trades" "trades" (defArgs s_trades) (defBody s_trades) (defScope s_trades) .none kV27 dc27 pm27 an27 cd27 ct27), sl27⟩) (c27 : PySem.W.codeIn K cd27 "trades" = true) (k27 : PySem.W.keepIn K (.ref f27) = true)
    {f28 : Addr} {od28 an28 : Option Addr} {sl28 : Array (Option Value)} {oc28 kV28 dc28 pm28 cd28 ct28 : Value}
    (a28 : PySem.W.nsIn K mainGlobals "check_passes" = some (some (.ref f28))) (l28 : K.lookup f28 = some ⟨oc28, od28, .func (PySem.W.fnOf "check_passes" "check_passes" (defArgs s_check_passes) (defBody s_check_passes) (defScope s_check_passes) .none kV28 dc28 pm28 an28 cd28 ct28), sl28⟩) (c28 : PySem.W.codeIn K cd28 "check_passes" = true) (k28 : PySem.W.keepIn K (.ref f28) = true)
    {f29 : Addr} {od29 an29 : Option Addr} {sl29 : Array (Option Value)} {oc29 kV29 dc29 pm29 cd29 ct29 : Value}
    (a29 : PySem.W.nsIn K mainGlobals "needed_tops" = some (some (.ref f29))) (l29 : K.lookup f29 = some ⟨oc29, od29, .func (PySem.W.fnOf "needed_tops" "needed_tops" (defArgs s_needed_tops) (defBody s_needed_tops) (defScope s_needed_tops) .none kV29 dc29 pm29 an29 cd29 ct29), sl29⟩) (c29 : PySem.W.codeIn K cd29 "needed_tops" = true) (k29 : PySem.W.keepIn K (.ref f29) = true)
    {f30 : Addr} {od30 an30 : Option Addr} {sl30 : Array (Option Value)} {oc30 kV30 dc30 pm30 cd30 ct30 : Value}
    (a30 : PySem.W.nsIn K mainGlobals "tops_between" = some (some (.ref f30))) (l30 : K.lookup f30 = some ⟨oc30, od30, .func (PySem.W.fnOf "tops_between" "tops_between" (defArgs s_tops_between) (defBody s_tops_between) (defScope s_tops_between) .none kV30 dc30 pm30 an30 cd30 ct30), sl30⟩) (c30 : PySem.W.codeIn K cd30 "tops_between" = true) (k30 : PySem.W.keepIn K (.ref f30) = true)
    {f31 : Addr} {od31 an31 : Option Addr} {sl31 : Array (Option Value)} {oc31 kV31 dc31 pm31 cd31 ct31 : Value}
    (a31 : PySem.W.nsIn K mainGlobals "tops_to_add" = some (some (.ref f31))) (l31 : K.lookup f31 = some ⟨oc31, od31, .func (PySem.W.fnOf "tops_to_add" "tops_to_add" (defArgs s_tops_to_add) (defBody s_tops_to_add) (defScope s_tops_to_add) .none kV31 dc31 pm31 an31 cd31 ct31), sl31⟩) (c31 : PySem.W.codeIn K cd31 "tops_to_add" = true) (k31 : PySem.W.keepIn K (.ref f31) = true)
    {f32 : Addr} {od32 an32 : Option Addr} {sl32 : Array (Option Value)} {oc32 kV32 dc32 pm32 cd32 ct32 : Value}
    (a32 : PySem.W.nsIn K mainGlobals "greatest_with" = some (some (.ref f32))) (l32 : K.lookup f32 = some ⟨oc32, od32, .func (PySem.W.fnOf "greatest_with" "greatest_with" (defArgs s_greatest_with) (defBody s_greatest_with) (defScope s_greatest_with) .none kV32 dc32 pm32 an32 cd32 ct32), sl32⟩) (c32 : PySem.W.codeIn K cd32 "greatest_with" = true) (k32 : PySem.W.keepIn K (.ref f32) = true)
    {f33 : Addr} {od33 an33 : Option Addr} {sl33 : Array (Option Value)} {oc33 kV33 dc33 pm33 cd33 ct33 : Value}
    (a33 : PySem.W.nsIn K mainGlobals "_law_cell" = some (some (.ref f33))) (l33 : K.lookup f33 = some ⟨oc33, od33, .func (PySem.W.fnOf "_law_cell" "_law_cell" (defArgs s_law_cell) (defBody s_law_cell) (defScope s_law_cell) .none kV33 dc33 pm33 an33 cd33 ct33), sl33⟩) (c33 : PySem.W.codeIn K cd33 "_law_cell" = true) (k33 : PySem.W.keepIn K (.ref f33) = true)
    {f34 : Addr} {od34 an34 : Option Addr} {sl34 : Array (Option Value)} {oc34 kV34 dc34 pm34 cd34 ct34 : Value}
    (a34 : PySem.W.nsIn K mainGlobals "_law_hash" = some (some (.ref f34))) (l34 : K.lookup f34 = some ⟨oc34, od34, .func (PySem.W.fnOf "_law_hash" "_law_hash" (defArgs s_law_hash) (defBody s_law_hash) (defScope s_law_hash) .none kV34 dc34 pm34 an34 cd34 ct34), sl34⟩) (c34 : PySem.W.codeIn K cd34 "_law_hash" = true) (k34 : PySem.W.keepIn K (.ref f34) = true)
    {f35 : Addr} {od35 an35 : Option Addr} {sl35 : Array (Option Value)} {oc35 kV35 dc35 pm35 cd35 ct35 : Value}
    (a35 : PySem.W.nsIn K mainGlobals "_law_generator" = some (some (.ref f35))) (l35 : K.lookup f35 = some ⟨oc35, od35, .func (PySem.W.fnOf "_law_generator" "_law_generator" (defArgs s_law_generator) (defBody s_law_generator) (defScope s_law_generator) .none kV35 dc35 pm35 an35 cd35 ct35), sl35⟩) (c35 : PySem.W.codeIn K cd35 "_law_generator" = true) (k35 : PySem.W.keepIn K (.ref f35) = true)
    {f36 : Addr} {od36 an36 : Option Addr} {sl36 : Array (Option Value)} {oc36 kV36 dc36 pm36 cd36 ct36 : Value}
    (a36 : PySem.W.nsIn K mainGlobals "_law_random" = some (some (.ref f36))) (l36 : K.lookup f36 = some ⟨oc36, od36, .func (PySem.W.fnOf "_law_random" "_law_random" (defArgs s_law_random) (defBody s_law_random) (defScope s_law_random) .none kV36 dc36 pm36 an36 cd36 ct36), sl36⟩) (c36 : PySem.W.codeIn K cd36 "_law_random" = true) (k36 : PySem.W.keepIn K (.ref f36) = true)
    {f37 : Addr} {od37 an37 : Option Addr} {sl37 : Array (Option Value)} {oc37 kV37 dc37 pm37 cd37 ct37 : Value}
    (a37 : PySem.W.nsIn K mainGlobals "_law_tops" = some (some (.ref f37))) (l37 : K.lookup f37 = some ⟨oc37, od37, .func (PySem.W.fnOf "_law_tops" "_law_tops" (defArgs s_law_tops) (defBody s_law_tops) (defScope s_law_tops) .none kV37 dc37 pm37 an37 cd37 ct37), sl37⟩) (c37 : PySem.W.codeIn K cd37 "_law_tops" = true) (k37 : PySem.W.keepIn K (.ref f37) = true)
    {f38 : Addr} {od38 an38 : Option Addr} {sl38 : Array (Option Value)} {oc38 kV38 dc38 pm38 cd38 ct38 : Value}
    (a38 : PySem.W.nsIn K mainGlobals "_law_room" = some (some (.ref f38))) (l38 : K.lookup f38 = some ⟨oc38, od38, .func (PySem.W.fnOf "_law_room" "_law_room" (defArgs s_law_room) (defBody s_law_room) (defScope s_law_room) .none kV38 dc38 pm38 an38 cd38 ct38), sl38⟩) (c38 : PySem.W.codeIn K cd38 "_law_room" = true) (k38 : PySem.W.keepIn K (.ref f38) = true)
    {f39 : Addr} {od39 an39 : Option Addr} {sl39 : Array (Option Value)} {oc39 kV39 dc39 pm39 cd39 ct39 : Value}
    (a39 : PySem.W.nsIn K mainGlobals "_law_great" = some (some (.ref f39))) (l39 : K.lookup f39 = some ⟨oc39, od39, .func (PySem.W.fnOf "_law_great" "_law_great" (defArgs s_law_great) (defBody s_law_great) (defScope s_law_great) .none kV39 dc39 pm39 an39 cd39 ct39), sl39⟩) (c39 : PySem.W.codeIn K cd39 "_law_great" = true) (k39 : PySem.W.keepIn K (.ref f39) = true)
    {f40 : Addr} {od40 an40 : Option Addr} {sl40 : Array (Option Value)} {oc40 kV40 dc40 pm40 cd40 ct40 : Value}
    (a40 : PySem.W.nsIn K mainGlobals "_law_greatest" = some (some (.ref f40))) (l40 : K.lookup f40 = some ⟨oc40, od40, .func (PySem.W.fnOf "_law_greatest" "_law_greatest" (defArgs s_law_greatest) (defBody s_law_greatest) (defScope s_law_greatest) .none kV40 dc40 pm40 an40 cd40 ct40), sl40⟩) (c40 : PySem.W.codeIn K cd40 "_law_greatest" = true) (k40 : PySem.W.keepIn K (.ref f40) = true)
    {f41 : Addr} {od41 an41 : Option Addr} {sl41 : Array (Option Value)} {oc41 kV41 dc41 pm41 cd41 ct41 : Value}
    (a41 : PySem.W.nsIn K mainGlobals "_law_sides_right" = some (some (.ref f41))) (l41 : K.lookup f41 = some ⟨oc41, od41, .func (PySem.W.fnOf "_law_sides_right" "_law_sides_right" (defArgs s_law_sides_right) (defBody s_law_sides_right) (defScope s_law_sides_right) .none kV41 dc41 pm41 an41 cd41 ct41), sl41⟩) (c41 : PySem.W.codeIn K cd41 "_law_sides_right" = true) (k41 : PySem.W.keepIn K (.ref f41) = true)
    {f42 : Addr} {od42 an42 : Option Addr} {sl42 : Array (Option Value)} {oc42 kV42 dc42 pm42 cd42 ct42 : Value}
    (a42 : PySem.W.nsIn K mainGlobals "law" = some (some (.ref f42))) (l42 : K.lookup f42 = some ⟨oc42, od42, .func (PySem.W.fnOf "law" "law" (defArgs s_law) (defBody s_law) (defScope s_law) .none kV42 dc42 pm42 an42 cd42 ct42), sl42⟩) (c42 : PySem.W.codeIn K cd42 "law" = true) (k42 : PySem.W.keepIn K (.ref f42) = true)
    (z_all : PySem.W.nsIn K mainGlobals "all" = some none)
    (z_bool : PySem.W.nsIn K mainGlobals "bool" = some none)
    (z_int : PySem.W.nsIn K mainGlobals "int" = some none)
    (z_isinstance : PySem.W.nsIn K mainGlobals "isinstance" = some none)
    (z_len : PySem.W.nsIn K mainGlobals "len" = some none)
    (z_list : PySem.W.nsIn K mainGlobals "list" = some none)
    (z_max : PySem.W.nsIn K mainGlobals "max" = some none)
    (z_range : PySem.W.nsIn K mainGlobals "range" = some none)
    (z_repr : PySem.W.nsIn K mainGlobals "repr" = some none)
    (z_reversed : PySem.W.nsIn K mainGlobals "reversed" = some none)
    (z_sum : PySem.W.nsIn K mainGlobals "sum" = some none)
    (z_tuple : PySem.W.nsIn K mainGlobals "tuple" = some none)
    (z_zip : PySem.W.nsIn K mainGlobals "zip" = some none)
    {p_KINDS : Addr} {dd_KINDS : Option Addr} {nn_KINDS : Nat} {ss_KINDS : Array (Option Value)} {t0_KINDS t1_KINDS t2_KINDS : Tok} (g_KINDS : PySem.W.nsIn K mainGlobals "KINDS" = some (some (.ref p_KINDS))) (o_KINDS : K.lookup p_KINDS = some ⟨.type "tuple", dd_KINDS, .seq #[.str "over" t0_KINDS, .str "into" t1_KINDS, .str "whole" t2_KINDS] nn_KINDS, ss_KINDS⟩) :
    ∃ fd : FuncData, (∀ (s : Shared) (v : Value), BindsTo s fd ⟨[v], []⟩ [("script", v)]) ∧ ∀ base : Heap, K.In base → base.Ns mainGlobals mg → FnG l.prog w K mg base 10 fa fd 1 ["script"] (spM K 1 m_law) := by
  have e := hfa.symm.trans (PySem.W.mg_of X G a42)
  cases e
  let T : Tx K mg := {
    f_is_whole := f0
    d_is_whole := _
    F_is_whole := fun_mk (st := s_is_whole) l0 c0 k0
    m_is_whole := PySem.W.mg_of X G a0
    b_is_whole := (fun_mk (st := s_is_whole) l0 c0 k0).binds (ps := ["value"]) fun _ _ _ _ _ _ us hl => match us, hl with | [_], _ => rfl
    f_is_from := f1
    d_is_from := _
    F_is_from := fun_mk (st := s_is_from) l1 c1 k1
    m_is_from := PySem.W.mg_of X G a1
    b_is_from := (fun_mk (st := s_is_from) l1 c1 k1).binds (ps := ["value", "low"]) fun _ _ _ _ _ _ us hl => match us, hl with | [_, _], _ => rfl
    f_is_tuple_of := f2
    d_is_tuple_of := _
    F_is_tuple_of := fun_mk (st := s_is_tuple_of) l2 c2 k2
    m_is_tuple_of := PySem.W.mg_of X G a2
    b_is_tuple_of := (fun_mk (st := s_is_tuple_of) l2 c2 k2).binds (ps := ["value", "many"]) fun _ _ _ _ _ _ us hl => match us, hl with | [_, _], _ => rfl
    f_check_from := f3
    d_check_from := _
    F_check_from := fun_mk (st := s_check_from) l3 c3 k3
    m_check_from := PySem.W.mg_of X G a3
    b_check_from := (fun_mk (st := s_check_from) l3 c3 k3).binds (ps := ["value", "low"]) fun _ _ _ _ _ _ us hl => match us, hl with | [_, _], _ => rfl
    f_is_kind := f4
    d_is_kind := _
    F_is_kind := fun_mk (st := s_is_kind) l4 c4 k4
    m_is_kind := PySem.W.mg_of X G a4
    b_is_kind := (fun_mk (st := s_is_kind) l4 c4 k4).binds (ps := ["value"]) fun _ _ _ _ _ _ us hl => match us, hl with | [_], _ => rfl
    f_check_kind := f5
    d_check_kind := _
    F_check_kind := fun_mk (st := s_check_kind) l5 c5 k5
    m_check_kind := PySem.W.mg_of X G a5
    b_check_kind := (fun_mk (st := s_check_kind) l5 c5 k5).binds (ps := ["kind"]) fun _ _ _ _ _ _ us hl => match us, hl with | [_], _ => rfl
    f_are_tops := f6
    d_are_tops := _
    F_are_tops := fun_mk (st := s_are_tops) l6 c6 k6
    m_are_tops := PySem.W.mg_of X G a6
    b_are_tops := (fun_mk (st := s_are_tops) l6 c6 k6).binds (ps := ["value"]) fun _ _ _ _ _ _ us hl => match us, hl with | [_], _ => rfl
    f_check_tops := f7
    d_check_tops := _
    F_check_tops := fun_mk (st := s_check_tops) l7 c7 k7
    m_check_tops := PySem.W.mg_of X G a7
    b_check_tops := (fun_mk (st := s_check_tops) l7 c7 k7).binds (ps := ["tops"]) fun _ _ _ _ _ _ us hl => match us, hl with | [_], _ => rfl
    f_is_room := f8
    d_is_room := _
    F_is_room := fun_mk (st := s_is_room) l8 c8 k8
    m_is_room := PySem.W.mg_of X G a8
    b_is_room := (fun_mk (st := s_is_room) l8 c8 k8).binds (ps := ["value"]) fun _ _ _ _ _ _ us hl => match us, hl with | [_], _ => rfl
    f_check_room := f9
    d_check_room := _
    F_check_room := fun_mk (st := s_check_room) l9 c9 k9
    m_check_room := PySem.W.mg_of X G a9
    b_check_room := (fun_mk (st := s_check_room) l9 c9 k9).binds (ps := ["room"]) fun _ _ _ _ _ _ us hl => match us, hl with | [_], _ => rfl
    f_check_run := f10
    d_check_run := _
    F_check_run := fun_mk (st := s_check_run) l10 c10 k10
    m_check_run := PySem.W.mg_of X G a10
    b_check_run := (fun_mk (st := s_check_run) l10 c10 k10).binds (ps := ["kind", "room", "many"]) fun _ _ _ _ _ _ us hl => match us, hl with | [_, _, _], _ => rfl
    f_bound_beside := f11
    d_bound_beside := _
    F_bound_beside := fun_mk (st := s_bound_beside) l11 c11 k11
    m_bound_beside := PySem.W.mg_of X G a11
    b_bound_beside := (fun_mk (st := s_bound_beside) l11 c11 k11).binds (ps := ["kind", "cells", "empty"]) fun _ _ _ _ _ _ us hl => match us, hl with | [_, _, _], _ => rfl
    f_bound_of := f12
    d_bound_of := _
    F_bound_of := fun_mk (st := s_bound_of) l12 c12 k12
    m_bound_of := PySem.W.mg_of X G a12
    b_bound_of := (fun_mk (st := s_bound_of) l12 c12 k12).binds (ps := ["kind", "room"]) fun _ _ _ _ _ _ us hl => match us, hl with | [_, _], _ => rfl
    f_bound := f13
    d_bound := _
    F_bound := fun_mk (st := s_bound) l13 c13 k13
    m_bound := PySem.W.mg_of X G a13
    b_bound := (fun_mk (st := s_bound) l13 c13 k13).binds (ps := ["kind", "room"]) fun _ _ _ _ _ _ us hl => match us, hl with | [_, _], _ => rfl
    f_marks_of := f14
    d_marks_of := _
    F_marks_of := fun_mk (st := s_marks_of) l14 c14 k14
    m_marks_of := PySem.W.mg_of X G a14
    b_marks_of := (fun_mk (st := s_marks_of) l14 c14 k14).binds (ps := ["tops", "many"]) fun _ _ _ _ _ _ us hl => match us, hl with | [_, _], _ => rfl
    f_stretches_of := f15
    d_stretches_of := _
    F_stretches_of := fun_mk (st := s_stretches_of) l15 c15 k15
    m_stretches_of := PySem.W.mg_of X G a15
    b_stretches_of := (fun_mk (st := s_stretches_of) l15 c15 k15).binds (ps := ["tops", "many"]) fun _ _ _ _ _ _ us hl => match us, hl with | [_, _], _ => rfl
    f_longest_of := f16
    d_longest_of := _
    F_longest_of := fun_mk (st := s_longest_of) l16 c16 k16
    m_longest_of := PySem.W.mg_of X G a16
    b_longest_of := (fun_mk (st := s_longest_of) l16 c16 k16).binds (ps := ["tops", "many"]) fun _ _ _ _ _ _ us hl => match us, hl with | [_, _], _ => rfl
    f_bars_of := f17
    d_bars_of := _
    F_bars_of := fun_mk (st := s_bars_of) l17 c17 k17
    m_bars_of := PySem.W.mg_of X G a17
    b_bars_of := (fun_mk (st := s_bars_of) l17 c17 k17).binds (ps := ["kind", "room", "many"]) fun _ _ _ _ _ _ us hl => match us, hl with | [_, _, _], _ => rfl
    f_passes := f18
    d_passes := _
    F_passes := fun_mk (st := s_passes) l18 c18 k18
    m_passes := PySem.W.mg_of X G a18
    b_passes := (fun_mk (st := s_passes) l18 c18 k18).binds (ps := ["kind", "room", "many"]) fun _ _ _ _ _ _ us hl => match us, hl with | [_, _, _], _ => rfl
    f_can_pass := f19
    d_can_pass := _
    F_can_pass := fun_mk (st := s_can_pass) l19 c19 k19
    m_can_pass := PySem.W.mg_of X G a19
    b_can_pass := (fun_mk (st := s_can_pass) l19 c19 k19).binds (ps := ["kind", "room", "many"]) fun _ _ _ _ _ _ us hl => match us, hl with | [_, _, _], _ => rfl
    f_greatest_reached := f20
    d_greatest_reached := _
    F_greatest_reached := fun_mk (st := s_greatest_reached) l20 c20 k20
    m_greatest_reached := PySem.W.mg_of X G a20
    b_greatest_reached := (fun_mk (st := s_greatest_reached) l20 c20 k20).binds (ps := ["kind", "room", "further"]) fun _ _ _ _ _ _ us hl => match us, hl with | [_, _, _], _ => rfl
    f_greatest := f21
    d_greatest := _
    F_greatest := fun_mk (st := s_greatest) l21 c21 k21
    m_greatest := PySem.W.mg_of X G a21
    b_greatest := (fun_mk (st := s_greatest) l21 c21 k21).binds (ps := ["kind", "room"]) fun _ _ _ _ _ _ us hl => match us, hl with | [_, _], _ => rfl
    f_barring := f22
    d_barring := _
    F_barring := fun_mk (st := s_barring) l22 c22 k22
    m_barring := PySem.W.mg_of X G a22
    b_barring := (fun_mk (st := s_barring) l22 c22 k22).binds (ps := ["kind", "room", "many"]) fun _ _ _ _ _ _ us hl => match us, hl with | [_, _, _], _ => rfl
    f_cells_beside := f23
    d_cells_beside := _
    F_cells_beside := fun_mk (st := s_cells_beside) l23 c23 k23
    m_cells_beside := PySem.W.mg_of X G a23
    b_cells_beside := (fun_mk (st := s_cells_beside) l23 c23 k23).binds (ps := ["kind", "empty", "longest"]) fun _ _ _ _ _ _ us hl => match us, hl with | [_, _, _], _ => rfl
    f_least_cells := f24
    d_least_cells := _
    F_least_cells := fun_mk (st := s_least_cells) l24 c24 k24
    m_least_cells := PySem.W.mg_of X G a24
    b_least_cells := (fun_mk (st := s_least_cells) l24 c24 k24).binds (ps := ["kind", "empty", "tops", "many"]) fun _ _ _ _ _ _ us hl => match us, hl with | [_, _, _, _], _ => rfl
    f_fewest_empty := f25
    d_fewest_empty := _
    F_fewest_empty := fun_mk (st := s_fewest_empty) l25 c25 k25
    m_fewest_empty := PySem.W.mg_of X G a25
    b_fewest_empty := (fun_mk (st := s_fewest_empty) l25 c25 k25).binds (ps := ["kind"]) fun _ _ _ _ _ _ us hl => match us, hl with | [_], _ => rfl
    f_least_empty := f26
    d_least_empty := _
    F_least_empty := fun_mk (st := s_least_empty) l26 c26 k26
    m_least_empty := PySem.W.mg_of X G a26
    b_least_empty := (fun_mk (st := s_least_empty) l26 c26 k26).binds (ps := ["kind", "cells", "tops", "many"]) fun _ _ _ _ _ _ us hl => match us, hl with | [_, _, _, _], _ => rfl
    f_trades := f27
    d_trades := _
    F_trades := fun_mk (st := s_trades) l27 c27 k27
    m_trades := PySem.W.mg_of X G a27
    b_trades := (fun_mk (st := s_trades) l27 c27 k27).binds (ps := ["kind", "tops", "many"]) fun _ _ _ _ _ _ us hl => match us, hl with | [_, _, _], _ => rfl
    f_check_passes := f28
    d_check_passes := _
    F_check_passes := fun_mk (st := s_check_passes) l28 c28 k28
    m_check_passes := PySem.W.mg_of X G a28
    b_check_passes := (fun_mk (st := s_check_passes) l28 c28 k28).binds (ps := ["kind", "room", "many"]) fun _ _ _ _ _ _ us hl => match us, hl with | [_, _, _], _ => rfl
    f_needed_tops := f29
    d_needed_tops := _
    F_needed_tops := fun_mk (st := s_needed_tops) l29 c29 k29
    m_needed_tops := PySem.W.mg_of X G a29
    b_needed_tops := (fun_mk (st := s_needed_tops) l29 c29 k29).binds (ps := ["kind", "room", "many"]) fun _ _ _ _ _ _ us hl => match us, hl with | [_, _, _], _ => rfl
    f_tops_between := f30
    d_tops_between := _
    F_tops_between := fun_mk (st := s_tops_between) l30 c30 k30
    m_tops_between := PySem.W.mg_of X G a30
    b_tops_between := (fun_mk (st := s_tops_between) l30 c30 k30).binds (ps := ["low", "high", "most"]) fun _ _ _ _ _ _ us hl => match us, hl with | [_, _, _], _ => rfl
    f_tops_to_add := f31
    d_tops_to_add := _
    F_tops_to_add := fun_mk (st := s_tops_to_add) l31 c31 k31
    m_tops_to_add := PySem.W.mg_of X G a31
    b_tops_to_add := (fun_mk (st := s_tops_to_add) l31 c31 k31).binds (ps := ["kind", "room", "many"]) fun _ _ _ _ _ _ us hl => match us, hl with | [_, _, _], _ => rfl
    f_greatest_with := f32
    d_greatest_with := _
    F_greatest_with := fun_mk (st := s_greatest_with) l32 c32 k32
    m_greatest_with := PySem.W.mg_of X G a32
    b_greatest_with := (fun_mk (st := s_greatest_with) l32 c32 k32).binds (ps := ["kind", "room", "further"]) fun _ _ _ _ _ _ us hl => match us, hl with | [_, _, _], _ => rfl
    f_law_cell := f33
    d_law_cell := _
    F_law_cell := fun_mk (st := s_law_cell) l33 c33 k33
    m_law_cell := PySem.W.mg_of X G a33
    b_law_cell := (fun_mk (st := s_law_cell) l33 c33 k33).binds (ps := ["script", "index"]) fun _ _ _ _ _ _ us hl => match us, hl with | [_, _], _ => rfl
    f_law_hash := f34
    d_law_hash := _
    F_law_hash := fun_mk (st := s_law_hash) l34 c34 k34
    m_law_hash := PySem.W.mg_of X G a34
    b_law_hash := (fun_mk (st := s_law_hash) l34 c34 k34).binds (ps := ["seed", "index"]) fun _ _ _ _ _ _ us hl => match us, hl with | [_, _], _ => rfl
    f_law_generator := f35
    d_law_generator := _
    F_law_generator := fun_mk (st := s_law_generator) l35 c35 k35
    m_law_generator := PySem.W.mg_of X G a35
    b_law_generator := (fun_mk (st := s_law_generator) l35 c35 k35).binds (ps := ["script", "index"]) fun _ _ _ _ _ _ us hl => match us, hl with | [_, _], _ => rfl
    f_law_random := f36
    d_law_random := _
    F_law_random := fun_mk (st := s_law_random) l36 c36 k36
    m_law_random := PySem.W.mg_of X G a36
    b_law_random := (fun_mk (st := s_law_random) l36 c36 k36).binds (ps := ["generator", "limit"]) fun _ _ _ _ _ _ us hl => match us, hl with | [_, _], _ => rfl
    f_law_tops := f37
    d_law_tops := _
    F_law_tops := fun_mk (st := s_law_tops) l37 c37 k37
    m_law_tops := PySem.W.mg_of X G a37
    b_law_tops := (fun_mk (st := s_law_tops) l37 c37 k37).binds (ps := ["generator", "many", "most"]) fun _ _ _ _ _ _ us hl => match us, hl with | [_, _, _], _ => rfl
    f_law_room := f38
    d_law_room := _
    F_law_room := fun_mk (st := s_law_room) l38 c38 k38
    m_law_room := PySem.W.mg_of X G a38
    b_law_room := (fun_mk (st := s_law_room) l38 c38 k38).binds (ps := ["generator", "many"]) fun _ _ _ _ _ _ us hl => match us, hl with | [_, _], _ => rfl
    f_law_great := f39
    d_law_great := _
    F_law_great := fun_mk (st := s_law_great) l39 c39 k39
    m_law_great := PySem.W.mg_of X G a39
    b_law_great := (fun_mk (st := s_law_great) l39 c39 k39).binds (ps := ["generator"]) fun _ _ _ _ _ _ us hl => match us, hl with | [_], _ => rfl
    f_law_greatest := f40
    d_law_greatest := _
    F_law_greatest := fun_mk (st := s_law_greatest) l40 c40 k40
    m_law_greatest := PySem.W.mg_of X G a40
    b_law_greatest := (fun_mk (st := s_law_greatest) l40 c40 k40).binds (ps := ["kind", "room"]) fun _ _ _ _ _ _ us hl => match us, hl with | [_, _], _ => rfl
    f_law_sides_right := f41
    d_law_sides_right := _
    F_law_sides_right := fun_mk (st := s_law_sides_right) l41 c41 k41
    m_law_sides_right := PySem.W.mg_of X G a41
    b_law_sides_right := (fun_mk (st := s_law_sides_right) l41 c41 k41).binds (ps := ["kind", "room"]) fun _ _ _ _ _ _ us hl => match us, hl with | [_, _], _ => rfl
    f_law := _
    d_law := _
    F_law := fun_mk (st := s_law) l42 c42 k42
    m_law := PySem.W.mg_of X G a42
    b_law := (fun_mk (st := s_law) l42 c42 k42).binds (ps := ["script"]) fun _ _ _ _ _ _ us hl => match us, hl with | [_], _ => rfl
    n_all := PySem.W.mg_none_of X G z_all
    n_bool := PySem.W.mg_none_of X G z_bool
    n_int := PySem.W.mg_none_of X G z_int
    n_isinstance := PySem.W.mg_none_of X G z_isinstance
    n_len := PySem.W.mg_none_of X G z_len
    n_list := PySem.W.mg_none_of X G z_list
    n_max := PySem.W.mg_none_of X G z_max
    n_range := PySem.W.mg_none_of X G z_range
    n_repr := PySem.W.mg_none_of X G z_repr
    n_reversed := PySem.W.mg_none_of X G z_reversed
    n_sum := PySem.W.mg_none_of X G z_sum
    n_tuple := PySem.W.mg_none_of X G z_tuple
    n_zip := PySem.W.mg_none_of X G z_zip
    a_KINDS := p_KINDS
    v_KINDS := [.str "over", .str "into", .str "whole"]
    g_KINDS := PySem.W.mg_of X G g_KINDS
    t_KINDS := fun H => .inr ⟨_, #[_, _, _], _, o_KINDS, rfl, rfl, (by show 3 ≤ sizeLine; decide), (.cons ⟨_, rfl⟩ (.cons ⟨_, rfl⟩ (.cons ⟨_, rfl⟩ .nil)))⟩
    d_KINDS := fun H => (.cons (.str _) (.cons (.str _) (.cons (.str _) .nil))) }
  refine ⟨T.d_law, fun s v => .of_eq rfl, fun base _ _ => ?_⟩
  have G_is_whole := ok_is_whole (P := l.prog) (w := w) (base := base) T
  have G_is_from := ok_is_from (P := l.prog) (w := w) (base := base) T G_is_whole
  have G_is_tuple_of := ok_is_tuple_of (P := l.prog) (w := w) (base := base) T
  have G_check_from := ok_check_from (P := l.prog) (w := w) (base := base) T G_is_from
  have G_is_kind := ok_is_kind (P := l.prog) (w := w) (base := base) T
  have G_check_kind := ok_check_kind (P := l.prog) (w := w) (base := base) T G_is_kind
  have G_are_tops := ok_are_tops (P := l.prog) (w := w) (base := base) T G_is_from
  have G_check_tops := ok_check_tops (P := l.prog) (w := w) (base := base) T G_are_tops
  have G_is_room := ok_is_room (P := l.prog) (w := w) (base := base) T G_is_from G_is_tuple_of G_are_tops
  have G_check_room := ok_check_room (P := l.prog) (w := w) (base := base) T G_is_room
  have G_check_run := ok_check_run (P := l.prog) (w := w) (base := base) T G_check_from G_check_kind G_check_room
  have G_bound_beside := ok_bound_beside (P := l.prog) (w := w) (base := base) T
  have G_bound_of := ok_bound_of (P := l.prog) (w := w) (base := base) T G_bound_beside
  have G_bound := ok_bound (P := l.prog) (w := w) (base := base) T G_check_kind G_check_room G_bound_of
  have G_marks_of := ok_marks_of (P := l.prog) (w := w) (base := base) T
  have G_stretches_of := ok_stretches_of (P := l.prog) (w := w) (base := base) T G_marks_of
  have G_longest_of := ok_longest_of (P := l.prog) (w := w) (base := base) T G_stretches_of
  have G_bars_of := ok_bars_of (P := l.prog) (w := w) (base := base) T G_bound_of G_stretches_of
  have G_passes := ok_passes (P := l.prog) (w := w) (base := base) T G_bound_of G_longest_of
  have G_can_pass := ok_can_pass (P := l.prog) (w := w) (base := base) T G_check_run G_passes
  have G_greatest_reached := ok_greatest_reached (P := l.prog) (w := w) (base := base) T G_bound_of
  have G_greatest := ok_greatest (P := l.prog) (w := w) (base := base) T G_check_kind G_check_room G_greatest_reached
  have G_barring := ok_barring (P := l.prog) (w := w) (base := base) T G_check_run G_bars_of
  have G_cells_beside := ok_cells_beside (P := l.prog) (w := w) (base := base) T G_bound_beside
  have G_least_cells := ok_least_cells (P := l.prog) (w := w) (base := base) T G_check_from G_check_kind G_check_tops G_longest_of G_cells_beside
  have G_fewest_empty := ok_fewest_empty (P := l.prog) (w := w) (base := base) T
  have G_least_empty := ok_least_empty (P := l.prog) (w := w) (base := base) T G_check_from G_check_kind G_check_tops G_bound_beside G_longest_of G_fewest_empty
  have G_trades := ok_trades (P := l.prog) (w := w) (base := base) T G_check_from G_check_kind G_check_tops G_longest_of G_cells_beside G_fewest_empty
  have G_check_passes := ok_check_passes (P := l.prog) (w := w) (base := base) T G_check_run G_passes
  have G_needed_tops := ok_needed_tops (P := l.prog) (w := w) (base := base) T G_bound_of G_marks_of G_check_passes
  have G_tops_between := ok_tops_between (P := l.prog) (w := w) (base := base) T
  have G_tops_to_add := ok_tops_to_add (P := l.prog) (w := w) (base := base) T G_check_run G_bound_of G_stretches_of G_tops_between
  have G_greatest_with := ok_greatest_with (P := l.prog) (w := w) (base := base) T G_check_from G_check_kind G_check_room G_greatest_reached
  have G_law_cell := ok_law_cell (P := l.prog) (w := w) (base := base) T
  have G_law_hash := ok_law_hash (P := l.prog) (w := w) (base := base) T
  have G_law_generator := ok_law_generator (P := l.prog) (w := w) (base := base) T G_law_cell
  have G_law_random := ok_law_random (P := l.prog) (w := w) (base := base) T G_law_hash
  have G_law_tops := ok_law_tops (P := l.prog) (w := w) (base := base) T G_law_random
  have G_law_room := ok_law_room (P := l.prog) (w := w) (base := base) T G_law_random G_law_tops
  have G_law_great := ok_law_great (P := l.prog) (w := w) (base := base) T G_law_random
  have G_law_greatest := ok_law_greatest (P := l.prog) (w := w) (base := base) T
  have G_law_sides_right := ok_law_sides_right (P := l.prog) (w := w) (base := base) T G_can_pass G_greatest G_barring G_least_cells G_least_empty G_trades G_needed_tops G_tops_to_add G_greatest_with G_law_greatest
  have G_law := ok_law (P := l.prog) (w := w) (base := base) T G_bound G_can_pass G_greatest G_law_generator G_law_random G_law_room G_law_great G_law_sides_right
  exact G_law
end Lw

set_option Elab.async false
set_option linter.all false
set_option maxRecDepth 100000
set_option maxHeartbeats 4000000
namespace DL
open PySem PySem.Spec PyProof.Rows L2 Evl

/-! ### what the combinators give at their arguments -/
section
variable {ρ : List Sl} {os os1 os2 : Os} {xa xb xc : XE} {ta tb : XT} {ra : XA} {a b : SE} {xi xj : XI}
def slD : Option Sl → Option PyData
  | some (.d x) => some x
  | _ => none
def slO : Option Sl → Option Nat
  | some (.o x) => some x
  | _ => none
@[simp] theorem slD_d {x : PyData} : slD (some (.d x)) = some x := id rfl
@[simp] theorem slO_o {x : Nat} : slO (some (.o x)) = some x := id rfl
@[simp] theorem a_var {i : Nat} : xVar i ρ os = (slD ρ[i]?).map fun d => (d, os) := by
  unfold xVar
  generalize ρ[i]? = z
  match z with
  | none => rfl
  | some .u => rfl
  | some (.d _) => rfl
  | some (.o _) => rfl
@[simp] theorem a_c {d : PyData} : xC d ρ os = some (d, os) := id rfl
@[simp] theorem a_op {f : PyData → PyData → Option PyData} : xOp f xa xb ρ os = (xa ρ os).bind fun p => (xb ρ p.2).bind fun q => (f p.1 q.1).map fun z => (z, q.2) := id rfl
@[simp] theorem a_un {f : PyData → Option PyData} : xUn f xa ρ os = (xa ρ os).bind fun p => (f p.1).map fun z => (z, p.2) := id rfl
def boolOf : PyData → Option Bool
  | .bool b => some b
  | _ => none
@[simp] theorem a_bool : xBool xa ρ os = (xa ρ os).bind fun p => (boolOf p.1).map fun b => (b, p.2) := by
  unfold xBool
  congr 1
  funext p
  cases p.1 <;> rfl
@[simp] theorem a_truth : xTruth xa ρ os = (xa ρ os).bind fun p => (truthD p.1).map fun b => (b, p.2) := id rfl
@[simp] theorem a_notT : xNotT ta ρ os = (ta ρ os).map fun p => (!p.1, p.2) := id rfl
@[simp] theorem a_andT : xAndT ta tb ρ os = (ta ρ os).bind fun p => if p.1 = true then tb ρ p.2 else some (false, p.2) := id rfl
@[simp] theorem a_orT : xOrT ta tb ρ os = (ta ρ os).bind fun p => if p.1 = true then some (true, p.2) else tb ρ p.2 := id rfl
@[simp] theorem a_andV : xAndV xa xb ρ os = (xa ρ os).bind fun p => (boolOf p.1).bind fun b => if b = true then xb ρ p.2 else some (.bool false, p.2) := by
  unfold xAndV
  congr 1
  funext p
  obtain ⟨d, w⟩ := p
  cases d with
  | bool b => cases b <;> rfl
  | _ => rfl
@[simp] theorem a_if : xIf ta xa xb ρ os = (ta ρ os).bind fun p => if p.1 = true then xa ρ p.2 else xb ρ p.2 := id rfl
@[simp] theorem a_nil : xaNil ρ os = some ([], os) := id rfl
@[simp] theorem a_d : xaD xa ra ρ os = (xa ρ os).bind fun p => (ra ρ p.2).map fun q => (.d p.1 :: q.1, q.2) := id rfl
@[simp] theorem a_o {i : Nat} : xaO i ra ρ os = (slO ρ[i]?).bind fun k => (ra ρ os).map fun q => (.o k :: q.1, q.2) := by
  unfold xaO
  generalize ρ[i]? = z
  match z with
  | none => rfl
  | some .u => rfl
  | some (.d _) => rfl
  | some (.o _) => rfl
@[simp] theorem a_call {f : List PyData → Option PyData} : xCall f ra ρ os = (ra ρ os).bind fun p => (datas p.1).bind fun ds => (f ds).map fun z => (z, p.2) := id rfl
@[simp] theorem a_fn {M : XM} : xFn M ra ρ os = (ra ρ os).bind fun p => M p.1 p.2 := id rfl
@[simp] theorem a_ffn {M : XMF} : fFn M ra ρ os = (ra ρ os).bind fun p => M p.1 p.2 := id rfl
@[simp] theorem a_F : xF xi ρ os = (xi ρ os).map fun p => (.list p.1, p.2) := id rfl
@[simp] theorem a_fLst : fLst ra ρ os = (ra ρ os).bind fun p => (datas p.1).bind fun ds => if ds.length ≤ sizeLine then some (ds, p.2) else none := id rfl
def listOf : PyData → Option (List PyData)
  | .list c => some c
  | _ => none
@[simp] theorem a_iLst : iLst xa ρ os = (xa ρ os).bind fun p => (listOf p.1).map fun c => (c, p.2) := by
  unfold iLst
  congr 1
  funext p
  cases p.1 <;> rfl
@[simp] theorem a_yes : xYes ρ os = some (true, os) := id rfl
@[simp] theorem a_next : sNext ρ os = some (.nx ρ os) := id rfl
@[simp] theorem a_brk : sBrk ρ os = some (.bk ρ os) := id rfl
@[simp] theorem a_cnt : sCnt ρ os = some (.ct ρ os) := id rfl
@[simp] theorem a_seq : sSeq a b ρ os = (a ρ os).bind fun o => match o with
  | .nx ρ1 w => b ρ1 w
  | o => some o := by
  unfold sSeq
  congr 1
@[simp] theorem a_sIf : sIf ta a b ρ os = (ta ρ os).bind fun p => if p.1 = true then a ρ p.2 else b ρ p.2 := id rfl
@[simp] theorem a_asg {g : XG} : sAsg xa g ρ os = (xa ρ os).bind fun p => (g p.1 ρ).map fun r => .nx r p.2 := id rfl
@[simp] theorem a_own {i : Nat} : sOwn i xi ρ os = (xi ρ os).map fun p => .nx (ρ.set i (.o p.2.length)) (p.2 ++ [some p.1]) := id rfl
@[simp] theorem a_drop : sDrop xa ρ os = (xa ρ os).map fun p => .nx ρ p.2 := id rfl
@[simp] theorem a_ret : sRet xa ρ os = (xa ρ os).map fun p => .rt p.1 p.2 := id rfl
@[simp] theorem a_retF : sRetF xi ρ os = (xi ρ os).map fun p => .rt (.list p.1) p.2 := id rfl
@[simp] theorem a_retN : sRetN ρ os = some (.rt .none os) := id rfl
@[simp] theorem a_for {g : XG} : sFor xi g a ρ os = (xi ρ os).bind fun p => forRun g a p.1 ρ p.2 := id rfl
@[simp] theorem a_par {i j : Nat} : sPar i j xa xb ρ os = (xa ρ os).bind fun p => (xb ρ p.2).map fun q => .nx ((ρ.set i (.d p.1)).set j (.d q.1)) q.2 := id rfl
@[simp] theorem a_parO {i j : Nat} : sParO i j xi xb ρ os = (xi ρ os).bind fun p => (xb ρ p.2).map fun q => .nx ((ρ.set i (.o q.2.length)).set j (.d q.1)) (q.2 ++ [some p.1]) := id rfl
@[simp] theorem a_view : xView xa ρ os = (xa (ρ.map (viewS os)) []).bind fun p => if flatD p.1 = true then some (p.1, os) else none := id rfl
@[simp] theorem a_tview : tView ta ρ os = (ta (ρ.map (viewS os)) []).map fun p => (p.1, os) := id rfl
@[simp] theorem a_nm {i : Nat} {d : PyData} : gNm i d ρ = some (ρ.set i (.d d)) := id rfl
@[simp] theorem a_tp {n : Nat} {xs : List PyData → List Sl → Option (List Sl)} {ds : List PyData} : gTp n xs (.tuple ds) ρ = if ds.length = n then xs ds ρ else none := id rfl
@[simp] theorem a_gnil : gsNil [] ρ = some ρ := id rfl
@[simp] theorem a_gcons {g : XG} {r : List PyData → List Sl → Option (List Sl)} {d : PyData} {ds : List PyData} : gsCons g r (d :: ds) ρ = (g d ρ).bind (r ds) := id rfl
@[simp] theorem a_zp : iZp ra ρ os = (ra ρ os).bind fun p => match p.1 with
  | [.d (.list xs), .d (.list ys)] => some (zipD xs ys, p.2)
  | _ => none := id rfl
@[simp] theorem a_sl {lo hi : XO} : xSl xa lo hi ρ os = (xa ρ os).bind fun p => (lo ρ p.2).bind fun l => (hi ρ l.2).bind fun u => (listOf p.1).map fun ds => (cutD ds l.1 u.1, u.2) := by
  unfold xSl
  congr 1
  funext p
  congr 1
  funext l
  congr 1
  funext u
  cases p.1 <;> rfl
@[simp] theorem a_oN : oNone ρ os = some (none, os) := id rfl
@[simp] theorem a_oS : oSome xa ρ os = (xa ρ os).bind fun p => match p.1 with
  | .int i => some (some i, p.2)
  | _ => none := id rfl
@[simp] theorem datas_nil : datas [] = some [] := id rfl
@[simp] theorem datas_d {x : PyData} {r : List Sl} : datas (.d x :: r) = (datas r).map (x :: ·) := id rfl
/-- a def at its arguments -/
theorem m_eq {n N : Nat} {s : SE} {ss : List Sl} (h : ss.length = n) : mOf n N s ss os = (s (ss ++ List.replicate (N - n) .u) os).bind fun o => match o with
  | .rt d w => some (d, w.take os.length)
  | .nx _ w => some (.none, w.take os.length)
  | _ => none := by
  unfold mOf
  rw [if_pos h]
  try congr 1
theorem mF_eq {n N : Nat} {s : Nat → SE} {ss : List Sl} (h : ss.length = n) : mOfF n N s ss os = (s os.length (ss ++ List.replicate (N - n) .u) os).bind fun o => match o with
  | .rt (.list ds) w => some (ds, w.take os.length)
  | _ => none := by
  unfold mOfF
  rw [if_pos h]
  try congr 1
theorem m_rt {n N : Nat} {s : SE} {ss : List Sl} {d : PyData} {w : Os} (h : ss.length = n) (e : s (ss ++ List.replicate (N - n) .u) os = some (.rt d w)) : mOf n N s ss os = some (d, w.take os.length) := by
  rw [m_eq h, e]
  rfl
theorem mF_rt {n N : Nat} {s : Nat → SE} {ss : List Sl} {ds : List PyData} {w : Os} (h : ss.length = n) (e : s os.length (ss ++ List.replicate (N - n) .u) os = some (.rt (.list ds) w)) : mOfF n N s ss os = some (ds, w.take os.length) := by
  rw [mF_eq h, e]
  rfl
theorem m_nx {n N : Nat} {s : SE} {ss : List Sl} {ρ1 : List Sl} {w : Os} (h : ss.length = n) (e : s (ss ++ List.replicate (N - n) .u) os = some (.nx ρ1 w)) : mOf n N s ss os = some (.none, w.take os.length) := by
  rw [m_eq h, e]
  rfl
end

def outM (os : Os) : Out → Option (PyData × Os)
  | .rt d w => some (d, w.take os.length)
  | .nx _ w => some (.none, w.take os.length)
  | _ => none
def outF (os : Os) : Out → Option (List PyData × Os)
  | .rt (.list ds) w => some (ds, w.take os.length)
  | _ => none
@[simp] theorem outM_rt {os w : Os} {d : PyData} : outM os (.rt d w) = some (d, w.take os.length) := id rfl
@[simp] theorem outM_nx {os w : Os} {ρ : List Sl} : outM os (.nx ρ w) = some (.none, w.take os.length) := id rfl
@[simp] theorem outF_rt {os w : Os} {d : List PyData} : outF os (.rt (.list d) w) = some (d, w.take os.length) := id rfl
theorem m_0 {N : Nat} {s : SE} {os : Os} : mOf 0 N s [] os = (s (List.replicate N .u) os).bind (outM os) := by
  rw [m_eq (ss := ([] : List Sl)) (n := 0) rfl]
  congr 1
theorem m_1 {N : Nat} {s : SE} {os : Os} {a : Sl} : mOf 1 N s [a] os = (s (a :: List.replicate (N - 1) .u) os).bind (outM os) := by
  rw [m_eq (ss := ([a] : List Sl)) (n := 1) rfl]
  congr 1
theorem m_2 {N : Nat} {s : SE} {os : Os} {a b : Sl} : mOf 2 N s [a, b] os = (s (a :: b :: List.replicate (N - 2) .u) os).bind (outM os) := by
  rw [m_eq (ss := ([a, b] : List Sl)) (n := 2) rfl]
  congr 1
theorem m_3 {N : Nat} {s : SE} {os : Os} {a b c : Sl} : mOf 3 N s [a, b, c] os = (s (a :: b :: c :: List.replicate (N - 3) .u) os).bind (outM os) := by
  rw [m_eq (ss := ([a, b, c] : List Sl)) (n := 3) rfl]
  congr 1
theorem m_4 {N : Nat} {s : SE} {os : Os} {a b c d : Sl} : mOf 4 N s [a, b, c, d] os = (s (a :: b :: c :: d :: List.replicate (N - 4) .u) os).bind (outM os) := by
  rw [m_eq (ss := ([a, b, c, d] : List Sl)) (n := 4) rfl]
  congr 1
theorem mF_2 {N : Nat} {s : Nat → SE} {os : Os} {a b : Sl} : mOfF 2 N s [a, b] os = (s os.length (a :: b :: List.replicate (N - 2) .u) os).bind (outF os) := by
  rw [mF_eq (ss := ([a, b] : List Sl)) (n := 2) rfl]
  congr 1
theorem mF_3 {N : Nat} {s : Nat → SE} {os : Os} {a b c : Sl} : mOfF 3 N s [a, b, c] os = (s os.length (a :: b :: c :: List.replicate (N - 3) .u) os).bind (outF os) := by
  rw [mF_eq (ss := ([a, b, c] : List Sl)) (n := 3) rfl]
  congr 1

/-! ### comprehensions whose parts change nothing -/
theorem lc_pure {α : Type} {xg : XG} {tt : XT} {te : XE} {ρ : List Sl} {os : Os} (f : α → PyData) (p : α → Bool) (h : α → PyData) : ∀ (l : List α) (acc : List PyData),
    (∀ x ∈ l, ∃ ρ1, xg (f x) ρ = some ρ1 ∧ tt ρ1 os = some (p x, os) ∧ (p x = true → te ρ1 os = some (h x, os))) → acc.length + l.length ≤ sizeLine → lcRun xg tt te ρ (l.map f) acc os = some (acc ++ (l.filter p).map h, os)
  | [], acc, _, _ => by simp [lcRun]
  | x :: r, acc, H, hl => by
    obtain ⟨ρ1, h1, h2, h3⟩ := H x (by simp)
    simp only [List.map_cons, lcRun, h1, Option.bind_some, h2]
    rw [List.length_cons] at hl
    cases hp : p x with
    | true =>
      rw [if_pos rfl, h3 hp, Option.bind_some, if_pos (by omega), lc_pure f p h r _ (fun y hy => H y (by simp [hy])) (by simp; omega), List.filter_cons_of_pos hp]
      simp
    | false =>
      rw [if_neg (by simp), lc_pure f p h r _ (fun y hy => H y (by simp [hy])) (by omega), List.filter_cons_of_neg (by simp [hp])]
theorem lcD_pure {α : Type} {xi : XI} {xg : XG} {tt : XT} {te : XE} {vs : List Nat} {ρ : List Sl} {os : Os} {l : List α} {f : α → PyData} {p : α → Bool} {h : α → PyData} (hi : xi ρ os = some (l.map f, os))
    (H : ∀ x ∈ l, ∃ ρ1, xg (f x) (wipeR ρ vs) = some ρ1 ∧ tt ρ1 os = some (p x, os) ∧ (p x = true → te ρ1 os = some (h x, os))) (hl : l.length ≤ sizeLine) : lcD xi xg tt te vs ρ os = some ((l.filter p).map h, os) := by
  unfold lcD
  rw [hi, Option.bind_some, lc_pure f p h l [] H (by simpa using hl)]
  simp
theorem lcD_all {α : Type} {xi : XI} {xg : XG} {te : XE} {vs : List Nat} {ρ : List Sl} {os : Os} {l : List α} {f : α → PyData} {h : α → PyData} (hi : xi ρ os = some (l.map f, os))
    (H : ∀ x ∈ l, ∃ ρ1, xg (f x) (wipeR ρ vs) = some ρ1 ∧ te ρ1 os = some (h x, os)) (hl : l.length ≤ sizeLine) : lcD xi xg xYes te vs ρ os = some (l.map h, os) := by
  have q := lcD_pure (tt := xYes) (te := te) (xg := xg) (vs := vs) (p := fun _ => true) (h := h) hi (fun x hx => by
    obtain ⟨ρ1, h1, h2⟩ := H x hx
    exact ⟨ρ1, h1, rfl, fun _ => h2⟩) hl
  rw [q, List.filter_eq_self.mpr (fun _ _ => rfl)]
/-- a for that runs to its end -/
theorem for_nx {α : Type} {xg : XG} {b : SE} (f : α → PyData) (I : List α → List Sl → Os → Prop) : ∀ (l : List α) (ρ : List Sl) (os : Os), I l ρ os →
    (∀ x r ρ os, I (x :: r) ρ os → ∃ ρ1 ρ2 os2, xg (f x) ρ = some ρ1 ∧ b ρ1 os = some (.nx ρ2 os2) ∧ I r ρ2 os2) → ∃ ρ2 os2, forRun xg b (l.map f) ρ os = some (.nx ρ2 os2) ∧ I [] ρ2 os2
  | [], ρ, os, h, _ => ⟨ρ, os, rfl, h⟩
  | x :: r, ρ, os, h, H => by
    obtain ⟨ρ1, ρ2, os2, h1, h2, h3⟩ := H x r ρ os h
    obtain ⟨ρ3, os3, h4, h5⟩ := for_nx f I r ρ2 os2 h3 H
    refine ⟨ρ3, os3, ?_, h5⟩
    simp only [List.map_cons, forRun, h1, Option.bind_some, h2, h4]

/-! ### types -/
@[simp] theorem i_int_int {i : Int} : isiD "int" (.int i) = some (.bool true) := by
  show (kitB "int" "int").map PyData.bool = _
  rw [show kitB "int" "int" = some true by decide +kernel]
  rfl
@[simp] theorem i_bool_int {i : Int} : isiD "bool" (.int i) = some (.bool false) := by
  show (kitB "int" "bool").map PyData.bool = _
  rw [show kitB "int" "bool" = some false by decide +kernel]
  rfl
@[simp] theorem i_int_bool {b : Bool} : isiD "int" (.bool b) = some (.bool true) := by
  show (kitB "bool" "int").map PyData.bool = _
  rw [show kitB "bool" "int" = some true by decide +kernel]
  rfl
@[simp] theorem i_bool_bool {b : Bool} : isiD "bool" (.bool b) = some (.bool true) := by
  show (kitB "bool" "bool").map PyData.bool = _
  rw [show kitB "bool" "bool" = some true by decide +kernel]
  rfl
@[simp] theorem i_int_none : isiD "int" .none = some (.bool false) := by
  show (kitB "NoneType" "int").map PyData.bool = _
  rw [show kitB "NoneType" "int" = some false by decide +kernel]
  rfl
@[simp] theorem i_int_str {x : Str} : isiD "int" (.str x) = some (.bool false) := by
  show (kitB "str" "int").map PyData.bool = _
  rw [show kitB "str" "int" = some false by decide +kernel]
  rfl
@[simp] theorem i_int_list {x : List PyData} : isiD "int" (.list x) = some (.bool false) := by
  show (kitB "list" "int").map PyData.bool = _
  rw [show kitB "list" "int" = some false by decide +kernel]
  rfl
@[simp] theorem i_int_tuple {x : List PyData} : isiD "int" (.tuple x) = some (.bool false) := by
  show (kitB "tuple" "int").map PyData.bool = _
  rw [show kitB "tuple" "int" = some false by decide +kernel]
  rfl
@[simp] theorem i_list_list {x : List PyData} : isiD "list" (.list x) = some (.bool true) := by
  show (kitB "list" "list").map PyData.bool = _
  rw [show kitB "list" "list" = some true by decide +kernel]
  rfl
@[simp] theorem i_tuple_tuple {x : List PyData} : isiD "tuple" (.tuple x) = some (.bool true) := by
  show (kitB "tuple" "tuple").map PyData.bool = _
  rw [show kitB "tuple" "tuple" = some true by decide +kernel]
  rfl
@[simp] theorem i_tuple_none : isiD "tuple" .none = some (.bool false) := by
  show (kitB "NoneType" "tuple").map PyData.bool = _
  rw [show kitB "NoneType" "tuple" = some false by decide +kernel]
  rfl
@[simp] theorem i_tuple_list {x : List PyData} : isiD "tuple" (.list x) = some (.bool false) := by
  show (kitB "list" "tuple").map PyData.bool = _
  rw [show kitB "list" "tuple" = some false by decide +kernel]
  rfl
@[simp] theorem i_tuple_int {i : Int} : isiD "tuple" (.int i) = some (.bool false) := by
  show (kitB "int" "tuple").map PyData.bool = _
  rw [show kitB "int" "tuple" = some false by decide +kernel]
  rfl
@[simp] theorem i_tuple_dict {i : List (PyData × PyData)} : isiD "tuple" (.dict i) = some (.bool false) := by
  show (kitB "dict" "tuple").map PyData.bool = _
  rw [show kitB "dict" "tuple" = some false by decide +kernel]
  rfl

/-! ### operations within their limits -/
theorem sizeLine_eq : sizeLine = 16777216 := rfl
theorem mulD_ok {a b : Int} {p q : Nat} (ha : a.natAbs < 2 ^ p) (hb : b.natAbs < 2 ^ q) (h : p + q ≤ 134217728) : mulD (.int a) (.int b) = some (.int (a * b)) := by
  have h1 := intBits_le ha
  have h2 := intBits_le hb
  show (if bitsOf a + bitsOf b ≤ 134217728 then _ else _) = _
  rw [if_pos (by simp only [bitsOf]; omega)]
theorem modD_ok {a b : Int} (h : 0 < b) : modD (.int a) (.int b) = some (.int (a % b)) := by
  show (if 0 < b then _ else _) = _
  rw [if_pos h]
theorem fdivD_ok {a b : Int} {p : Nat} (h : 0 < b) (ha : a.natAbs < 2 ^ p) (hp : p ≤ 4000) : fdivD (.int a) (.int b) = some (.int (a / b)) := by
  have h1 := intBits_le ha
  show (if _ then _ else _) = _
  rw [if_pos ⟨h, by omega⟩]
theorem shlD_ok {a b : Int} {p : Nat} (h : 0 ≤ b) (ha : a.natAbs < 2 ^ p) (hp : (p : Int) + b ≤ 134217728) : shlD (.int a) (.int b) = some (.int (a * 2 ^ b.toNat)) := by
  have h1 := intBits_le ha
  show (if _ then _ else _) = _
  rw [if_pos ⟨h, by simp only [bitsOf]; omega⟩]
theorem powD_ok {a b : Int} {p : Nat} (h : 0 ≤ b) (ha : a.natAbs < 2 ^ p) (hp : (p : Int) * b ≤ 134217728) : powD (.int a) (.int b) = some (.int (a ^ b.toNat)) := by
  have h1 := intBits_le ha
  show (if _ then _ else _) = _
  rw [if_pos ⟨h, Int.le_trans (Int.mul_le_mul_of_nonneg_right (by simp only [bitsOf]; omega) h) hp⟩]
theorem atI_nat {α : Type} {c : List α} {i : Nat} {x : α} (h : c[i]? = some x) : atI c (i : Int) = some x := by
  have hl : i < c.length := by
    rcases Nat.lt_or_ge i c.length with z | z
    · exact z
    · rw [List.getElem?_eq_none z] at h
      cases h
  unfold atI ixN
  rw [if_pos (by omega), if_pos (by omega)]
  simpa using h
@[simp] theorem boolOf_bool {b : Bool} : boolOf (.bool b) = some b := id rfl
@[simp] theorem listOf_list {b : List PyData} : listOf (.list b) = some b := id rfl
@[simp] theorem addD_int {a b : Int} : addD (.int a) (.int b) = some (.int (a + b)) := id rfl
@[simp] theorem subD_int {a b : Int} : subD (.int a) (.int b) = some (.int (a - b)) := id rfl
@[simp] theorem ltD_int {a b : Int} : ltD (.int a) (.int b) = some (.bool (decide (a < b))) := id rfl
@[simp] theorem leD_int {a b : Int} : leD (.int a) (.int b) = some (.bool (decide (a ≤ b))) := id rfl
@[simp] theorem gtD_int {a b : Int} : gtD (.int a) (.int b) = some (.bool (decide (a > b))) := id rfl
@[simp] theorem geD_int {a b : Int} : geD (.int a) (.int b) = some (.bool (decide (a ≥ b))) := id rfl
@[simp] theorem lenD_list {c : List PyData} : lenD [.list c] = some (.int (c.length : Int)) := id rfl
@[simp] theorem lenD_tuple {c : List PyData} : lenD [.tuple c] = some (.int (c.length : Int)) := id rfl
@[simp] theorem intD_int {i : Int} : intD [.int i] = some (.int i) := id rfl
@[simp] theorem intD_bool {b : Bool} : intD [.bool b] = some (.int (if b then 1 else 0)) := id rfl
@[simp] theorem notD_bool {b : Bool} : notD (.bool b) = some (.bool (!b)) := id rfl
@[simp] theorem truthD_bool {b : Bool} : truthD (.bool b) = some b := id rfl
@[simp] theorem maxD_two {a b : Int} : maxD [.int a, .int b] = some (.int (if b > a then b else a)) := id rfl
@[simp] theorem sumD_ints {ns : List Int} : sumD [.list (ns.map .int)] = some (.int ns.sum) := by
  show (intsOf (ns.map .int)).map _ = _
  rw [intsOf_map]
  rfl
@[simp] theorem allD_bools {ns : List Bool} : allD [.list (ns.map .bool)] = some (.bool (ns.all id)) := by
  show (boolsOf (ns.map .bool)).map _ = _
  rw [boolsOf_map]
  rfl
@[simp] theorem bitsD_int {i : Int} : bitsD (.int i) = some (.int (Builtin.Int.intBits i : Nat)) := id rfl
@[simp] theorem negD_int {i : Int} : negD (.int i) = some (.int (-i)) := id rfl
@[simp] theorem eqD_str {a b : Str} : eqD (.str a) (.str b) = some (.bool (decide (a = b))) := id rfl
@[simp] theorem neD_str {a b : Str} : neD (.str a) (.str b) = some (.bool (!decide (a = b))) := id rfl
theorem ixD_list {c : List PyData} {i : Nat} {x : PyData} (h : c[i]? = some x) : ixD (.list c) (.int (i : Int)) = some x := atI_nat h
theorem ixD_tuple {c : List PyData} {i : Nat} {x : PyData} (h : c[i]? = some x) : ixD (.tuple c) (.int (i : Int)) = some x := atI_nat h
@[simp] theorem ixD_t0 {x : PyData} {c : List PyData} : ixD (.tuple (x :: c)) (.int 0) = some x := atI_nat (i := 0) rfl
@[simp] theorem ixD_t1 {x y : PyData} {c : List PyData} : ixD (.tuple (x :: y :: c)) (.int 1) = some y := atI_nat (i := 1) rfl
@[simp] theorem ixD_t2 {x y z : PyData} {c : List PyData} : ixD (.tuple (x :: y :: z :: c)) (.int 2) = some z := atI_nat (i := 2) rfl
@[simp] theorem ixD_l0 {x : PyData} {c : List PyData} : ixD (.list (x :: c)) (.int 0) = some x := atI_nat (i := 0) rfl
@[simp] theorem ixD_l1 {x y : PyData} {c : List PyData} : ixD (.list (x :: y :: c)) (.int 1) = some y := atI_nat (i := 1) rfl
@[simp] theorem ixD_l2 {x y z : PyData} {c : List PyData} : ixD (.list (x :: y :: z :: c)) (.int 2) = some z := atI_nat (i := 2) rfl
theorem tupD_ok {ds : List PyData} (h : ds.length ≤ sizeLine) : tupD ds = some (.tuple ds) := by
  show (if _ then _ else _) = _
  rw [if_pos h]
theorem lstD_ok {ds : List PyData} (h : ds.length ≤ sizeLine) : lstD ds = some (.list ds) := by
  show (if _ then _ else _) = _
  rw [if_pos h]
@[simp] theorem tupD_0 : tupD [] = some (.tuple []) := tupD_ok (by decide)
@[simp] theorem tupD_1 {a : PyData} : tupD [a] = some (.tuple [a]) := tupD_ok (by simp [sizeLine])
@[simp] theorem tupD_2 {a b : PyData} : tupD [a, b] = some (.tuple [a, b]) := tupD_ok (by simp [sizeLine])
@[simp] theorem tupD_3 {a b c : PyData} : tupD [a, b, c] = some (.tuple [a, b, c]) := tupD_ok (by simp [sizeLine])
@[simp] theorem lstD_0 : lstD [] = some (.list []) := lstD_ok (by decide)
@[simp] theorem lstD_1 {a : PyData} : lstD [a] = some (.list [a]) := lstD_ok (by simp [sizeLine])
@[simp] theorem lstD_2 {a b : PyData} : lstD [a, b] = some (.list [a, b]) := lstD_ok (by simp [sizeLine])
@[simp] theorem lstD_3 {a b c : PyData} : lstD [a, b, c] = some (.list [a, b, c]) := lstD_ok (by simp [sizeLine])
@[simp] theorem lstD_4 {a b c d : PyData} : lstD [a, b, c, d] = some (.list [a, b, c, d]) := lstD_ok (by simp [sizeLine])
theorem addD_list {a b : List PyData} (h : a.length + b.length ≤ sizeLine) : addD (.list a) (.list b) = some (.list (a ++ b)) := by
  show (if _ then _ else _) = _
  rw [if_pos h]
end DL

set_option Elab.async false
set_option linter.all false
set_option maxRecDepth 100000
set_option maxHeartbeats 4000000
set_option exponentiation.threshold 3000
namespace Lw
open PySem PySem.Spec PyProof.Rows L2 Evl DL

theorem cell_ok (ns : List Int) (i : Nat) (os : Os) : ∃ s : Int, m_law_cell [.d (.list (ns.map .int)), .d (.int i)] os = some (.int s, os) := by
  unfold m_law_cell
  rw [m_2]
  by_cases h : i < ns.length
  · have h1 : ixD (.list (ns.map .int)) (.int (i : Int)) = some (.int ns[i]) := ixD_list (by simp [h])
    refine ⟨ns[i], ?_⟩
    simp -implicitDefEqProofs [b_law_cell, h, h1]
  · have h2 : DL.cutD (ns.map PyData.int) none (some 1) = (DL.cutD ns none (some 1)).map PyData.int := by
      unfold DL.cutD
      simp [List.map_take, List.map_drop]
    have h3 : ∀ a : Int, modD (.int a) (.int 1000003) = some (.int (a % 1000003)) := fun a => modD_ok (by decide)
    refine ⟨(DL.cutD ns none (some 1)).sum % 1000003, ?_⟩
    simp -implicitDefEqProofs [b_law_cell, h, h2, h3]
theorem mulD_ex {a b : Int} (p q : Nat) (ha : a.natAbs < 2 ^ p) (hb : b.natAbs < 2 ^ q) (h : p + q ≤ 134217728) : ∃ y : Int, mulD (.int a) (.int b) = some (.int y) ∧ y.natAbs < 2 ^ (p + q) := by
  refine ⟨_, mulD_ok ha hb h, ?_⟩
  rw [Int.natAbs_mul, Nat.pow_add]
  exact Nat.mul_lt_mul_of_lt_of_lt ha hb
theorem modD_ex (a : Int) {b : Int} (h : 0 < b) : ∃ y : Int, modD (.int a) (.int b) = some (.int y) ∧ 0 ≤ y ∧ y < b :=
  ⟨_, modD_ok h, Int.emod_nonneg _ (Int.ne_of_gt h), Int.emod_lt_of_pos _ h⟩
theorem addD_ex (a b : Int) : ∃ y : Int, addD (.int a) (.int b) = some (.int y) ∧ y = a + b := ⟨_, rfl, rfl⟩
theorem hash_ok (s i : Int) (os : Os) (hs : s.natAbs < 2 ^ 40) (hi : i.natAbs < 2 ^ 100) : ∃ r : Int, m_law_hash [.d (.int s), .d (.int i)] os = some (.int r, os) ∧ 0 ≤ r ∧ r < 2147483647 := by
  unfold m_law_hash
  rw [m_2]
  obtain ⟨y1, h1, _⟩ := mulD_ex (a := s) (b := 1140671) 40 40 hs (by decide) (by decide)
  obtain ⟨y2, h2, c2⟩ := mulD_ex (a := 27644437) (b := i) 40 100 (by decide) hi (by decide)
  obtain ⟨y3, h3, _⟩ := mulD_ex (a := y2) (b := i) 140 100 c2 hi (by decide)
  obtain ⟨y4, h4, _⟩ := addD_ex y1 y3
  obtain ⟨y5, h5, _⟩ := mulD_ex (a := 131) (b := i) 40 100 (by decide) hi (by decide)
  obtain ⟨y6, h6, _⟩ := addD_ex y4 y5
  obtain ⟨y7, h7, _⟩ := addD_ex y6 19
  obtain ⟨y8, h8, c8, d8⟩ := modD_ex y7 (b := 2147483629) (by decide)
  obtain ⟨y9, h9, _⟩ := mulD_ex (a := y8) (b := y8) 40 40 (by omega) (by omega) (by decide)
  obtain ⟨z1, h10, _⟩ := mulD_ex (a := 62089) (b := i) 40 100 (by decide) hi (by decide)
  obtain ⟨z2, h11, _⟩ := addD_ex y9 z1
  obtain ⟨z3, h12, _⟩ := addD_ex z2 32416187
  obtain ⟨z4, h13, c13, d13⟩ := modD_ex z3 (b := 2147483587) (by decide)
  obtain ⟨z5, h14, _⟩ := mulD_ex (a := z4) (b := 48271) 40 40 (by omega) (by decide) (by decide)
  obtain ⟨z6, h15, c15, d15⟩ := modD_ex z5 (b := 2147483647) (by decide)
  refine ⟨z6, ?_, c15, d15⟩
  simp -implicitDefEqProofs [b_law_hash, -addD_int, h1, h2, h3, h4, h5, h6, h7, h8, h9, h10, h11, h12, h13, h14, h15]
def top2 : Int := (2 : Int) ^ 2000
/-- what a generator holds -/
def GenL (g : List PyData) (B : Int) : Prop := ∃ a b c : Int, g = [.int a, .int b, .int c] ∧ 0 ≤ a ∧ a < top2 ∧ 0 ≤ b ∧ b < 2147483647 ∧ 0 ≤ c ∧ c ≤ B
theorem GenL.mono {g : List PyData} {A B : Int} (h : GenL g A) (e : A ≤ B) : GenL g B := by
  obtain ⟨a, b, c, h0, h1, h2, h3, h4, h5, h6⟩ := h
  exact ⟨a, b, c, h0, h1, h2, h3, h4, h5, by omega⟩
theorem some_int {a b : Int} (h : a = b) : some (PyData.int a) = some (PyData.int b) := by rw [h]
theorem powD_10_18 : powD (.int 10) (.int 18) = some (.int 1000000000000000000) := (powD_ok (p := 40) (by decide) (by decide) (by decide)).trans (some_int (by decide))
theorem powD_10_60 : powD (.int 10) (.int 60) = some (.int 1000000000000000000000000000000000000000000000000000000000000) := (powD_ok (p := 40) (by decide) (by decide) (by decide)).trans (some_int (by decide))
def tens : Int := 1000000000000000000000000000000000000000000000000000000000000 ^ 10
theorem tens_pos : 0 < tens := by decide
theorem tens_lt : tens < top2 := by decide +kernel
theorem powD_600 : powD (.int 1000000000000000000000000000000000000000000000000000000000000) (.int 10) = some (.int tens) :=
  powD_ok (p := 200) (by decide) (by decide) (by decide)
theorem generator_ok (ns : List Int) (i : Nat) (os : Os) (hi : i < 100) : ∃ g, m_law_generator [.d (.list (ns.map .int)), .d (.int i)] os = some (g, os) ∧ GenL g 100000 := by
  obtain ⟨s, hs⟩ := cell_ok ns i os
  unfold m_law_generator
  rw [mF_2]
  have h1 : ∀ a : Int, modD (.int a) (.int tens) = some (.int (a % tens)) := fun a => modD_ok tens_pos
  have h7 : ∀ a : Int, modD (.int a) (.int 2147483647) = some (.int (a % 2147483647)) := fun a => modD_ok (by decide)
  have h2 : mulD (.int 1000) (.int (i : Int)) = some (.int (1000 * (i : Int))) := mulD_ok (p := 40) (q := 100) (by decide) (by omega) (by decide)
  have h3 : (3 : Nat) ≤ sizeLine := by decide
  obtain ⟨x, hx⟩ : ∃ x, maxD [.int (s - 1000000000000000000), .int 0] = some (.int x) := ⟨_, rfl⟩
  refine ⟨[.int (x % tens), .int (s % 2147483647), .int (1000 * i)], ?_, _, _, _, rfl, Int.emod_nonneg _ (Int.ne_of_gt tens_pos), Int.lt_trans (Int.emod_lt_of_pos _ tens_pos) tens_lt, Int.emod_nonneg _ (by decide), Int.emod_lt_of_pos _ (by decide), by omega, by omega⟩
  simp -implicitDefEqProofs [b_law_generator, -maxD_two, hx, hs, powD_10_18, powD_10_60, powD_600, h1, h7, h2, h3]

theorem viewS_o {os : Os} {k : Nat} {g : List PyData} (h : os[k]? = some (some g)) : viewS os (.o k) = .d (.list g) := by
  unfold viewS
  simp only
  rw [h]
theorem ownAt_o {ρ : List Sl} {os : Os} {i k : Nat} {g : List PyData} (h : ρ[i]? = some (.o k)) (h2 : os[k]? = some (some g)) : ownAt ρ os i = some (k, g) := by
  unfold ownAt
  rw [h]
  simp only
  rw [h2]
theorem get_set {os : Os} {k : Nat} {g g' : List PyData} (h : os[k]? = some (some g)) : (os.set k (some g'))[k]? = some (some g') := by
  have hl : k < os.length := by
    rcases Nat.lt_or_ge k os.length with z | z
    · exact z
    · rw [List.getElem?_eq_none z] at h
      cases h
  rw [List.getElem?_set_self hl]
theorem a_set {i : Nat} {ρ : List Sl} {os os1 os2 : Os} {xi xe : XE} {d : PyData} {j : Nat} {k : Nat} {g : List PyData} (h1 : xe ρ os = some (d, os1)) (h2 : xi ρ os1 = some (.int (j : Int), os2)) (h3 : ownAt ρ os2 i = some (k, g)) (hj : j < g.length) : sSet i xi xe ρ os = some (.nx ρ (os2.set k (some (g.set j d)))) := by
  unfold sSet
  rw [h1, Option.bind_some, h2, Option.bind_some]
  simp only
  rw [h3, Option.bind_some]
  simp only
  unfold ixN
  rw [if_pos (by omega), if_pos (by omega)]
  simp
/-- a step of the small seeds' drawing -/
theorem draws_ok {k : Nat} {a b L : Int} : ∀ (n : Nat) (items : List PyData) (c x : Int) (os : Os) (D : Nat) (y : Sl), items.length = n → os[k]? = some (some [.int a, .int b, .int c]) → 0 ≤ b → b < 2147483647 → 0 ≤ c → c + n < 2 ^ 60 → x.natAbs < 2 ^ D → D + 100 * n ≤ 10000 →
    ∃ ρ2 x2 c2, forRun (gNm 3) ((sSeq (sSet 0 (xC (.int 2)) (xView (xOp addD (xOp ixD (xVar 0) (xC (.int 2))) (xC (.int 1)))))
  (sAsg (xView (xOp addD (xOp mulD (xVar 2) (xC (.int 2147483587))) (xFn m_law_hash (xaD (xOp ixD (xVar 0) (xC (.int 1))) (xaD (xOp ixD (xVar 0) (xC (.int 2))) xaNil))))) (gNm 2)))) items [.o k, .d (.int L), .d (.int x), y] os = some (.nx [.o k, .d (.int L), .d (.int x2), ρ2] (os.set k (some [.int a, .int b, .int c2]))) ∧ c2 = c + n
  | 0, [], c, x, os, D, y, _, h, _, _, _, _, _, _ => by
    refine ⟨y, x, c, ?_, by omega⟩
    have e : os.set k (some [.int a, .int b, .int c]) = os := by
      apply List.ext_getElem?
      intro j
      by_cases e : k = j
      · subst e
        rw [get_set h, h]
      · rw [List.getElem?_set_ne e]
    rw [e]
    rfl
  | n + 1, d :: r, c, x, os, D, y, hn, h, h1, h2, h3, h4, h5, h6 => by
    obtain ⟨hh, e1, e2, e3⟩ := hash_ok b (c + 1) [] (by omega) (by omega)
    obtain ⟨m, e4, e5⟩ := mulD_ex (a := x) (b := 2147483587) D 40 h5 (by decide) (by omega)
    have g1 := get_set (g' := [.int a, .int b, .int (c + 1)]) h
    obtain ⟨ρ2, x2, c2, q1, q2⟩ := draws_ok (L := L) n r (c + 1) (m + hh) (os.set k (some [.int a, .int b, .int (c + 1)])) (D + 100) (.d d) (by simpa using hn) g1 h1 h2 (by omega) (by omega) (by
      have : (m + hh).natAbs ≤ m.natAbs + hh.natAbs := Int.natAbs_add_le _ _
      have e6 : hh.natAbs < 2 ^ (D + 40) := Nat.lt_of_lt_of_le (by omega : hh.natAbs < 2 ^ 40) (Nat.pow_le_pow_right (by decide) (by omega))
      have e7 : 2 ^ (D + 100) = 2 ^ (D + 40) * 2 ^ 60 := by rw [← Nat.pow_add]
      have e8 : 2 ^ (D + 40) * 2 ≤ 2 ^ (D + 40) * 2 ^ 60 := Nat.mul_le_mul_left _ (by decide)
      omega) (by omega)
    refine ⟨ρ2, x2, c2, ?_, by omega⟩
    have s1 : sSet 0 (xC (.int 2)) (xView (xOp addD (xOp ixD (xVar 0) (xC (.int 2))) (xC (.int 1)))) [.o k, .d (.int L), .d (.int x), .d d] os = some (.nx [.o k, .d (.int L), .d (.int x), .d d] (os.set k (some [.int a, .int b, .int (c + 1)]))) := by
      refine a_set (d := .int (c + 1)) (os1 := os) (os2 := os) (j := 2) (g := [.int a, .int b, .int c]) ?_ rfl (ownAt_o rfl h) (by simp)
      simp -implicitDefEqProofs [viewS_o h, flatD]
    simp -implicitDefEqProofs only [forRun, a_nm, List.set_cons_succ, List.set_cons_zero, Option.bind_some, a_seq, s1]
    have s2 : sAsg (xView (xOp addD (xOp mulD (xVar 2) (xC (.int 2147483587))) (xFn m_law_hash (xaD (xOp ixD (xVar 0) (xC (.int 1))) (xaD (xOp ixD (xVar 0) (xC (.int 2))) xaNil))))) (gNm 2) [.o k, .d (.int L), .d (.int x), .d d] (os.set k (some [.int a, .int b, .int (c + 1)])) = some (.nx [.o k, .d (.int L), .d (.int (m + hh)), .d d] (os.set k (some [.int a, .int b, .int (c + 1)]))) := by
      have v1 : viewS (os.set k (some [.int a, .int b, .int (c + 1)])) (.d (.int L)) = .d (.int L) := rfl
      have v2 : viewS (os.set k (some [.int a, .int b, .int (c + 1)])) (.d (.int x)) = .d (.int x) := rfl
      simp -implicitDefEqProofs [viewS_o g1, v1, v2, e1, e4, flatD]
    rw [s2]
    simp -implicitDefEqProofs only [Option.bind_some, q1, List.set_set]
theorem rg1_ok {ρ : List Sl} {os os1 : Os} {ra : XA} {j : Int} (h : ra ρ os = some ([.d (.int j)], os1)) (h1 : -(2 ^ 62) ≤ j) (h2 : j < 2 ^ 62) : iRg ra ρ os = some (rangeD 0 j.toNat, os1) := by
  unfold iRg
  rw [h, Option.bind_some]
  simp only
  rw [if_pos ⟨h1, h2⟩]
theorem rangeD_len {lo : Int} {n : Nat} : (rangeD lo n).length = n := by simp [rangeD]
theorem take_set {os : Os} {k : Nat} {g : Option (List PyData)} : (os.set k g).take os.length = os.set k g := by
  rw [List.take_of_length_le (by simp)]
theorem rand_ok {os : Os} {k : Nat} {g : List PyData} {B L : Int} (h : os[k]? = some (some g)) (hg : GenL g B) (hB : B < 2 ^ 50) (hL : 0 < L) (hL2 : L.natAbs < 2 ^ 100) :
    ∃ r g', m_law_random [.o k, .d (.int L)] os = some (.int r, os.set k (some g')) ∧ GenL g' (B + 5) ∧ 0 ≤ r ∧ r < L := by
  obtain ⟨a, b, c, rfl, a0, a1, b0, b1, c0, c1⟩ := hg
  unfold m_law_random
  rw [m_2]
  have t0 : tView (xBool (xOp gtD (xOp ixD (xVar 0) (xC (.int 0))) (xC (.int 0)))) [.o k, .d (.int L), .u, .u] os = some (decide (a > 0), os) := by
    have v1 : viewS os (.d (.int L)) = .d (.int L) := rfl
    simp -implicitDefEqProofs [viewS_o h, v1]
  by_cases ha : 0 < a
  · obtain ⟨m, e1, e2, e3⟩ := modD_ex a hL
    have hn : a.natAbs < 2 ^ 2000 := by
      have : a < (2 : Int) ^ 2000 := a1
      have e : ((2 ^ 2000 : Nat) : Int) = (2 : Int) ^ 2000 := by simp
      omega
    have e4 := fdivD_ok (a := a) hL hn (by decide)
    have e5 : 0 ≤ a / L := Int.ediv_nonneg a0 (Int.le_of_lt hL)
    have e6 : a / L ≤ a := Int.ediv_le_self _ a0
    have s1 : sAsg (xView (xOp modD (xCall intD (xaD (xOp ixD (xVar 0) (xC (.int 0))) xaNil)) (xVar 1))) (gNm 2) [.o k, .d (.int L), .u, .u] os = some (.nx [.o k, .d (.int L), .d (.int m), .u] os) := by
      have v1 : viewS os (.d (.int L)) = .d (.int L) := rfl
      simp -implicitDefEqProofs [viewS_o h, v1, e1, flatD]
    have s2 : sSet 0 (xC (.int 0)) (xView (xOp fdivD (xOp ixD (xVar 0) (xC (.int 0))) (xVar 1))) [.o k, .d (.int L), .d (.int m), .u] os = some (.nx [.o k, .d (.int L), .d (.int m), .u] (os.set k (some [.int (a / L), .int b, .int c]))) := by
      refine a_set (d := .int (a / L)) (os1 := os) (os2 := os) (j := 0) (g := [.int a, .int b, .int c]) ?_ rfl (ownAt_o rfl h) (by simp)
      have v1 : viewS os (.d (.int L)) = .d (.int L) := rfl
      have v2 : viewS os (.d (.int m)) = .d (.int m) := rfl
      simp -implicitDefEqProofs [viewS_o h, v1, v2, e4, flatD]
    refine ⟨m, [.int (a / L), .int b, .int c], ?_, ⟨_, _, _, rfl, e5, by omega, b0, b1, c0, by omega⟩, e2, e3⟩
    have d0 : decide (a > 0) = true := by simpa using ha
    simp -implicitDefEqProofs only [b_law_random, List.reduceReplicate, Nat.reduceSub, a_seq, a_sIf, t0, d0, Option.bind_some, if_true, s1, s2, a_ret]
    simp -implicitDefEqProofs [take_set]
  · have hn1 := intBits_le hL2
    have e1 : fdivD (.int (Builtin.Int.intBits L : Nat)) (.int 30) = some (.int ((Builtin.Int.intBits L : Nat) / 30)) := fdivD_ok (p := 100) (by decide) (by
      have : (2 : Nat) ^ 100 > 100 := by decide
      omega) (by decide)
    generalize eN : ((Builtin.Int.intBits L : Nat) : Int) / 30 = N at e1
    have hN : 0 ≤ N ∧ N ≤ 3 := by omega
    have r1 : iRg (xaD (xOp addD (xC (.int 1)) (xOp fdivD (xUn bitsD (xVar 1)) (xC (.int 30)))) xaNil) [.o k, .d (.int L), .d (.int 0), .u] os = some (rangeD 0 (1 + N).toNat, os) := by
      refine rg1_ok (j := 1 + N) ?_ (by omega) (by omega)
      simp -implicitDefEqProofs [e1]
    obtain ⟨ρ2, x2, c2, q1, q2⟩ := draws_ok (a := a) (L := L) (1 + N).toNat (rangeD 0 (1 + N).toNat) c 0 os 0 .u rangeD_len h b0 b1 c0 (by omega) (by decide) (by omega)
    obtain ⟨m, e4, e5, e6⟩ := modD_ex x2 hL
    refine ⟨m, [.int a, .int b, .int c2], ?_, ⟨_, _, _, rfl, a0, a1, b0, b1, by omega, by omega⟩, e5, e6⟩
    have d0 : decide (a > 0) = false := by simpa using ha
    simp -implicitDefEqProofs only [b_law_random, List.reduceReplicate, Nat.reduceSub, a_seq, a_sIf, t0, d0, Option.bind_some, Bool.false_eq_true, if_false, a_next, a_asg, a_c, a_nm, Option.map_some, List.set_cons_succ, List.set_cons_zero, a_for, r1, q1]
    simp -implicitDefEqProofs [e4, take_set]
end Lw

set_option Elab.async false
set_option linter.all false
set_option maxRecDepth 100000
set_option maxHeartbeats 4000000
set_option exponentiation.threshold 3000
namespace Lw
open PySem PySem.Spec PyProof.Rows L2 Evl DL

theorem app_at {os tl : Os} {k : Nat} {g : Option (List PyData)} (hk : k < os.length) : (os.set k g ++ tl)[k]? = some g := by
  rw [List.getElem?_append_left (by simpa using hk), List.getElem?_set_self hk]
theorem app_set {os tl : Os} {k : Nat} {g g' : Option (List PyData)} (hk : k < os.length) : (os.set k g ++ tl).set k g' = os.set k g' ++ tl := by
  rw [List.set_append_left _ _ (by simpa using hk), List.set_set]
theorem app_take {os tl : Os} {x : List PyData} {y : Os} {k : Nat} {g g' : Option (List PyData)} : (os.set k g' ++ (tl ++ y)).take (os.set k g ++ tl).length = os.set k g' ++ tl := by
  rw [← List.append_assoc, List.take_left' (by simp)]
theorem app_take0 {os tl : Os} {k : Nat} {g g' : Option (List PyData)} : (os.set k g' ++ tl).take (os.set k g ++ tl).length = os.set k g' ++ tl := by
  rw [List.take_of_length_le (by simp)]
theorem app_take1 {os tl : Os} {k : Nat} {g' : Option (List PyData)} : (os.set k g' ++ tl).take (os.length + tl.length) = os.set k g' ++ tl := by
  rw [List.take_of_length_le (by simp)]
theorem rand_app {os tl : Os} {k : Nat} {g : List PyData} {B : Int} (L : Int) (hk : k < os.length) (hg : GenL g B) (hB : B < 2 ^ 50) (hL : 0 < L) (hL2 : L.natAbs < 2 ^ 100) :
    ∃ r g', m_law_random [.o k, .d (.int L)] (os.set k (some g) ++ tl) = some (.int r, os.set k (some g') ++ tl) ∧ GenL g' (B + 5) ∧ 0 ≤ r ∧ r < L := by
  obtain ⟨r, g', h1, h2, h3⟩ := rand_ok (L := L) (app_at (tl := tl) hk) hg hB hL hL2
  rw [app_set hk] at h1
  exact ⟨r, g', h1, h2, h3⟩
theorem ixD_mem {c : List PyData} {r : Int} (h0 : 0 ≤ r) (h1 : r < c.length) : ∃ x ∈ c, ixD (.list c) (.int r) = some x := by
  have h2 : r.toNat < c.length := by omega
  refine ⟨c[r.toNat], List.getElem_mem h2, ?_⟩
  have h3 := ixD_list (c := c) (i := r.toNat) (x := c[r.toNat]) (by simp [h2])
  rw [Int.toNat_of_nonneg h0] at h3
  exact h3
def Kd (x : Str) : Prop := x = "over" ∨ x = "into" ∨ x = "whole"
/-- helping tops of a room -/
structure Tops (ts : List Int) (M : Int) : Prop where
  asc : ts.Pairwise (· < ·)
  low : ∀ t ∈ ts, 1 ≤ t
  top : ∀ t ∈ ts, t ≤ M
  few : ts.length ≤ 30
theorem tops_run {os tl : Os} {k : Nat} : ∀ (items : List Int) (acc : List PyData) (g : List PyData) (B : Int), k < os.length → GenL g B → B + 5 * items.length < 2 ^ 50 → acc.length + items.length < 1000 →
    ∃ g' ts, lcRun (gNm 3) (xBool (xOp ltD (xFn m_law_random (xaO 0 (xaD (xVar 1) xaNil))) (xVar 2))) (xVar 3) [.o k, .d (.int 9), .d (.int 2), .u] (items.map .int) acc (os.set k (some g) ++ tl) = some (acc ++ ts.map .int, os.set k (some g') ++ tl) ∧ GenL g' (B + 5 * items.length) ∧ List.Sublist ts items
  | [], acc, g, B, hk, hg, hB, _ => ⟨g, [], by simp [lcRun], by simpa using hg, List.Sublist.refl _⟩
  | i :: r, acc, g, B, hk, hg, hB, hl => by
    rw [List.length_cons] at hB hl
    obtain ⟨x, g1, h1, h2, h3, h4⟩ := rand_app (tl := tl) 9 hk hg (by omega) (by decide) (by decide)
    have c1 : xBool (xOp ltD (xFn m_law_random (xaO 0 (xaD (xVar 1) xaNil))) (xVar 2)) [.o k, .d (.int 9), .d (.int 2), .d (.int i)] (os.set k (some g) ++ tl) = some (decide (x < 2), os.set k (some g1) ++ tl) := by
      simp -implicitDefEqProofs [h1]
    have hz : acc.length < sizeLine := by
      rw [DL.sizeLine_eq]
      omega
    by_cases hx : x < 2
    · obtain ⟨g', ts, q1, q2, q3⟩ := tops_run (tl := tl) r (acc ++ [.int i]) g1 (B + 5) hk h2 (by omega) (by simp; omega)
      refine ⟨g', i :: ts, ?_, q2.mono (by rw [List.length_cons]; omega), q3.cons_cons i⟩
      simp -implicitDefEqProofs only [List.map_cons, lcRun, a_nm, List.set_cons_succ, List.set_cons_zero, Option.bind_some, c1, hx, decide_true, if_true]
      simp -implicitDefEqProofs [hz, q1]
    · obtain ⟨g', ts, q1, q2, q3⟩ := tops_run (tl := tl) r acc g1 (B + 5) hk h2 (by omega) (by omega)
      refine ⟨g', ts, ?_, q2.mono (by rw [List.length_cons]; omega), q3.cons i⟩
      simp -implicitDefEqProofs only [List.map_cons, lcRun, a_nm, List.set_cons_succ, List.set_cons_zero, Option.bind_some, c1, hx, decide_false, Bool.false_eq_true, if_false, q1]
theorem tops_ok {os tl : Os} {k : Nat} {g : List PyData} {B : Int} (hk : k < os.length) (hg : GenL g B) (hB : B < 2 ^ 40) : ∃ ts g', m_law_tops [.o k, .d (.int 9), .d (.int 2)] (os.set k (some g) ++ tl) = some (.list (ts.map .int), os.set k (some g') ++ tl) ∧ GenL g' (B + 45) ∧ Tops ts 9 := by
  obtain ⟨g', ts, q1, q2, q3⟩ := tops_run (tl := tl) [1, 2, 3, 4, 5, 6, 7, 8, 9] [] g B hk hg (by simp; omega) (by decide)
  refine ⟨ts, g', ?_, q2.mono (by simp), ?_⟩
  · unfold m_law_tops
    rw [m_3]
    have r1 : iRg (xaD (xC (.int 1)) (xaD (xOp addD (xVar 1) (xC (.int 1))) xaNil)) [.o k, .d (.int 9), .d (.int 2), .u] (os.set k (some g) ++ tl) = some (([1, 2, 3, 4, 5, 6, 7, 8, 9] : List Int).map .int, os.set k (some g) ++ tl) := by
      unfold iRg
      simp -implicitDefEqProofs [rangeD]
      rfl
    have r2 : wipeR [.o k, .d (.int 9), .d (.int 2), .u] [3] = [.o k, .d (.int 9), .d (.int 2), .u] := rfl
    simp -implicitDefEqProofs only [b_law_tops, List.reduceReplicate, Nat.reduceSub, a_ret, a_F, lcD, r1, Option.bind_some, r2, q1]
    simp -implicitDefEqProofs [app_take0, app_take1]
  · refine ⟨?_, fun t ht => ?_, fun t ht => ?_, ?_⟩
    · exact List.Pairwise.sublist q3 (by decide)
    · have := q3.subset ht
      simp at this
      omega
    · have := q3.subset ht
      simp at this
      omega
    · exact Nat.le_trans q3.length_le (by decide)
def roomD (c e : Int) (ts : List Int) : PyData := .tuple [.int c, .int e, .list (ts.map .int)]
structure Rm (c e : Int) (ts : List Int) : Prop where
  c0 : 0 ≤ c
  c1 : c < 10000000000
  e0 : 0 ≤ e
  e1 : e < 60
  tops : Tops ts 10000000000000000000000000
theorem room_ok {os tl : Os} {k : Nat} {g : List PyData} {B : Int} (hk : k < os.length) (hg : GenL g B) (hB : B < 2 ^ 30) : ∃ c e ts g', m_law_room [.o k, .d (.int 9)] (os.set k (some g) ++ tl) = some (roomD c e ts, os.set k (some g') ++ tl) ∧ GenL g' (B + 55) ∧ Rm c e ts := by
  obtain ⟨c, g1, h1, h2, h3, h4⟩ := rand_app (tl := tl) 3 hk hg (by omega) (by decide) (by decide)
  obtain ⟨e, g2, h5, h6, h7, h8⟩ := rand_app (tl := tl) 3 hk h2 (by omega) (by decide) (by decide)
  obtain ⟨ts, g3, h9, h10, h11⟩ := tops_ok (tl := tl) hk h6 (by omega)
  refine ⟨c, e, ts, g3, ?_, h10.mono (by omega), ⟨h3, by omega, h7, by omega, ⟨h11.asc, h11.low, fun t ht => Int.le_trans (h11.top t ht) (by decide), h11.few⟩⟩⟩
  unfold m_law_room
  rw [m_2]
  simp -implicitDefEqProofs [b_law_room, h1, h5, h9, app_take1, roomD]
theorem powD_10_6 : powD (.int 10) (.int 6) = some (.int 1000000) := (powD_ok (p := 40) (by decide) (by decide) (by decide)).trans (some_int (by decide))
theorem powD_10_24 : powD (.int 10) (.int 24) = some (.int 1000000000000000000000000) := (powD_ok (p := 40) (by decide) (by decide) (by decide)).trans (some_int (by decide))
theorem powD_10_10 : powD (.int 10) (.int 10) = some (.int 10000000000) := (powD_ok (p := 40) (by decide) (by decide) (by decide)).trans (some_int (by decide))
theorem ixD_ints {ns : List Int} {r : Int} (h0 : 0 ≤ r) (h1 : r < ns.length) : ∃ x ∈ ns, ixD (.list (ns.map .int)) (.int r) = some (.int x) := by
  obtain ⟨d, h2, h3⟩ := ixD_mem (c := ns.map .int) h0 (by simpa using h1)
  obtain ⟨x, h4, rfl⟩ := List.mem_map.mp h2
  exact ⟨x, h4, h3⟩
/-- a draw below a drawn limit of three -/
theorem pick_ok {os tl : Os} {k : Nat} {g : List PyData} {B : Int} (a b c M : Int) (hk : k < os.length) (hg : GenL g B) (hB : B < 2 ^ 45) (ha : 0 < a ∧ a ≤ M) (hb : 0 < b ∧ b ≤ M) (hc : 0 < c ∧ c ≤ M) (hM : M < 2 ^ 99) :
    ∃ r L x g1 g', m_law_random [.o k, .d (.int 3)] (os.set k (some g) ++ tl) = some (.int r, os.set k (some g1) ++ tl) ∧ ixD (.list [.int a, .int b, .int c]) (.int r) = some (.int L) ∧ m_law_random [.o k, .d (.int L)] (os.set k (some g1) ++ tl) = some (.int x, os.set k (some g') ++ tl) ∧ GenL g' (B + 10) ∧ 0 ≤ x ∧ x < M := by
  obtain ⟨r, g1, h1, h2, h3, h4⟩ := rand_app (tl := tl) 3 hk hg (by omega) (by decide) (by decide)
  obtain ⟨L, hL, h5⟩ := ixD_ints (ns := [a, b, c]) h3 (by simpa using h4)
  have hL2 : 0 < L ∧ L ≤ M := by
    simp only [List.mem_cons, List.not_mem_nil, or_false] at hL
    rcases hL with h | h | h <;> rw [h] <;> assumption
  obtain ⟨x, g', h6, h7, h8, h9⟩ := rand_app (tl := tl) L hk h2 (by omega) hL2.1 (by omega)
  exact ⟨r, L, x, g1, g', h1, h5, h6, h7.mono (by omega), h8, by omega⟩
theorem great_loop {os : Os} {k : Nat} : ∀ (items : List PyData) (y : Sl) (g : List PyData) (B : Int) (ts : List Int) (h : Int), k < os.length → GenL g B → B + 10 * items.length < 2 ^ 45 → ts.length + items.length ≤ 8 →
    ts.Pairwise (· < ·) → (∀ t ∈ ts, 1 ≤ t ∧ t ≤ h) → 0 ≤ h → h ≤ 1000000000000000000000001 * ts.length →
    ∃ (y' : Sl) (g' : List PyData) (ts' : List Int) (h' : Int), forRun (gNm 1) ((sSeq (sAsg (xOp addD (xOp addD (xVar 3) (xC (.int 1))) (xFn m_law_random (xaO 0 (xaD (xOp ixD (xCall lstD (xaD (xC (.int 10)) (xaD (xOp powD (xC (.int 10)) (xC (.int 6))) (xaD (xOp powD (xC (.int 10)) (xC (.int 24))) xaNil)))) (xFn m_law_random (xaO 0 (xaD (xC (.int 3)) xaNil)))) xaNil)))) (gNm 3))
  (sApp 2 (xVar 3)))) items [.o k, y, .o os.length, .d (.int h)] (os.set k (some g) ++ [some (ts.map .int)]) = some (.nx [.o k, y', .o os.length, .d (.int h')] (os.set k (some g') ++ [some (ts'.map .int)])) ∧ GenL g' (B + 10 * items.length) ∧ ts'.length ≤ 8 ∧ ts'.Pairwise (· < ·) ∧ (∀ t ∈ ts', 1 ≤ t ∧ t ≤ 1000000000000000000000001 * 8)
  | [], y, g, B, ts, h, hk, hg, hB, hl, a1, a2, a3, a4 => ⟨y, g, ts, h, rfl, by simpa using hg, by simpa using hl, a1, fun t ht => by
      have := a2 t ht
      simp at hl
      omega⟩
  | d :: r, y, g, B, ts, h, hk, hg, hB, hl, a1, a2, a3, a4 => by
    rw [List.length_cons] at hB hl
    obtain ⟨r1, L, x, g1, g2, h1, h2, h3, h4, h5, h6⟩ := pick_ok (tl := [some (ts.map .int)]) 10 1000000 1000000000000000000000000 1000000000000000000000000 hk hg (by omega) (by decide) (by decide) (by decide) (by decide)
    obtain ⟨y', g', ts', h', q1, q2, q3, q4, q5⟩ := great_loop (os := os) (k := k) r (.d d) g2 (B + 10) (ts ++ [h + 1 + x]) (h + 1 + x) hk h4 (by omega) (by simp; omega) (by
        rw [List.pairwise_append]
        refine ⟨a1, by simp, fun s hs t ht => ?_⟩
        simp at ht
        have := a2 s hs
        omega) (fun t ht => by
        rw [List.mem_append] at ht
        rcases ht with ht | ht
        · have := a2 t ht
          omega
        · simp at ht
          omega) (by omega) (by simp; omega)
    refine ⟨y', g', ts', h', ?_, q2.mono (by rw [List.length_cons]; omega), q3, q4, q5⟩
    have s1 : sAsg (xOp addD (xOp addD (xVar 3) (xC (.int 1))) (xFn m_law_random (xaO 0 (xaD (xOp ixD (xCall lstD (xaD (xC (.int 10)) (xaD (xOp powD (xC (.int 10)) (xC (.int 6))) (xaD (xOp powD (xC (.int 10)) (xC (.int 24))) xaNil)))) (xFn m_law_random (xaO 0 (xaD (xC (.int 3)) xaNil)))) xaNil)))) (gNm 3) [.o k, .d d, .o os.length, .d (.int h)] (os.set k (some g) ++ [some (ts.map .int)]) = some (.nx [.o k, .d d, .o os.length, .d (.int (h + 1 + x))] (os.set k (some g2) ++ [some (ts.map .int)])) := by
      simp -implicitDefEqProofs [powD_10_6, powD_10_24, h1, h2, h3]
    have s2 : sApp 2 (xVar 3) [.o k, .d d, .o os.length, .d (.int (h + 1 + x))] (os.set k (some g2) ++ [some (ts.map .int)]) = some (.nx [.o k, .d d, .o os.length, .d (.int (h + 1 + x))] (os.set k (some g2) ++ [some ((ts ++ [h + 1 + x]).map .int)])) := by
      have o1 : ownAt [.o k, .d d, .o os.length, .d (.int (h + 1 + x))] (os.set k (some g2) ++ [some (ts.map .int)]) 2 = some (os.length, ts.map .int) := by
        refine ownAt_o rfl ?_
        rw [List.getElem?_append_right (by simp)]
        simp
      have o2 : (ts.map PyData.int).length < sizeLine := by
        rw [DL.sizeLine_eq, List.length_map]
        omega
      unfold sApp
      rw [o1, Option.bind_some]
      simp -implicitDefEqProofs only [a_var, List.getElem?_cons_succ, List.getElem?_cons_zero, slD_d, Option.map_some, Option.bind_some, o1, o2, if_true]
      rw [List.set_append_right _ _ (by simp)]
      simp
    simp -implicitDefEqProofs only [forRun, a_nm, List.set_cons_succ, List.set_cons_zero, Option.bind_some, a_seq, s1, s2, q1]
theorem great_ok {os : Os} {k : Nat} {g : List PyData} {B : Int} (hk : k < os.length) (hg : GenL g B) (hB : B < 2 ^ 30) : ∃ c e ts g', m_law_great [.o k] (os.set k (some g)) = some (roomD c e ts, os.set k (some g')) ∧ GenL g' (B + 200) ∧ Rm c e ts := by
  have e0 : os.set k (some g) = os.set k (some g) ++ [] := by simp
  obtain ⟨n, g1, h1, h2, h3, h4⟩ := rand_app (os := os) (tl := [some []]) 8 hk hg (by omega) (by decide) (by decide)
  obtain ⟨y', g2, ts, h', q1, q2, q3, q4, q5⟩ := great_loop (os := os) (rangeD 0 n.toNat) .u g1 (B + 5) [] 0 hk h2 (by rw [rangeD_len]; omega) (by rw [rangeD_len]; simp; omega) .nil (by simp) (by decide) (by simp)
  rw [rangeD_len] at q2
  obtain ⟨r1, L1, c, g3, g4, c1, c2, c3, c4, c5, c6⟩ := pick_ok (os := os) (tl := [none]) 4 1000000 10000000000 10000000000 hk q2 (by omega) (by decide) (by decide) (by decide) (by decide)
  obtain ⟨r2, L2, e, g5, g6, e1, e2, e3, e4, e5, e6⟩ := pick_ok (os := os) (tl := [none]) 4 12 60 60 hk c4 (by omega) (by decide) (by decide) (by decide) (by decide)
  refine ⟨c, e, ts, g6, ?_, e4.mono (by omega), ⟨c5, c6, e5, e6, ⟨q4, fun t ht => (q5 t ht).1, fun t ht => by
    have := q5 t ht
    omega, by omega⟩⟩⟩
  unfold m_law_great
  rw [m_1]
  have f0 : fLst xaNil [.o k, .u, .u, .u] (os.set k (some g)) = some ([], os.set k (some g)) := by
    unfold fLst
    simp -implicitDefEqProofs [sizeLine]
  have s0 : sParO 2 3 (fLst xaNil) (xC (.int 0)) [.o k, .u, .u, .u] (os.set k (some g)) = some (.nx [.o k, .u, .o os.length, .d (.int 0)] (os.set k (some g) ++ [some []])) := by
    simp -implicitDefEqProofs only [a_parO, f0, Option.bind_some, a_c, Option.map_some, List.set_cons_succ, List.set_cons_zero, List.length_set]
  have r0 : iRg (xaD (xFn m_law_random (xaO 0 (xaD (xC (.int 8)) xaNil))) xaNil) [.o k, .u, .o os.length, .d (.int 0)] (os.set k (some g) ++ [some []]) = some (rangeD 0 n.toNat, os.set k (some g1) ++ [some []]) := by
    refine rg1_ok ?_ (by omega) (by omega)
    simp -implicitDefEqProofs [h1]
  have o1 : ownAt [.o k, y', .o os.length, .d (.int h')] (os.set k (some g2) ++ [some (ts.map .int)]) 2 = some (os.length, ts.map .int) := by
    refine ownAt_o rfl ?_
    rw [List.getElem?_append_right (by simp)]
    simp
  have f1 : (os.set k (some g2) ++ [some (ts.map PyData.int)]).set os.length none = os.set k (some g2) ++ [none] := by
    rw [List.set_append_right _ _ (by simp)]
    simp
  simp only [List.map_nil] at q1
  simp -implicitDefEqProofs only [b_law_great, List.reduceReplicate, Nat.reduceSub, a_seq, s0, Option.bind_some, a_for, r0, q1, sFrz, o1, f1, List.set_cons_succ, List.set_cons_zero]
  simp -implicitDefEqProofs [powD_10_6, powD_10_10, c1, c2, c3, e1, e2, e3, roomD]
end Lw

set_option Elab.async false
set_option linter.all false
set_option maxRecDepth 100000
set_option maxHeartbeats 4000000
set_option exponentiation.threshold 3000
namespace Lw
open PySem PySem.Spec PyProof.Rows L2 Evl DL

/-! ### checks -/
theorem whole_int {i : Int} {os : Os} : m_is_whole [.d (.int i)] os = some (.bool true, os) := by
  unfold m_is_whole
  rw [m_1]
  simp -implicitDefEqProofs [b_is_whole]
theorem whole_bool {b : Bool} {os : Os} : m_is_whole [.d (.bool b)] os = some (.bool false, os) := by
  unfold m_is_whole
  rw [m_1]
  simp -implicitDefEqProofs [b_is_whole]
theorem whole_none {os : Os} : m_is_whole [.d .none] os = some (.bool false, os) := by
  unfold m_is_whole
  rw [m_1]
  simp -implicitDefEqProofs [b_is_whole]
theorem whole_str {x : Str} {os : Os} : m_is_whole [.d (.str x)] os = some (.bool false, os) := by
  unfold m_is_whole
  rw [m_1]
  simp -implicitDefEqProofs [b_is_whole]
theorem whole_list {x : List PyData} {os : Os} : m_is_whole [.d (.list x)] os = some (.bool false, os) := by
  unfold m_is_whole
  rw [m_1]
  simp -implicitDefEqProofs [b_is_whole]
theorem from_int {i j : Int} {os : Os} : m_is_from [.d (.int i), .d (.int j)] os = some (.bool (decide (i ≥ j)), os) := by
  unfold m_is_from
  rw [m_2]
  simp -implicitDefEqProofs [b_is_from, whole_int]
theorem check_from_ok {i j : Int} {os : Os} (h : i ≥ j) : m_check_from [.d (.int i), .d (.int j)] os = some (.none, os) := by
  unfold m_check_from
  rw [m_2]
  simp -implicitDefEqProofs [b_check_from, from_int, h]
theorem inKinds {x : Str} (h : Kd x) : inD false (.str x) (.tuple c_KINDS) = some (.bool true) := by
  have e : strsOf c_KINDS = some (["over", "into", "whole"] : List Str) := rfl
  have hm : x ∈ (["over", "into", "whole"] : List Str) := by
    rcases h with h | h | h <;> rw [h] <;> simp
  have e1 : inS false (.str x) (.tuple c_KINDS) = some (.bool true) := by
    unfold inS
    simp only
    rw [e]
    simp only [Option.map_some, Bool.false_eq_true, if_false, hm, decide_true]
  unfold inD
  rw [e1]
theorem kind_check {x : Str} {os : Os} (h : Kd x) : m_check_kind [.d (.str x)] os = some (.none, os) := by
  have h1 : m_is_kind [.d (.str x)] os = some (.bool true, os) := by
    unfold m_is_kind
    rw [m_1]
    simp -implicitDefEqProofs [b_is_kind, inKinds h]
  unfold m_check_kind
  rw [m_1]
  simp -implicitDefEqProofs [b_check_kind, h1]
def pairD (p : Int × Int) : PyData := .tuple [.int p.1, .int p.2]
theorem zip_ints (a b : List Int) : zipD (a.map .int) (b.map .int) = (a.zip b).map pairD := by
  unfold zipD
  rw [List.zip_map]
  simp [pairD, Function.comp_def]
theorem cut_tail {α : Type} (xs : List α) : DL.cutD xs (some 1) none = xs.tail := by
  unfold DL.cutD
  rw [HT.sIx_none]
  have e : HT.sIx xs.length 0 (some 1) = min 1 xs.length := HT.sIx_nat xs.length 0 1
  rw [e]
  cases xs with
  | nil => rfl
  | cons x r => simp
theorem zip_tail {ρ : List Sl} {os : Os} {xe : XE} {ns : List Int} (h : xe ρ os = some (.list (ns.map .int), os)) : iZp (xaD xe (xaD (xF (xSl xe (oSome (xC (.int 1))) oNone)) xaNil)) ρ os = some ((ns.zip ns.tail).map pairD, os) := by
  simp -implicitDefEqProofs [h, cut_tail]
  rw [← List.map_tail, zip_ints]
theorem zip_asc : ∀ {ts : List Int}, ts.Pairwise (· < ·) → ∀ p ∈ ts.zip ts.tail, p.1 < p.2
  | [], _, p, hp => by simp at hp
  | [a], _, p, hp => by simp at hp
  | a :: b :: r, h, p, hp => by
    rw [List.tail_cons, List.zip_cons_cons, List.mem_cons] at hp
    rcases hp with hp | hp
    · subst hp
      exact (List.pairwise_cons.mp h).1 b (by simp)
    · exact zip_asc (List.pairwise_cons.mp h).2 p hp
theorem small {n : Nat} (h : n ≤ 1000) : n ≤ sizeLine := by
  rw [DL.sizeLine_eq]
  omega
theorem tops_check {ts : List Int} {M : Int} {os : Os} (h : Tops ts M) : m_are_tops [.d (.list (ts.map .int))] os = some (.bool true, os) := by
  unfold m_are_tops
  rw [m_1]
  have c1 : lcD (iLst (xVar 0)) (gNm 3) xYes (xFn m_is_from (xaD (xVar 3) (xaD (xC (.int 1)) xaNil))) [3] [.d (.list (ts.map .int)), .u, .u, .u] os = some ((ts.map fun t => decide (t ≥ 1)).map .bool, os) := by
    rw [lcD_all (l := ts) (f := .int) (h := fun t => .bool (decide (t ≥ 1)))]
    · simp
    · simp -implicitDefEqProofs
    · intro t ht
      refine ⟨[.d (.list (ts.map .int)), .u, .u, .d (.int t)], rfl, ?_⟩
      simp -implicitDefEqProofs [from_int]
    · exact small (by have := h.few; omega)
  have c2 : lcD (iZp (xaD (xVar 0) (xaD (xF (xSl (xVar 0) (oSome (xC (.int 1))) oNone)) xaNil))) (gTp 2 (gsCons (gNm 1) (gsCons (gNm 2) gsNil))) xYes (xOp ltD (xVar 1) (xVar 2)) [1, 2] [.d (.list (ts.map .int)), .u, .u, .u] os = some (((ts.zip ts.tail).map fun p => decide (p.1 < p.2)).map .bool, os) := by
    rw [lcD_all (l := ts.zip ts.tail) (f := pairD) (h := fun p => .bool (decide (p.1 < p.2)))]
    · simp
    · exact zip_tail rfl
    · intro p hp
      refine ⟨[.d (.list (ts.map .int)), .d (.int p.1), .d (.int p.2), .u], rfl, ?_⟩
      simp -implicitDefEqProofs
    · refine small ?_
      have := h.few
      rw [List.length_zip]
      omega
  have a1 : (ts.map fun t => decide (t ≥ 1)).all id = true := by
    simp
    intro t ht
    exact h.low t ht
  have a2 : ((ts.zip ts.tail).map fun p => decide (p.1 < p.2)).all id = true := by
    rw [List.all_eq_true]
    intro b hb
    obtain ⟨p, hp, rfl⟩ := List.mem_map.mp hb
    have := zip_asc h.asc p hp
    simpa using this
  simp -implicitDefEqProofs only [b_are_tops, List.reduceReplicate, Nat.reduceSub, a_seq, a_sIf, a_orT, a_notT, a_truth, a_un, a_var, List.getElem?_cons_zero, slD_d, Option.map_some, Option.bind_some, i_list_list, truthD_bool, Bool.not_true, Bool.false_eq_true, if_false, a_call, a_d, a_F, c1, c2, a_nil, datas_d, datas_nil, allD_bools, a1, a2, a_next, a_ret, outM_rt]
  simp
theorem check_tops_ok {ts : List Int} {M : Int} {os : Os} (h : Tops ts M) : m_check_tops [.d (.list (ts.map .int))] os = some (.none, os) := by
  unfold m_check_tops
  rw [m_1]
  simp -implicitDefEqProofs [b_check_tops, tops_check h]
/-- a room of numbers that may be great -/
structure Rn (c e : Int) (ts : List Int) : Prop where
  c0 : 0 ≤ c
  c1 : c < 2 ^ 200
  e0 : 0 ≤ e
  e1 : e < 300
  tops : Tops ts 10000000000000000000000000
theorem room_check {c e : Int} {ts : List Int} {os : Os} (h : Rn c e ts) : m_check_room [.d (roomD c e ts)] os = some (.none, os) := by
  have h0 : m_is_tuple_of [.d (roomD c e ts), .d (.int 3)] os = some (.bool true, os) := by
    unfold m_is_tuple_of
    rw [m_2]
    simp -implicitDefEqProofs [b_is_tuple_of, roomD, eqD, SeqAt.shaped, PyData.canLay0, PyData.depth, PyData.eqv]
  have h1 : m_is_room [.d (roomD c e ts)] os = some (.bool true, os) := by
    unfold m_is_room
    rw [m_1]
    have c0 := h.c0
    have e0 := h.e0
    have h2 : gTp 3 (gsCons (gNm 1) (gsCons (gNm 2) (gsCons (gNm 3) gsNil))) (roomD c e ts) [.d (roomD c e ts), .u, .u, .u] = some [.d (roomD c e ts), .d (.int c), .d (.int e), .d (.list (ts.map .int))] := rfl
    simp -implicitDefEqProofs [b_is_room, h0, h2, from_int, c0, e0, tops_check h.tops]
  unfold m_check_room
  rw [m_1]
  simp -implicitDefEqProofs [b_check_room, h1]
theorem run_check {k : Str} {c e n : Int} {ts : List Int} {os : Os} (hk : Kd k) (h : Rn c e ts) (hn : 1 ≤ n) : m_check_run [.d (.str k), .d (roomD c e ts), .d (.int n)] os = some (.none, os) := by
  unfold m_check_run
  rw [m_3]
  simp -implicitDefEqProofs [b_check_run, kind_check hk, room_check h, check_from_ok (show n ≥ 1 from hn)]
end Lw

set_option Elab.async false
set_option linter.all false
set_option maxRecDepth 100000
set_option maxHeartbeats 4000000
set_option exponentiation.threshold 3000
namespace Lw
open PySem PySem.Spec PyProof.Rows L2 Evl DL

/-! ### the bound, the marks, the stretches -/
def bnd (k : Str) (c e : Int) : Int := if k = "into" then (if e > 0 then (c + 1) * 2 ^ (e - 1).toNat else 0) else (c + 1) * 2 ^ e.toNat
theorem pow_pos2 (n : Nat) : (0 : Int) < 2 ^ n := Int.pow_pos (by decide)
/-- as many times the free cells and one -/
def shr (k : Str) (e : Int) : Int := if k = "into" then (if e > 0 then 2 ^ (e - 1).toNat else 0) else 2 ^ e.toNat
theorem bnd_shr {k : Str} {c e : Int} : bnd k c e = (c + 1) * shr k e := by
  unfold bnd shr
  split
  · split
    · rfl
    · rw [Int.mul_zero]
  · rfl
theorem beside_ok {k : Str} {c e : Int} {ts : List Int} {os : Os} (h : Rn c e ts) : m_bound_beside [.d (.str k), .d (.int c), .d (.int e)] os = some (.int (bnd k c e), os) := by
  unfold m_bound_beside
  rw [m_3]
  have c0 := h.c0
  have c1 := h.c1
  have e0 := h.e0
  have e1 := h.e1
  have s1 : ∀ x : Int, 0 ≤ x → x < 300 → shlD (.int (c + 1)) (.int x) = some (.int ((c + 1) * 2 ^ x.toNat)) := fun x h1 h2 => shlD_ok (p := 201) h1 (by omega) (by omega)
  unfold bnd
  by_cases hk : k = "into"
  · by_cases he : e > 0
    · simp -implicitDefEqProofs [b_bound_beside, hk, he, s1 (e - 1) (by omega) (by omega)]
    · simp -implicitDefEqProofs [b_bound_beside, hk, he]
  · simp -implicitDefEqProofs [b_bound_beside, hk, s1 e e0 e1]
theorem pow_lt300 {e : Int} (h0 : 0 ≤ e) (h : e < 300) : ((2 : Int) ^ e.toNat).natAbs < 2 ^ 300 := by
  have h1 : (2 : Nat) ^ e.toNat < 2 ^ 300 := Nat.pow_lt_pow_right (by decide) (by omega)
  rw [Int.natAbs_pow]
  exact h1
theorem bound_ok {k : Str} {c e : Int} {ts : List Int} {os : Os} (h : Rn c e ts) : m_bound_of [.d (.str k), .d (roomD c e ts)] os = some (.int (bnd k c e), os) := by
  unfold m_bound_of
  rw [m_2]
  have h2 : gTp 3 (gsCons (gNm 2) (gsCons (gNm 3) (gsCons (gNm 4) gsNil))) (roomD c e ts) [.d (.str k), .d (roomD c e ts), .u, .u, .u] = some [.d (.str k), .d (roomD c e ts), .d (.int c), .d (.int e), .d (.list (ts.map .int))] := rfl
  simp -implicitDefEqProofs [b_bound_of, h2, beside_ok h]
def mk (ts : List Int) (n : Int) : List Int := 0 :: (ts.filter (fun t => decide (t < n)) ++ [n])
def stch (ts : List Int) (n : Int) : List (Int × Int) := (mk ts n).zip (mk ts n).tail
theorem mk_len {ts : List Int} {n M : Int} (h : Tops ts M) : (mk ts n).length ≤ 32 := by
  have h1 := h.few
  have h2 := List.length_filter_le (fun t => decide (t < n)) ts
  simp only [mk, List.length_cons, List.length_append, List.length_nil]
  omega
theorem marks_run {ts : List Int} {n M : Int} {ρ : List Sl} {os : Os} {j : Nat} (h : Tops ts M) (h0 : ρ[0]? = some (.d (.list (ts.map .int)))) (hj : j < ρ.length) (h1 : ∀ t : Int, slD ((wipeR ρ [j]).set j (.d (.int t)))[1]? = some (.int n)) :
    xOp addD (xOp addD (xCall lstD (xaD (xC (.int 0)) xaNil)) (xF (lcD (iLst (xVar 0)) (gNm j) (xBool (xOp ltD (xVar j) (xVar 1))) (xVar j) [j]))) (xCall lstD (xaD (xVar 1) xaNil)) ρ os = (slD ρ[1]?).bind fun d => some (.list (.int 0 :: ((ts.filter (fun t => decide (t < n))).map .int ++ [d])), os) := by
  have c1 : lcD (iLst (xVar 0)) (gNm j) (xBool (xOp ltD (xVar j) (xVar 1))) (xVar j) [j] ρ os = some ((ts.filter (fun t => decide (t < n))).map .int, os) := by
    refine lcD_pure (l := ts) (f := .int) (h := .int) ?_ ?_ ?_
    · simp -implicitDefEqProofs [h0]
    · intro t ht
      have hg : ((wipeR ρ [j]).set j (.d (.int t)))[j]? = some (.d (.int t)) := by
        rw [List.getElem?_set_self (by simpa [wipeR] using hj)]
      refine ⟨_, rfl, ?_, fun _ => ?_⟩
      · simp -implicitDefEqProofs only [a_bool, a_op, a_var, hg, h1, slD_d, Option.map_some, Option.bind_some, ltD_int, boolOf_bool]
      · simp -implicitDefEqProofs only [a_var, hg, slD_d, Option.map_some]
    · exact small (by have := h.few; omega)
  have l1 := h.few
  have l2 := List.length_filter_le (fun t => decide (t < n)) ts
  have z1 : addD (.list [.int 0]) (.list ((ts.filter (fun t => decide (t < n))).map .int)) = some (.list ([.int 0] ++ (ts.filter (fun t => decide (t < n))).map .int)) := addD_list (small (by simp; omega))
  simp -implicitDefEqProofs only [a_op, a_call, a_d, a_c, a_nil, a_F, c1, Option.map_some, Option.bind_some, datas_d, datas_nil, lstD_1, z1, a_var]
  cases slD ρ[1]? with
  | none => rfl
  | some d =>
    have z2 : addD (.list ([.int 0] ++ (ts.filter (fun t => decide (t < n))).map .int)) (.list [d]) = some (.list ([.int 0] ++ (ts.filter (fun t => decide (t < n))).map .int ++ [d])) := addD_list (small (by simp; omega))
    simp -implicitDefEqProofs only [Option.map_some, Option.bind_some, datas_d, datas_nil, lstD_1, z2]
    simp
theorem marks_ok {ts : List Int} {n M : Int} {os : Os} (h : Tops ts M) : m_marks_of [.d (.list (ts.map .int)), .d (.int n)] os = some (.list ((mk ts n).map .int), os) := by
  unfold m_marks_of
  rw [m_2]
  have q := marks_run (n := n) (ρ := [.d (.list (ts.map .int)), .d (.int n), .u]) (os := os) (j := 2) h rfl (by simp) (fun t => rfl)
  simp -implicitDefEqProofs only [b_marks_of, List.reduceReplicate, Nat.reduceSub, a_ret, q]
  simp [mk]
theorem stretches_ok {ts : List Int} {n M : Int} {os : Os} (h : Tops ts M) : m_stretches_of [.d (.list (ts.map .int)), .d (.int n)] os = some (.list ((stch ts n).map pairD), os) := by
  unfold m_stretches_of
  rw [m_2]
  have c1 : lcD (iZp (xaD (xVar 2) (xaD (xF (xSl (xVar 2) (oSome (xC (.int 1))) oNone)) xaNil))) (gTp 2 (gsCons (gNm 3) (gsCons (gNm 4) gsNil))) xYes (xCall tupD (xaD (xVar 3) (xaD (xVar 4) xaNil))) [3, 4] [.d (.list (ts.map .int)), .d (.int n), .d (.list ((mk ts n).map .int)), .u, .u] os = some ((stch ts n).map pairD, os) := by
    refine lcD_all (l := stch ts n) (f := pairD) (h := pairD) ?_ ?_ ?_
    · exact zip_tail rfl
    · intro p hp
      refine ⟨[.d (.list (ts.map .int)), .d (.int n), .d (.list ((mk ts n).map .int)), .d (.int p.1), .d (.int p.2)], rfl, ?_⟩
      simp -implicitDefEqProofs [pairD]
    · refine small ?_
      have := mk_len (n := n) h
      unfold stch
      rw [List.length_zip]
      omega
  simp -implicitDefEqProofs [b_stretches_of, marks_ok h, c1]
theorem range0 {n : Nat} : rangeD 0 n = (List.range n).map fun i : Nat => PyData.int (i : Int) := by
  unfold rangeD
  congr 1
  funext i
  rw [Int.zero_add]
theorem pairs_range (m : List Int) : (List.range (m.length - 1)).map (fun i => pairD (m.getD i 0, m.getD (i + 1) 0)) = (m.zip m.tail).map pairD := by
  apply List.ext_getElem
  · simp
  · intro i h1 h2
    simp at h1
    have e1 : i < m.length := by omega
    have e2 : i + 1 < m.length := by omega
    simp [e1, e2]
end Lw

set_option Elab.async false
set_option linter.all false
set_option maxRecDepth 100000
set_option maxHeartbeats 4000000
set_option exponentiation.threshold 3000
namespace Lw
open PySem PySem.Spec PyProof.Rows L2 Evl DL

/-! ### texts -/
theorem text_inj {a b : Int} (h : Str.ofString (toString a) = Str.ofString (toString b)) : a = b := by
  have h1 : (Str.ofString (toString a)).cps.toList = (Str.ofString (toString b)).cps.toList := by rw [h]
  rw [signs_ofString, signs_ofString] at h1
  have h2 : (toString a).toList = (toString b).toList := by
    have inj : ∀ x y : Char, x.toNat = y.toNat → x = y := fun x y e => by
      apply Char.ext
      exact UInt32.toNat_inj.mp e
    exact (List.map_inj_right inj).mp h1
  exact Int.repr_injective (String.toList_inj.mp h2)
abbrev sh (d : PyData) : List Nat := d.shown.cps.toList
theorem sh_inj {d e : PyData} (h : sh d = sh e) : d.shown = e.shown := by
  have h1 : d.shown.cps = e.shown.cps := by
    rw [← Array.toArray_toList (xs := d.shown.cps), ← Array.toArray_toList (xs := e.shown.cps)]
    exact congrArg List.toArray h
  cases h2 : d.shown
  cases h3 : e.shown
  rw [h2, h3] at h1
  exact congrArg _ h1
theorem cps_app (a b : Str) : (a ++ b).cps.toList = a.cps.toList ++ b.cps.toList := by
  show (a.cps ++ b.cps).toList = _
  rw [Array.toList_append]
theorem len_app (a b : Str) : (a ++ b).length = a.length + b.length := strLen_append a b
theorem sg1 : ((",)" : String) : Str).cps.toList = [44, 41] := by decide
theorem sg2 : ((")" : String) : Str).cps.toList = [41] := by decide
theorem sh_pair (x y : PyData) : sh (.tuple [x, y]) = 40 :: (sh x ++ 44 :: 32 :: (sh y ++ [41])) := by
  show (PyData.tuple [x, y]).shown.cps.toList = _
  rw [PyData.shown_tuple, PyData.shownAll_cons, PyData.shownAll_cons, PyData.shownAll_nil]
  show (("(" : Str) ++ (x.shown ++ ", " ++ y.shown) ++ ((")" : String) : Str)).cps.toList = _
  rw [cps_app, cps_app, cps_app, cps_app, signs_lparen, signs_sep, sg2]
  simp
theorem sh_one (x : PyData) : sh (.tuple [x]) = 40 :: (sh x ++ [44, 41]) := by
  show (PyData.tuple [x]).shown.cps.toList = _
  rw [PyData.shown_tuple, PyData.shownAll_cons, PyData.shownAll_nil]
  show (("(" : Str) ++ x.shown ++ ((",)" : String) : Str)).cps.toList = _
  rw [cps_app, cps_app, signs_lparen, sg1]
  simp
theorem sh_three (x y z : PyData) : sh (.tuple [x, y, z]) = 40 :: (sh x ++ 44 :: 32 :: (sh y ++ 44 :: 32 :: (sh z ++ [41]))) := by
  show (PyData.tuple [x, y, z]).shown.cps.toList = _
  rw [PyData.shown_tuple, PyData.shownAll_cons, PyData.shownAll_cons, PyData.shownAll_cons, PyData.shownAll_nil]
  show (("(" : Str) ++ (x.shown ++ ", " ++ (y.shown ++ ", " ++ z.shown)) ++ ((")" : String) : Str)).cps.toList = _
  rw [cps_app, cps_app, cps_app, cps_app, cps_app, cps_app, signs_lparen, signs_sep, sg2]
  simp
theorem sh_list (xs : List PyData) : ∃ r, sh (.list xs) = 91 :: r := by
  refine ⟨(Str.join ", " (PyData.shownAll xs) ++ "]").cps.toList, ?_⟩
  show (PyData.list xs).shown.cps.toList = _
  rw [PyData.shown_list, cps_app, cps_app, cps_app, signs_lbrack]
  simp
theorem cut_eq {c : Nat} : ∀ {l1 l2 r1 r2 : List Nat}, c ∉ l1 → c ∉ l2 → l1 ++ c :: r1 = l2 ++ c :: r2 → l1 = l2 ∧ r1 = r2
  | [], [], _, _, _, _, h => ⟨rfl, (List.cons_inj_right c).mp h⟩
  | [], b :: l2, _, _, _, h2, h => by
    simp at h
    exact absurd h.1 (by intro e; exact h2 (by simp [e]))
  | a :: l1, [], _, _, h1, _, h => by
    simp at h
    exact absurd h.1 (by intro e; exact h1 (by simp [e]))
  | a :: l1, b :: l2, r1, r2, h1, h2, h => by
    simp only [List.cons_append, List.cons.injEq] at h
    obtain ⟨e1, e2⟩ := cut_eq (fun z => h1 (by simp [z])) (fun z => h2 (by simp [z])) h.2
    exact ⟨by rw [h.1, e1], e2⟩
theorem free_int {k : Nat} (hk : k ≠ 45 ∧ (k < 48 ∨ 57 < k)) (i : Int) : k ∉ sh (.int i) := shown_int_free' hk i
/-- a pair's text is that of a pair of numbers only if both are -/
theorem pair_text {x y : PyData} {p : Int × Int} (hx : 44 ∉ sh x) (h : sh (.tuple [x, y]) = sh (pairD p)) : sh x = sh (.int p.1) ∧ sh y = sh (.int p.2) := by
  unfold pairD at h
  rw [sh_pair, sh_pair] at h
  simp only [List.cons.injEq, true_and] at h
  obtain ⟨h1, h2⟩ := cut_eq hx (free_int (by decide) _) h
  refine ⟨h1, ?_⟩
  simp only [List.cons.injEq, true_and] at h2
  exact (List.append_inj_left' h2 rfl)
theorem int_text {a b : Int} (h : sh (.int a) = sh (.int b)) : a = b := by
  have := sh_inj h
  rw [PyData.shown_int, PyData.shown_int] at this
  exact text_inj this
/-! ### what can be shown -/
def Pr (d : PyData) (B : Nat) : Prop := d.showable = true ∧ d.depth ≤ 60 ∧ d.shown.length ≤ B ∧ d.hasDict = false
theorem repr_ok {d : PyData} {B : Nat} (h : Pr d B) (hB : B ≤ 100000) : reprD [d] = some (.str d.shown) := by
  obtain ⟨h1, h2, h3, h4⟩ := h
  have h5 : plainRepr d = true := by
    unfold plainRepr
    split
    · rfl
    · rw [h4]
      rfl
  unfold reprD
  simp only
  rw [if_pos ⟨h1, by omega, by rw [DL.sizeLine_eq]; omega, h5⟩]
theorem pr_int {i : Int} (h : i.natAbs < 10 ^ 60) : Pr (.int i) 61 := by
  refine ⟨?_, by simp [PyData.depth], ?_, by simp [PyData.hasDict]⟩
  · simp only [PyData.showable, decide_eq_true_eq]
    by_cases hz : i.natAbs = 0
    · rw [hz]
      decide
    · rw [Nat.log2_lt hz]
      exact Nat.lt_trans h (by decide)
  · rw [PyData.shown_int]
    have h1 := int_text_length_le10 (a := i) (k := 60) (by decide) h
    show (Str.ofString (toString i)).cps.size ≤ 61
    rw [← Array.length_toList, signs_ofString, List.length_map, String.length_toList]
    exact h1
theorem pr_none : Pr .none 61 := ⟨by simp [PyData.showable], by simp [PyData.depth], by rw [PyData.shown_none]; decide, by simp [PyData.hasDict]⟩
theorem pr_bool (b : Bool) : Pr (.bool b) 61 := ⟨by simp [PyData.showable], by simp [PyData.depth], by rw [PyData.shown_bool]; cases b <;> decide, by simp [PyData.hasDict]⟩
theorem join_len (B : Nat) : ∀ (ts : List Str), (∀ t ∈ ts, t.length ≤ B) → (Str.join ", " ts).length ≤ ts.length * (B + 2)
  | [], _ => by simp [Str.join, Str.empty, Str.length]
  | [x], h => by
    have := h x (by simp)
    show x.length ≤ _
    simp
    omega
  | x :: y :: r, h => by
    have ih := join_len B (y :: r) (fun t ht => h t (by simp [ht]))
    have h1 := h x (by simp)
    have h2 : ((", " : String) : Str).length = 2 := rfl
    show (x ++ ", " ++ Str.join ", " (y :: r)).length ≤ _
    rw [len_app, len_app, h2]
    rw [List.length_cons, Nat.add_mul]
    omega
theorem pr_all {B : Nat} : ∀ {ds : List PyData}, (∀ d ∈ ds, Pr d B) → PyData.showableAll ds = true ∧ PyData.hasDictAll ds = false ∧ (∀ t ∈ PyData.shownAll ds, t.length ≤ B)
  | [], _ => by simp [PyData.showableAll, PyData.hasDictAll, PyData.shownAll]
  | d :: r, h => by
    obtain ⟨h1, h2, h3⟩ := pr_all (ds := r) (fun x hx => h x (by simp [hx]))
    obtain ⟨g1, g2, g3, g4⟩ := h d (by simp)
    refine ⟨by simp [PyData.showableAll, h1, g1], by simp [PyData.hasDictAll, h2, g4], fun t ht => ?_⟩
    rw [PyData.shownAll_cons, List.mem_cons] at ht
    rcases ht with ht | ht
    · rw [ht]
      exact g3
    · exact h3 t ht
theorem depthAll_le {D : Nat} : ∀ {ds : List PyData}, (∀ d ∈ ds, d.depth ≤ D) → PyData.depthAll ds ≤ D
  | [], _ => by simp [PyData.depthAll]
  | d :: r, h => by
    have h1 := depthAll_le (ds := r) (fun x hx => h x (by simp [hx]))
    have h2 := h d (by simp)
    simp only [PyData.depthAll]
    omega
theorem pr_list {ds : List PyData} {B C D : Nat} (h : ∀ d ∈ ds, Pr d B) (hd : ∀ d ∈ ds, d.depth ≤ D) (hD : D < 60) (hC : ds.length * (B + 2) + 4 ≤ C) : Pr (.list ds) C := by
  obtain ⟨h1, h2, h3⟩ := pr_all h
  have h4 := join_len B _ h3
  have h5 := depthAll_le hd
  refine ⟨by simpa [PyData.showable] using h1, by simp only [PyData.depth]; omega, ?_, by simpa [PyData.hasDict] using h2⟩
  rw [PyData.shown_list, len_app, len_app]
  rw [PyData.shownAll_length] at h4
  have e1 : (("[" : String) : Str).length = 1 := rfl
  have e2 : (("]" : String) : Str).length = 1 := rfl
  omega
theorem pr_tuple {ds : List PyData} {B C D : Nat} (h : ∀ d ∈ ds, Pr d B) (hd : ∀ d ∈ ds, d.depth ≤ D) (hD : D < 60) (hC : ds.length * (B + 2) + 4 ≤ C) : Pr (.tuple ds) C := by
  obtain ⟨h1, h2, h3⟩ := pr_all h
  have h4 := join_len B _ h3
  have h5 := depthAll_le hd
  refine ⟨by simpa [PyData.showable] using h1, by simp only [PyData.depth]; omega, ?_, by simpa [PyData.hasDict] using h2⟩
  rw [PyData.shown_tuple, len_app, len_app]
  rw [PyData.shownAll_length] at h4
  have e1 : (("(" : String) : Str).length = 1 := rfl
  have e2 : (((if ds.length == 1 then ",)" else ")" : String)) : Str).length ≤ 2 := by
    split <;> decide
  omega
end Lw

set_option Elab.async false
set_option linter.all false
set_option maxRecDepth 100000
set_option maxHeartbeats 4000000
set_option exponentiation.threshold 3000
namespace Lw
open PySem PySem.Spec PyProof.Rows L2 Evl DL
theorem seq_nx {a b : SE} {ρ ρ1 : List Sl} {os os1 : Os} {r : Option Out} (h1 : a ρ os = some (.nx ρ1 os1)) (h2 : b ρ1 os1 = r) : sSeq a b ρ os = r := by
  rw [a_seq, h1]
  exact h2
@[simp] theorem v_d {os : Os} {x : PyData} : viewS os (.d x) = .d x := id rfl
@[simp] theorem v_u {os : Os} : viewS os .u = .u := id rfl
theorem view_last {os : Os} {g : List PyData} : viewS (os ++ [some g]) (.o os.length) = .d (.list g) := viewS_o (by rw [List.getElem?_append_right (by simp)]; simp)

theorem pairs_lay (l : List (Int × Int)) : PyData.canLayAll0 (l.map pairD) = true := by
  induction l with
  | nil => simp [PyData.canLayAll0]
  | cons p r ih => simp [PyData.canLayAll0, PyData.canLay0, pairD] at ih ⊢; exact ih

theorem pairs_shaped (l : List (Int × Int)) : SeqAt.shaped (.list (l.map pairD)) = true := by
  have h1 := pairs_lay l
  have h2 : PyData.depthAll (l.map pairD) ≤ 5 := depthAll_le (fun d hd => by
    obtain ⟨p, _, rfl⟩ := List.mem_map.mp hd
    simp [pairD, PyData.depth, PyData.depthAll])
  simp [SeqAt.shaped, PyData.canLay0, h1, PyData.depth]
  omega
theorem eq_self (l : List (Int × Int)) : eqD (.list (l.map pairD)) (.list (l.map pairD)) = some (.bool true) := by
  have h1 := pairs_shaped l
  have h2 := SeqAt.eqv_refl (.list (l.map pairD)) (SeqAt.canLay_of_shaped h1)
  unfold eqD
  simp only [h1, h2, and_self, if_true]
theorem eqv_nil (l : List (Int × Int)) : PyData.eqv (.list (l.map pairD)) (.list []) = l.isEmpty := by
  cases l <;> simp [PyData.eqv, PyData.eqvAll]
theorem eq_nil (l : List (Int × Int)) : eqD (.list (l.map pairD)) (.list []) = some (.bool l.isEmpty) := by
  have h1 := pairs_shaped l
  have h0 : SeqAt.shaped (.list []) = true := pairs_shaped []
  unfold eqD
  simp only [h1, h0, and_self, if_true, eqv_nil]

/-! ### what bars, what goes -/
def bars (k : Str) (c e : Int) (ts : List Int) (n : Int) : List (Int × Int) := (stch ts n).filter fun p => decide (p.2 - p.1 > bnd k c e)
def wid (ts : List Int) (n : Int) : Int := maxL ((stch ts n).map fun p => p.2 - p.1)
theorem room2 {c e : Int} {ts : List Int} : ixD (roomD c e ts) (.int 2) = some (.list (ts.map .int)) := ixD_t2
theorem stch_len {ts : List Int} {n M : Int} (h : Tops ts M) : (stch ts n).length ≤ 31 := by
  have := mk_len (n := n) h
  unfold stch
  rw [List.length_zip, List.length_tail]
  omega
theorem stch_pos {ts : List Int} {n : Int} : 0 < ((stch ts n).map fun p => p.2 - p.1).length := by
  rw [List.length_map]
  simp only [stch, mk, List.tail_cons, List.length_zip, List.length_cons, List.length_append, List.length_nil]
  omega
theorem mk_mem {ts : List Int} {n M : Int} (h : Tops ts M) (h1 : 1 ≤ n) {x : Int} (hx : x ∈ mk ts n) : 0 ≤ x ∧ x ≤ n := by
  simp only [mk, List.mem_cons, List.mem_append, List.mem_filter, decide_eq_true_eq, List.not_mem_nil, or_false] at hx
  rcases hx with hx | hx | hx
  · omega
  · have := h.low x hx.1
    omega
  · omega
theorem mk_asc {ts : List Int} {n M : Int} (h : Tops ts M) (h1 : 1 ≤ n) : (mk ts n).Pairwise (· < ·) := by
  unfold mk
  rw [List.pairwise_cons, List.pairwise_append]
  refine ⟨fun x hx => ?_, List.Pairwise.sublist List.filter_sublist h.asc, by simp, fun x hx y hy => ?_⟩
  · simp only [List.mem_append, List.mem_filter, decide_eq_true_eq, List.mem_cons, List.not_mem_nil, or_false] at hx
    rcases hx with hx | hx
    · have := h.low x hx.1
      omega
    · omega
  · simp only [List.mem_filter, decide_eq_true_eq] at hx
    simp only [List.mem_cons, List.not_mem_nil, or_false] at hy
    omega
theorem stch_mem {ts : List Int} {n M : Int} (h : Tops ts M) (h1 : 1 ≤ n) {p : Int × Int} (hp : p ∈ stch ts n) : 1 ≤ p.2 - p.1 ∧ p.2 - p.1 ≤ n := by
  have h2 := List.of_mem_zip (show (p.1, p.2) ∈ (mk ts n).zip (mk ts n).tail from hp)
  have h3 := zip_asc (mk_asc h h1) p hp
  have h4 := mk_mem h h1 h2.1
  have h5 := mk_mem h h1 (List.mem_of_mem_tail h2.2)
  omega
theorem wid_mem {ts : List Int} {n : Int} : ∃ p ∈ stch ts n, wid ts n = p.2 - p.1 := by
  obtain ⟨p, h1, h2⟩ := List.mem_map.mp (maxL_mem (stch_pos (ts := ts) (n := n)))
  exact ⟨p, h1, h2.symm⟩
theorem wid_ge {ts : List Int} {n : Int} {p : Int × Int} (hp : p ∈ stch ts n) : p.2 - p.1 ≤ wid ts n := maxL_ge (List.mem_map.mpr ⟨p, hp, rfl⟩)
theorem wid_in {ts : List Int} {n M : Int} (h : Tops ts M) (h1 : 1 ≤ n) : 1 ≤ wid ts n ∧ wid ts n ≤ n := by
  obtain ⟨p, h2, h3⟩ := wid_mem (ts := ts) (n := n)
  rw [h3]
  exact stch_mem h h1 h2
theorem max_wid {ts : List Int} {n : Int} : maxD [.list (((stch ts n).map fun p => p.2 - p.1).map .int)] = some (.int (wid ts n)) := by
  show (intsOf _).bind _ = _
  rw [intsOf_map, Option.bind_some, if_pos stch_pos]
  rfl
section
variable {k : Str} {c e n : Int} {ts : List Int} {os : Os}
theorem bars_ok (h : Rn c e ts) : m_bars_of [.d (.str k), .d (roomD c e ts), .d (.int n)] os = some ((bars k c e ts n).map pairD, os) := by
  unfold m_bars_of
  rw [mF_3]
  have c1 : lcD (iLst (xFn m_stretches_of (xaD (xOp ixD (xVar 1) (xC (.int 2))) (xaD (xVar 2) xaNil)))) (gTp 2 (gsCons (gNm 4) (gsCons (gNm 5) gsNil))) (xBool (xOp gtD (xOp subD (xVar 5) (xVar 4)) (xVar 3))) (xCall tupD (xaD (xVar 4) (xaD (xVar 5) xaNil))) [4, 5] [.d (.str k), .d (roomD c e ts), .d (.int n), .d (.int (bnd k c e)), .u, .u] os = some ((bars k c e ts n).map pairD, os) := by
    refine lcD_pure (l := stch ts n) (f := pairD) (h := pairD) ?_ ?_ (small (by have := stch_len (n := n) h.tops; omega))
    · simp -implicitDefEqProofs [room2, stretches_ok h.tops]
    · intro p hp
      refine ⟨[.d (.str k), .d (roomD c e ts), .d (.int n), .d (.int (bnd k c e)), .d (.int p.1), .d (.int p.2)], rfl, ?_, fun _ => ?_⟩
      · simp -implicitDefEqProofs
      · simp -implicitDefEqProofs [pairD]
  simp -implicitDefEqProofs only [b_bars_of, List.reduceReplicate, Nat.reduceSub, a_seq, a_asg, a_fn, a_d, a_var, List.getElem?_cons_zero, List.getElem?_cons_succ, slD_d, a_nil, Option.map_some, Option.bind_some, bound_ok h, a_nm, List.set_cons_succ, List.set_cons_zero, a_retF, c1, outF_rt]
  simp
theorem barring_ok (hk : Kd k) (h : Rn c e ts) (hn : 1 ≤ n) : m_barring [.d (.str k), .d (roomD c e ts), .d (.int n)] os = some ((bars k c e ts n).map pairD, os) := by
  unfold m_barring
  rw [mF_3]
  simp -implicitDefEqProofs [b_barring, run_check hk h hn, bars_ok h]
theorem longest_ok {M : Int} (h : Tops ts M) : m_longest_of [.d (.list (ts.map .int)), .d (.int n)] os = some (.int (wid ts n), os) := by
  unfold m_longest_of
  rw [m_2]
  have c1 : lcD (iLst (xFn m_stretches_of (xaD (xVar 0) (xaD (xVar 1) xaNil)))) (gTp 2 (gsCons (gNm 2) (gsCons (gNm 3) gsNil))) xYes (xOp subD (xVar 3) (xVar 2)) [2, 3] [.d (.list (ts.map .int)), .d (.int n), .u, .u] os = some (((stch ts n).map fun p => p.2 - p.1).map .int, os) := by
    rw [lcD_all (l := stch ts n) (f := pairD) (h := fun p => .int (p.2 - p.1))]
    · simp
    · simp -implicitDefEqProofs [stretches_ok h]
    · intro p hp
      refine ⟨[.d (.list (ts.map .int)), .d (.int n), .d (.int p.1), .d (.int p.2)], rfl, ?_⟩
      simp -implicitDefEqProofs
    · exact small (by have := stch_len (n := n) h; omega)
  simp -implicitDefEqProofs only [b_longest_of, List.reduceReplicate, Nat.reduceSub, a_ret, a_call, a_d, a_F, c1, Option.map_some, Option.bind_some, a_nil, datas_d, datas_nil, max_wid, outM_rt]
  simp
theorem pass_ok (hk : Kd k) (h : Rn c e ts) (hn : 1 ≤ n) : m_can_pass [.d (.str k), .d (roomD c e ts), .d (.int n)] os = some (.bool (decide (wid ts n ≤ bnd k c e)), os) := by
  have h1 := longest_ok (n := n) (os := os) h.tops
  have q : m_passes [.d (.str k), .d (roomD c e ts), .d (.int n)] os = some (.bool (decide (wid ts n ≤ bnd k c e)), os) := by
    unfold m_passes
    rw [m_3]
    simp -implicitDefEqProofs [b_passes, room2, h1, bound_ok h]
  unfold m_can_pass
  rw [m_3]
  simp -implicitDefEqProofs [b_can_pass, run_check hk h hn, q]
theorem pass_simple (hk : Kd k) (h : Rn c e ts) : m_passes [.d (.str k), .d (roomD c e ts), .d (.int n)] os = some (.bool (decide (wid ts n ≤ bnd k c e)), os) := by
  have h1 := longest_ok (n := n) (os := os) h.tops
  unfold m_passes
  rw [m_3]
  simp -implicitDefEqProofs [b_passes, room2, h1, bound_ok h]
/-! ### the least number of cells -/
def lcN (k : Str) (e W : Int) : PyData := if k = "into" ∧ e = 0 then .none else .int ((W - 1) / shr k e)
theorem shr_pos (h : ¬ (k = "into" ∧ e = 0)) (h0 : 0 ≤ e) : 0 < shr k e := by
  unfold shr
  by_cases hk : k = "into"
  · rw [if_pos hk]
    rw [if_pos (by
      have : e ≠ 0 := fun z => h ⟨hk, z⟩
      omega)]
    exact pow_pos2 _
  · rw [if_neg hk]
    exact pow_pos2 _
theorem beside0 {M : Int} (h : Tops ts 10000000000000000000000000) (h0 : 0 ≤ e) (h1 : e < 300) : m_bound_beside [.d (.str k), .d (.int 0), .d (.int e)] os = some (.int (shr k e), os) := by
  have := beside_ok (k := k) (os := os) (show Rn 0 e ts from ⟨by decide, by decide, h0, h1, h⟩)
  rw [bnd_shr] at this
  simpa using this
theorem cells_ok {W : Int} (h : Tops ts 10000000000000000000000000) (h0 : 0 ≤ e) (h1 : e < 300) (hs : ¬ (k = "into" ∧ e = 0)) (hW : 1 ≤ W ∧ W < 10 ^ 40) : m_cells_beside [.d (.str k), .d (.int e), .d (.int W)] os = some (.int ((W - 1) / shr k e), os) := by
  unfold m_cells_beside
  rw [m_3]
  have q := fdivD_ok (a := W - 1) (p := 200) (shr_pos hs h0) (by omega) (by decide)
  simp -implicitDefEqProofs [b_cells_beside, beside0 (M := 0) h h0 h1, q]
theorem e_zero : eqD (.int e) (.int 0) = some (.bool (decide (e = 0))) := by
  simp [eqD, SeqAt.shaped, PyData.canLay0, PyData.depth, PyData.eqv]
  by_cases z : e = 0 <;> simp [z]
theorem least_cells_ok (hk : Kd k) (h : Tops ts 10000000000000000000000000) (h0 : 0 ≤ e) (h1 : e < 300) (hn : 1 ≤ n) (hn2 : n < 10 ^ 40) : m_least_cells [.d (.str k), .d (.int e), .d (.list (ts.map .int)), .d (.int n)] os = some (lcN k e (wid ts n), os) := by
  have hw := wid_in h hn
  unfold m_least_cells lcN
  rw [m_4]
  by_cases hs : k = "into" ∧ e = 0
  · rw [if_pos hs]
    obtain ⟨rfl, rfl⟩ := hs
    simp -implicitDefEqProofs [b_least_cells, kind_check hk, check_tops_ok h, check_from_ok (show (0 : Int) ≥ 0 by decide), check_from_ok (show n ≥ 1 from hn), e_zero]
  · rw [if_neg hs]
    have q := cells_ok (k := k) (os := os) h h0 h1 hs (W := wid ts n) (by omega)
    have q2 := check_from_ok (os := os) (show e ≥ 0 from h0)
    by_cases z : k = "into"
    · have z2 : e ≠ 0 := fun y => hs ⟨z, y⟩
      simp -implicitDefEqProofs [b_least_cells, kind_check hk, check_tops_ok h, q2, check_from_ok (show n ≥ 1 from hn), e_zero, z2, longest_ok h, q]
    · simp -implicitDefEqProofs [b_least_cells, kind_check hk, check_tops_ok h, q2, check_from_ok (show n ≥ 1 from hn), z, longest_ok h, q]
end
end Lw

set_option Elab.async false
set_option linter.all false
set_option maxRecDepth 100000
set_option maxHeartbeats 4000000
set_option exponentiation.threshold 3000
namespace Lw
open PySem PySem.Spec PyProof.Rows L2 Evl DL
/-! ### the least number of empty columns -/
def IsJ (c W : Int) (J : Nat) : Prop := W ≤ (c + 1) * 2 ^ J ∧ ∀ i < J, (c + 1) * 2 ^ i < W
theorem up2 {c : Int} (h : 0 ≤ c) {i j : Nat} (hij : i ≤ j) : (c + 1) * 2 ^ i ≤ (c + 1) * 2 ^ j := by
  have h1 : (2 : Nat) ^ i ≤ 2 ^ j := Nat.pow_le_pow_right (by decide) hij
  have h2 : ((2 ^ i : Nat) : Int) ≤ ((2 ^ j : Nat) : Int) := by exact_mod_cast h1
  have h3 : (2 : Int) ^ i ≤ 2 ^ j := by simpa using h2
  exact Int.mul_le_mul_of_nonneg_left h3 (by omega)
theorem isJ_ex {c W : Int} (h : 0 ≤ c) : ∀ N : Nat, W ≤ (c + 1) * 2 ^ N → ∃ J, J ≤ N ∧ IsJ c W J
  | 0, hN => ⟨0, Nat.le_refl _, hN, fun i hi => absurd hi (by omega)⟩
  | N + 1, hN => by
    by_cases z : W ≤ (c + 1) * 2 ^ N
    · obtain ⟨J, h1, h2⟩ := isJ_ex h N z
      exact ⟨J, by omega, h2⟩
    · refine ⟨N + 1, Nat.le_refl _, hN, fun i hi => ?_⟩
      have := up2 h (show i ≤ N by omega)
      omega
theorem isJ_uniq {c W : Int} (h : 0 ≤ c) {I J : Nat} (h1 : IsJ c W I) (h2 : IsJ c W J) : I = J := by
  rcases Nat.lt_trichotomy I J with z | z | z
  · have := h2.2 I z
    have := h1.1
    omega
  · exact z
  · have := h1.2 J z
    have := h2.1
    omega
theorem isJ_100 {c W : Int} (h : 0 ≤ c) (hW : W < 10 ^ 40) : ∃ J, J ≤ 140 ∧ IsJ c W J := by
  refine isJ_ex h 140 ?_
  have h1 : (10 : Int) ^ 40 ≤ 2 ^ 140 := by decide
  have h2 : (1 : Int) * 2 ^ 140 ≤ (c + 1) * 2 ^ 140 := Int.mul_le_mul_of_nonneg_right (by omega) (by decide)
  omega
def fe (k : Str) : Int := if k = "into" then 1 else 0
theorem fe_in {k : Str} : 0 ≤ fe k ∧ fe k ≤ 1 := by
  unfold fe
  split <;> decide
theorem shr_fe {k : Str} {i : Nat} : shr k (fe k + i) = 2 ^ i := by
  unfold shr fe
  by_cases hk : k = "into"
  · simp only [hk, if_true]
    rw [if_pos (by omega)]
    have : (1 + (i : Int) - 1).toNat = i := by omega
    rw [this]
  · simp only [hk, if_false]
    have : (0 + (i : Int)).toNat = i := by omega
    rw [this]
theorem bnd_fe {k : Str} {c : Int} {i : Nat} : bnd k c (fe k + i) = (c + 1) * 2 ^ i := by
  rw [bnd_shr, shr_fe]
section
variable {k : Str} {c e n : Int} {ts : List Int} {os : Os}
theorem fewest_ok : m_fewest_empty [.d (.str k)] os = some (.int (fe k), os) := by
  unfold m_fewest_empty fe
  rw [m_1]
  by_cases hk : k = "into" <;> simp -implicitDefEqProofs [b_fewest_empty, hk]
theorem le_loop {W : Int} {J : Nat} (h : Tops ts 10000000000000000000000000) (hc : 0 ≤ c) (hc2 : c < 2 ^ 200) (hJ : IsJ c W J) (hJ2 : J ≤ 140) : ∀ (r i f : Nat), i + r = J → r < f →
    whRun (xBool (xOp ltD (xFn m_bound_beside (xaD (xVar 0) (xaD (xVar 1) (xaD (xVar 5) xaNil)))) (xVar 4))) (sAug 5 (fun i j => i + j) (xC (.int 1))) f [.d (.str k), .d (.int c), .d (.list (ts.map .int)), .d (.int n), .d (.int W), .d (.int (fe k + i))] os = some (.nx [.d (.str k), .d (.int c), .d (.list (ts.map .int)), .d (.int n), .d (.int W), .d (.int (fe k + J))] os)
  | r, i, 0, _, hf => absurd hf (by omega)
  | r, i, f + 1, hi, hf => by
    have hfe := fe_in (k := k)
    have b := beside_ok (k := k) (os := os) (show Rn c (fe k + i) ts from ⟨hc, hc2, by omega, by omega, h⟩)
    rw [bnd_fe] at b
    have t : (xBool (xOp ltD (xFn m_bound_beside (xaD (xVar 0) (xaD (xVar 1) (xaD (xVar 5) xaNil)))) (xVar 4))) [.d (.str k), .d (.int c), .d (.list (ts.map .int)), .d (.int n), .d (.int W), .d (.int (fe k + i))] os = some (decide ((c + 1) * 2 ^ i < W), os) := by
      simp -implicitDefEqProofs [b]
    have ag : (sAug 5 (fun i j => i + j) (xC (.int 1))) [.d (.str k), .d (.int c), .d (.list (ts.map .int)), .d (.int n), .d (.int W), .d (.int (fe k + i))] os = some (.nx [.d (.str k), .d (.int c), .d (.list (ts.map .int)), .d (.int n), .d (.int W), .d (.int (fe k + (i + 1 : Nat)))] os) := by
      have : fe k + ((i + 1 : Nat) : Int) = fe k + i + 1 := by omega
      rw [this]
      rfl
    cases r with
    | zero =>
      have e : i = J := by omega
      subst e
      have z : ¬ ((c + 1) * 2 ^ i < W) := by
        have := hJ.1
        omega
      simp -implicitDefEqProofs only [whRun, t, Option.bind_some, z, decide_false, Bool.false_eq_true, if_false]
    | succ r =>
      have z : (c + 1) * 2 ^ i < W := hJ.2 i (by omega)
      have q := le_loop h hc hc2 hJ hJ2 r (i + 1) f (by omega) (by omega)
      simp -implicitDefEqProofs only [whRun, t, Option.bind_some, z, decide_true, if_true, ag, q]
theorem least_empty_ok {J : Nat} (hk : Kd k) (h : Tops ts 10000000000000000000000000) (hc : 0 ≤ c) (hc2 : c < 2 ^ 200) (hn : 1 ≤ n) (hJ : IsJ c (wid ts n) J) (hJ2 : J ≤ 140) : m_least_empty [.d (.str k), .d (.int c), .d (.list (ts.map .int)), .d (.int n)] os = some (.int (fe k + J), os) := by
  unfold m_least_empty
  rw [m_4]
  have q := le_loop (k := k) (n := n) (os := os) h hc hc2 hJ hJ2 J 0 1000 (by omega) (by omega)
  rw [show ((0 : Nat) : Int) = 0 from rfl, Int.add_zero] at q
  have q2 := check_from_ok (os := os) (show c ≥ 0 from hc)
  have l := longest_ok (n := n) (os := os) h
  unfold b_least_empty
  have main : b_least_empty (.d (.str k) :: .d (.int c) :: .d (.list (ts.map .int)) :: .d (.int n) :: List.replicate (6 - 4) .u) os = some (.rt (.int (fe k + J)) os) := by
    unfold b_least_empty
    refine seq_nx (ρ1 := [.d (.str k), .d (.int c), .d (.list (ts.map .int)), .d (.int n), .u, .u]) (os1 := os) (by simp -implicitDefEqProofs [kind_check hk]) ?_
    refine seq_nx (ρ1 := [.d (.str k), .d (.int c), .d (.list (ts.map .int)), .d (.int n), .u, .u]) (os1 := os) (by simp -implicitDefEqProofs [q2]) ?_
    refine seq_nx (ρ1 := [.d (.str k), .d (.int c), .d (.list (ts.map .int)), .d (.int n), .u, .u]) (os1 := os) (by simp -implicitDefEqProofs [check_tops_ok h]) ?_
    refine seq_nx (ρ1 := [.d (.str k), .d (.int c), .d (.list (ts.map .int)), .d (.int n), .u, .u]) (os1 := os) (by simp -implicitDefEqProofs [check_from_ok (show n ≥ 1 from hn)]) ?_
    refine seq_nx (ρ1 := [.d (.str k), .d (.int c), .d (.list (ts.map .int)), .d (.int n), .d (.int (wid ts n)), .u]) (os1 := os) (by simp -implicitDefEqProofs [l]) ?_
    refine seq_nx (ρ1 := [.d (.str k), .d (.int c), .d (.list (ts.map .int)), .d (.int n), .d (.int (wid ts n)), .d (.int (fe k))]) (os1 := os) (by simp -implicitDefEqProofs [fewest_ok]) ?_
    refine seq_nx q ?_
    simp -implicitDefEqProofs
  unfold b_least_empty at main
  rw [main]
  simp
end
end Lw

set_option Elab.async false
set_option linter.all false
set_option maxRecDepth 100000
set_option maxHeartbeats 4000000
set_option exponentiation.threshold 3000
namespace Lw
open PySem PySem.Spec PyProof.Rows L2 Evl DL
/-! ### trades -/
def pr (k : Str) (W : Int) (i : Nat) : Int × Int := ((W - 1) / 2 ^ i, fe k + i)
def ups (k : Str) (W : Int) (i : Nat) : List (Int × Int) := (List.range (i + 1)).map (pr k W)
theorem ups_succ {k : Str} {W : Int} {i : Nat} : ups k W (i + 1) = ups k W i ++ [pr k W (i + 1)] := by
  unfold ups
  rw [List.range_succ, List.map_append]
  rfl
theorem ups_zero {k : Str} {W : Int} : ups k W 0 = [pr k W 0] := rfl
theorem ups_last {k : Str} {W : Int} {i : Nat} : ixD (.list ((ups k W i).map pairD)) (.int (-1)) = some (pairD (pr k W i)) := by
  show atI ((ups k W i).map pairD) (-1) = _
  have hl : ((ups k W i).map pairD).length = i + 1 := by simp [ups]
  unfold atI ixN
  rw [hl, if_neg (by decide), if_pos (by omega), Option.bind_some]
  have e : (-1 + ((i + 1 : Nat) : Int)).toNat = i := by omega
  rw [e]
  simp [ups]
theorem c_pos {W : Int} {i : Nat} : (W - 1) / 2 ^ i > 0 ↔ 2 ^ i < W := by
  have := Int.le_ediv_iff_mul_le (a := 1) (b := W - 1) (pow_pos2 i)
  omega
theorem c_le {W : Int} {i : Nat} (h : 1 ≤ W) : 0 ≤ (W - 1) / 2 ^ i ∧ (W - 1) / 2 ^ i ≤ W - 1 :=
  ⟨Int.ediv_nonneg (by omega) (Int.le_of_lt (pow_pos2 i)), Int.ediv_le_self _ (by omega)⟩
section
variable {k : Str} {c e n W : Int} {ts : List Int} {os : Os} {m : Nat}
theorem cells_fe {i : Nat} (h : Tops ts 10000000000000000000000000) (hi : i ≤ 141) (hW : 1 ≤ W ∧ W < 10 ^ 40) : m_cells_beside [.d (.str k), .d (.int (fe k + i)), .d (.int W)] os = some (.int ((W - 1) / 2 ^ i), os) := by
  have hfe := fe_in (k := k)
  have hs : ¬ (k = "into" ∧ fe k + i = 0) := by
    rintro ⟨h1, h2⟩
    unfold fe at h2
    rw [if_pos h1] at h2
    omega
  have := cells_ok (k := k) (e := fe k + i) (os := os) h (by omega) (by omega) hs hW
  rw [shr_fe] at this
  exact this
theorem tr_loop (h : Tops ts 10000000000000000000000000) (hW : 1 ≤ W ∧ W < 10 ^ 40) (hm : IsJ 0 W m) (hm2 : m ≤ 140) : ∀ (r i f : Nat), i + r = m → r < f →
    whRun (tView (xBool (xOp gtD (xOp ixD (xOp ixD (xVar 5) (xUn negD (xC (.int 1)))) (xC (.int 0))) (xC (.int 0))))) (sSeq (sAug 4 (fun i j => i + j) (xC (.int 1))) (sApp 5 (xCall tupD (xaD (xFn m_cells_beside (xaD (xVar 0) (xaD (xVar 4) (xaD (xVar 3) xaNil)))) (xaD (xVar 4) xaNil))))) f [.d (.str k), .d (.list (ts.map .int)), .d (.int n), .d (.int W), .d (.int (fe k + i)), .o os.length] (os ++ [some ((ups k W i).map pairD)]) = some (.nx [.d (.str k), .d (.list (ts.map .int)), .d (.int n), .d (.int W), .d (.int (fe k + m)), .o os.length] (os ++ [some ((ups k W m).map pairD)]))
  | r, i, 0, _, hf => absurd hf (by omega)
  | r, i, f + 1, hi, hf => by
    have vl : viewS (os ++ [some ((ups k W i).map pairD)]) (.o os.length) = .d (.list ((ups k W i).map pairD)) := viewS_o (by rw [List.getElem?_append_right (by simp)]; simp)
    have i0 : ixD (pairD (pr k W i)) (.int 0) = some (.int ((W - 1) / 2 ^ i)) := ixD_t0
    have t : (tView (xBool (xOp gtD (xOp ixD (xOp ixD (xVar 5) (xUn negD (xC (.int 1)))) (xC (.int 0))) (xC (.int 0))))) [.d (.str k), .d (.list (ts.map .int)), .d (.int n), .d (.int W), .d (.int (fe k + i)), .o os.length] (os ++ [some ((ups k W i).map pairD)]) = some (decide ((W - 1) / 2 ^ i > 0), os ++ [some ((ups k W i).map pairD)]) := by
      simp -implicitDefEqProofs only [a_tview, List.map_cons, List.map_nil, v_d, vl, a_bool, a_op, a_var, List.getElem?_cons_zero, List.getElem?_cons_succ, slD_d, Option.map_some, Option.bind_some, a_un, a_c, negD_int, ups_last, i0, gtD_int, boolOf_bool]
    cases r with
    | zero =>
      have e : i = m := by omega
      subst e
      have z : ¬ ((W - 1) / 2 ^ i > 0) := by
        rw [c_pos]
        have := hm.1
        omega
      simp -implicitDefEqProofs only [whRun, t, Option.bind_some, z, decide_false, Bool.false_eq_true, if_false]
    | succ r =>
      have z : (W - 1) / 2 ^ i > 0 := by
        rw [c_pos]
        have := hm.2 i (by omega)
        omega
      have q := tr_loop h hW hm hm2 r (i + 1) f (by omega) (by omega)
      have ce := cells_fe (k := k) (i := i + 1) (os := os ++ [some ((ups k W i).map pairD)]) h (by omega) hW
      have e1 : fe k + ((i + 1 : Nat) : Int) = fe k + i + 1 := by omega
      have b : (sSeq (sAug 4 (fun i j => i + j) (xC (.int 1))) (sApp 5 (xCall tupD (xaD (xFn m_cells_beside (xaD (xVar 0) (xaD (xVar 4) (xaD (xVar 3) xaNil)))) (xaD (xVar 4) xaNil))))) [.d (.str k), .d (.list (ts.map .int)), .d (.int n), .d (.int W), .d (.int (fe k + i)), .o os.length] (os ++ [some ((ups k W i).map pairD)]) = some (.nx [.d (.str k), .d (.list (ts.map .int)), .d (.int n), .d (.int W), .d (.int (fe k + (i + 1 : Nat))), .o os.length] (os ++ [some ((ups k W (i + 1)).map pairD)])) := by
        refine seq_nx (ρ1 := [.d (.str k), .d (.list (ts.map .int)), .d (.int n), .d (.int W), .d (.int (fe k + (i + 1 : Nat))), .o os.length]) (os1 := os ++ [some ((ups k W i).map pairD)]) ?_ ?_
        · rw [e1]
          rfl
        have o1 : ownAt [.d (.str k), .d (.list (ts.map .int)), .d (.int n), .d (.int W), .d (.int (fe k + (i + 1 : Nat))), .o os.length] (os ++ [some ((ups k W i).map pairD)]) 5 = some (os.length, (ups k W i).map pairD) := ownAt_o rfl (by rw [List.getElem?_append_right (by simp)]; simp)
        have o2 : ((ups k W i).map pairD).length < sizeLine := by
          rw [DL.sizeLine_eq]
          simp [ups]
          omega
        unfold sApp
        rw [o1, Option.bind_some]
        simp -implicitDefEqProofs only [a_call, a_d, a_fn, a_var, List.getElem?_cons_zero, List.getElem?_cons_succ, slD_d, Option.map_some, Option.bind_some, a_nil, ce, datas_d, datas_nil, tupD_2, o1, o2, if_true]
        rw [List.set_append_right _ _ (by simp), ups_succ]
        simp [pairD, pr]
      simp -implicitDefEqProofs only [whRun, t, Option.bind_some, z, decide_true, if_true, b, q]
def trL (k : Str) (W : Int) (m : Nat) : List (Int × Int) := (ups k W m).reverse
theorem trades_ok (hk : Kd k) (h : Tops ts 10000000000000000000000000) (hn : 1 ≤ n) (hn2 : n < 10 ^ 40) (hm : IsJ 0 (wid ts n) m) (hm2 : m ≤ 140) : m_trades [.d (.str k), .d (.list (ts.map .int)), .d (.int n)] os = some ((trL k (wid ts n) m).map pairD, os) := by
  have hw := wid_in h hn
  have q := tr_loop (k := k) (n := n) (os := os) (W := wid ts n) h (by omega) hm hm2 m 0 1000 (by omega) (by omega)
  rw [show ((0 : Nat) : Int) = 0 from rfl, Int.add_zero] at q
  have l := longest_ok (n := n) (os := os) h
  have ce := cells_fe (k := k) (i := 0) (os := os) (W := wid ts n) h (by omega) (by omega)
  rw [show ((0 : Nat) : Int) = 0 from rfl, Int.add_zero] at ce
  have p0 : (ups k (wid ts n) 0).map pairD = [.tuple [.int ((wid ts n - 1) / 2 ^ 0), .int (fe k)]] := by
    rw [ups_zero]
    simp [pairD, pr]
  have f1 : fLst (xaD (xCall tupD (xaD (xFn m_cells_beside (xaD (xVar 0) (xaD (xVar 4) (xaD (xVar 3) xaNil)))) (xaD (xVar 4) xaNil))) xaNil) [.d (.str k), .d (.list (ts.map .int)), .d (.int n), .d (.int (wid ts n)), .d (.int (fe k)), .u] os = some ((ups k (wid ts n) 0).map pairD, os) := by
    rw [p0]
    simp -implicitDefEqProofs only [a_fLst, a_call, a_d, a_fn, a_var, List.getElem?_cons_zero, List.getElem?_cons_succ, slD_d, Option.map_some, Option.bind_some, a_nil, ce, datas_d, datas_nil, tupD_2, List.length_cons, List.length_nil]
    rw [if_pos (by decide)]
  have main : b_trades os.length (.d (.str k) :: .d (.list (ts.map .int)) :: .d (.int n) :: List.replicate (6 - 3) .u) os = some (.rt (.list ((trL k (wid ts n) m).map pairD)) (os ++ [none])) := by
    unfold b_trades
    refine seq_nx (ρ1 := [.d (.str k), .d (.list (ts.map .int)), .d (.int n), .u, .u, .u]) (os1 := os) (by simp -implicitDefEqProofs [kind_check hk]) ?_
    refine seq_nx (ρ1 := [.d (.str k), .d (.list (ts.map .int)), .d (.int n), .u, .u, .u]) (os1 := os) (by simp -implicitDefEqProofs [check_tops_ok h]) ?_
    refine seq_nx (ρ1 := [.d (.str k), .d (.list (ts.map .int)), .d (.int n), .u, .u, .u]) (os1 := os) (by simp -implicitDefEqProofs [check_from_ok (show n ≥ 1 from hn)]) ?_
    refine seq_nx (ρ1 := [.d (.str k), .d (.list (ts.map .int)), .d (.int n), .d (.int (wid ts n)), .u, .u]) (os1 := os) (by simp -implicitDefEqProofs [l]) ?_
    refine seq_nx (ρ1 := [.d (.str k), .d (.list (ts.map .int)), .d (.int n), .d (.int (wid ts n)), .d (.int (fe k)), .u]) (os1 := os) (by simp -implicitDefEqProofs [fewest_ok]) ?_
    refine seq_nx (ρ1 := [.d (.str k), .d (.list (ts.map .int)), .d (.int n), .d (.int (wid ts n)), .d (.int (fe k)), .o os.length]) (os1 := os ++ [some ((ups k (wid ts n) 0).map pairD)]) (by simp -implicitDefEqProofs only [a_own, f1, Option.map_some, List.set_cons_succ, List.set_cons_zero]) ?_
    refine seq_nx q ?_
    have o1 : ownAt [.d (.str k), .d (.list (ts.map .int)), .d (.int n), .d (.int (wid ts n)), .d (.int (fe k + m)), .o os.length] (os ++ [some ((ups k (wid ts n) m).map pairD)]) 5 = some (os.length, (ups k (wid ts n) m).map pairD) := ownAt_o rfl (by rw [List.getElem?_append_right (by simp)]; simp)
    unfold sFrz
    rw [o1, Option.bind_some]
    simp only
    rw [List.set_append_right _ _ (by simp)]
    simp -implicitDefEqProofs [fRev, trL]
  unfold m_trades
  rw [mF_3, main]
  simp
/-! what goes -/
theorem goes_pair {i : Nat} (hW : 1 ≤ W) : W ≤ bnd k (pr k W i).1 (pr k W i).2 := by
  show W ≤ bnd k ((W - 1) / 2 ^ i) (fe k + i)
  rw [bnd_fe]
  have := Int.lt_ediv_add_one_mul_self (W - 1) (pow_pos2 i)
  omega
theorem goes_less {i : Nat} : ¬ W ≤ bnd k ((pr k W i).1 - 1) (pr k W i).2 := by
  show ¬ W ≤ bnd k ((W - 1) / 2 ^ i - 1) (fe k + i)
  rw [bnd_fe]
  have := Int.ediv_mul_le (W - 1) (Int.ne_of_gt (pow_pos2 i))
  rw [Int.sub_add_cancel]
  omega
theorem bnd_into0 {c : Int} (h : k = "into") : bnd k c 0 = 0 := by
  unfold bnd
  rw [if_pos h, if_neg (by decide)]
theorem c_half {i : Nat} (h : 2 ^ i < W) : (W - 1) / 2 ^ (i + 1) + 1 ≤ (W - 1) / 2 ^ i := by
  have h1 := (c_pos (W := W) (i := i)).mpr h
  have h2 : (W - 1) / 2 ^ (i + 1) = ((W - 1) / 2 ^ i) / 2 := by
    rw [Int.pow_succ, Int.ediv_ediv_of_nonneg (Int.le_of_lt (pow_pos2 i))]
  rw [h2]
  omega
theorem goes_col {i : Nat} (hW : 1 ≤ W) (hm : IsJ 0 W m) (hi : i ≤ m) (hp : (pr k W i).2 > 0) : ¬ W ≤ bnd k (pr k W i).1 ((pr k W i).2 - 1) := by
  show ¬ W ≤ bnd k ((W - 1) / 2 ^ i) (fe k + i - 1)
  cases i with
  | zero =>
    have hp' : fe k + ((0 : Nat) : Int) > 0 := hp
    have hk : k = "into" := by
      unfold fe at hp'
      split at hp'
      · assumption
      · simp at hp'
    have e : fe k + ((0 : Nat) : Int) - 1 = 0 := by
      unfold fe
      rw [if_pos hk]
      rfl
    rw [e, bnd_into0 hk]
    omega
  | succ i =>
    have e : fe k + ((i + 1 : Nat) : Int) - 1 = fe k + i := by omega
    rw [e, bnd_fe]
    have h1 : 2 ^ i < W := by
      have := hm.2 i (by omega)
      omega
    have h2 := c_half h1
    have h3 := Int.ediv_mul_le (W - 1) (Int.ne_of_gt (pow_pos2 i))
    have h4 := Int.mul_le_mul_of_nonneg_right h2 (Int.le_of_lt (pow_pos2 i))
    omega
end
end Lw

set_option Elab.async false
set_option linter.all false
set_option maxRecDepth 100000
set_option maxHeartbeats 4000000
set_option exponentiation.threshold 3000
namespace Lw
open PySem PySem.Spec PyProof.Rows L2 Evl DL
/-! ### how far one comes -/
/-- the marks that follow each other within b -/
def chn (b : Int) : List Int → Int → List Int
  | [], _ => []
  | t :: r, m => if t - m ≤ b then t :: chn b r t else []
def lst (m : Int) : List Int → Int
  | [] => m
  | t :: r => lst t r
theorem lst_ge {b : Int} : ∀ {ts : List Int} {m : Int}, (∀ t ∈ ts, m < t) → ts.Pairwise (· < ·) → m ≤ lst m (chn b ts m) ∧ ∀ t ∈ chn b ts m, m < t ∧ t ≤ lst m (chn b ts m)
  | [], m, _, _ => ⟨Int.le_refl _, by simp [chn]⟩
  | t :: r, m, h, a => by
    obtain ⟨a1, a2⟩ := List.pairwise_cons.mp a
    have hm := h t (by simp)
    by_cases z : t - m ≤ b
    · simp only [chn, if_pos z, lst]
      obtain ⟨i1, i2⟩ := lst_ge (b := b) (ts := r) (m := t) a1 a2
      refine ⟨by omega, fun x hx => ?_⟩
      rcases List.mem_cons.mp hx with e | e
      · rw [e]
        exact ⟨hm, i1⟩
      · have := i2 x e
        omega
    · simp only [chn, if_neg z, lst]
      exact ⟨Int.le_refl _, by simp⟩
theorem chn_gap {b : Int} : ∀ {ts : List Int} {m : Int}, ∀ p ∈ (m :: chn b ts m).zip (chn b ts m), p.2 - p.1 ≤ b
  | [], m, p, hp => by simp [chn] at hp
  | t :: r, m, p, hp => by
    by_cases z : t - m ≤ b
    · simp only [chn, if_pos z, List.zip_cons_cons, List.mem_cons] at hp
      rcases hp with e | e
      · rw [e]
        exact z
      · exact chn_gap p e
    · simp only [chn, if_neg z, List.zip_nil_right] at hp
      cases hp
theorem chn_filter {b x : Int} : ∀ {ts : List Int} {m : Int}, (∀ t ∈ ts, m < t) → ts.Pairwise (· < ·) → lst m (chn b ts m) < x → x ≤ lst m (chn b ts m) + b + 1 → ts.filter (fun t => decide (t < x)) = chn b ts m
  | [], m, _, _, _, _ => rfl
  | t :: r, m, h, a, h1, h2 => by
    obtain ⟨a1, a2⟩ := List.pairwise_cons.mp a
    by_cases z : t - m ≤ b
    · simp only [chn, if_pos z, lst] at h1 h2 ⊢
      have := (lst_ge (b := b) (ts := r) (m := t) a1 a2).1
      rw [List.filter_cons_of_pos (by simp; omega), chn_filter a1 a2 h1 h2]
    · simp only [chn, if_neg z, lst] at h1 h2 ⊢
      rw [List.filter_eq_nil_iff]
      intro y hy
      have : t ≤ y := by
        rcases List.mem_cons.mp hy with e | e
        · omega
        · have := a1 y e
          omega
      simp
      omega
theorem zip_last {x : Int} : ∀ (l : List Int) (m : Int), (m :: (l ++ [x])).zip (l ++ [x]) = (m :: l).zip l ++ [(lst m l, x)]
  | [], m => rfl
  | t :: r, m => by
    have := zip_last (x := x) r t
    simp only [List.cons_append, List.zip_cons_cons, lst] at this ⊢
    rw [this]
section
variable {k : Str} {c e : Int} {ts : List Int} {M : Int}
/-- the stretches of so many cards as can go, and of one more -/
theorem stch_chn {b x : Int} (h : Tops ts M) (h1 : lst 0 (chn b ts 0) < x) (h2 : x ≤ lst 0 (chn b ts 0) + b + 1) : stch ts x = (0 :: chn b ts 0).zip (chn b ts 0) ++ [(lst 0 (chn b ts 0), x)] := by
  have hf := chn_filter (b := b) (x := x) (ts := ts) (m := 0) (fun t ht => by have := h.low t ht; omega) h.asc h1 h2
  unfold stch mk
  rw [hf, List.tail_cons]
  exact zip_last _ _
theorem wid_go {b : Int} (h : Tops ts M) (hb : 0 < b) : wid ts (lst 0 (chn b ts 0) + b) ≤ b := by
  obtain ⟨p, h1, h2⟩ := wid_mem (ts := ts) (n := lst 0 (chn b ts 0) + b)
  rw [stch_chn (b := b) h (by omega) (by omega), List.mem_append] at h1
  rw [h2]
  rcases h1 with z | z
  · exact chn_gap p z
  · simp only [List.mem_cons, List.not_mem_nil, or_false] at z
    rw [z]
    show lst 0 (chn b ts 0) + b - lst 0 (chn b ts 0) ≤ b
    omega
theorem bars_one (h : Tops ts M) (hb : 0 < bnd k c e) : bars k c e ts (lst 0 (chn (bnd k c e) ts 0) + bnd k c e + 1) = [(lst 0 (chn (bnd k c e) ts 0), lst 0 (chn (bnd k c e) ts 0) + bnd k c e + 1)] := by
  unfold bars
  rw [stch_chn (b := bnd k c e) h (by omega) (by omega), List.filter_append]
  have e1 : ((0 :: chn (bnd k c e) ts 0).zip (chn (bnd k c e) ts 0)).filter (fun p => decide (p.2 - p.1 > bnd k c e)) = [] := by
    rw [List.filter_eq_nil_iff]
    intro p hp
    have := chn_gap p hp
    simp
    omega
  rw [e1, List.nil_append, List.filter_cons_of_pos]
  · rfl
  · simp
    omega
theorem wid_more {b : Int} (h : Tops ts M) (hb : 0 < b) : b < wid ts (lst 0 (chn b ts 0) + b + 1) := by
  have hp : (lst 0 (chn b ts 0), lst 0 (chn b ts 0) + b + 1) ∈ stch ts (lst 0 (chn b ts 0) + b + 1) := by
    rw [stch_chn (b := b) h (by omega) (by omega)]
    simp
  have := wid_ge hp
  omega
/-! with further tops -/
def gw (b : Int) : List Int → Int → Int → Int
  | [], m, f => m + (f + 1) * b
  | t :: r, m, f => if (t - m - 1) / b > f then m + (f + 1) * b else gw b r t (f - (t - m - 1) / b)
theorem div_zero_iff {b x : Int} (hb : 0 < b) (hx : 0 ≤ x) : x / b > 0 ↔ b ≤ x := by
  have := Int.le_ediv_iff_mul_le (a := 1) (b := x) hb
  omega
theorem gw_zero {b : Int} (hb : 0 < b) : ∀ {ts : List Int} {m : Int}, (∀ t ∈ ts, m < t) → ts.Pairwise (· < ·) → gw b ts m 0 = lst m (chn b ts m) + b
  | [], m, _, _ => by simp [gw, chn, lst]
  | t :: r, m, h, a => by
    obtain ⟨a1, a2⟩ := List.pairwise_cons.mp a
    have hm := h t (by simp)
    have d := div_zero_iff (b := b) (x := t - m - 1) hb (by omega)
    have dn : 0 ≤ (t - m - 1) / b := Int.ediv_nonneg (by omega) (Int.le_of_lt hb)
    by_cases z : t - m ≤ b
    · have w0 : (t - m - 1) / b = 0 := by omega
      simp only [gw, chn, if_pos z, lst, w0, gt_iff_lt, Int.lt_irrefl, if_false, Int.sub_zero]
      exact gw_zero hb a1 a2
    · have w1 : (t - m - 1) / b > 0 := by omega
      simp only [gw, chn, if_neg z, lst, if_pos w1]
      omega
theorem gw_low {b : Int} (hb : 0 < b) : ∀ {ts : List Int} {m f : Int}, (∀ t ∈ ts, m < t) → ts.Pairwise (· < ·) → 0 ≤ f → m + b ≤ gw b ts m f
  | [], m, f, _, _, hf => by
    simp only [gw]
    have := Int.mul_le_mul_of_nonneg_right (show (1 : Int) ≤ f + 1 by omega) (Int.le_of_lt hb)
    omega
  | t :: r, m, f, h, a, hf => by
    obtain ⟨a1, a2⟩ := List.pairwise_cons.mp a
    have hm := h t (by simp)
    simp only [gw]
    split
    · have := Int.mul_le_mul_of_nonneg_right (show (1 : Int) ≤ f + 1 by omega) (Int.le_of_lt hb)
      omega
    · have := gw_low hb (ts := r) (m := t) (f := f - (t - m - 1) / b) a1 a2 (by omega)
      omega
theorem gw_one {b : Int} (hb : 0 < b) : ∀ {ts : List Int} {m : Int}, (∀ t ∈ ts, m < t) → ts.Pairwise (· < ·) → lst m (chn b ts m) + b + 1 ≤ gw b ts m 1
  | [], m, _, _ => by
    simp only [gw, chn, lst]
    omega
  | t :: r, m, h, a => by
    obtain ⟨a1, a2⟩ := List.pairwise_cons.mp a
    have hm := h t (by simp)
    have d := div_zero_iff (b := b) (x := t - m - 1) hb (by omega)
    have dn : 0 ≤ (t - m - 1) / b := Int.ediv_nonneg (by omega) (Int.le_of_lt hb)
    by_cases z : t - m ≤ b
    · have w0 : (t - m - 1) / b = 0 := by omega
      simp only [gw, chn, if_pos z, lst, w0]
      rw [if_neg (by omega), Int.sub_zero]
      exact gw_one hb a1 a2
    · simp only [gw, chn, if_neg z, lst]
      split
      · omega
      · have := gw_low hb (ts := r) (m := t) (f := 1 - (t - m - 1) / b) a1 a2 (by omega)
        omega
end
end Lw

set_option Elab.async false
set_option linter.all false
set_option maxRecDepth 100000
set_option maxHeartbeats 4000000
set_option exponentiation.threshold 3000
namespace Lw
open PySem PySem.Spec PyProof.Rows L2 Evl DL
theorem seq_bk {a b : SE} {ρ ρ1 : List Sl} {os os1 : Os} (h1 : a ρ os = some (.bk ρ1 os1)) : sSeq a b ρ os = some (.bk ρ1 os1) := by
  rw [a_seq, h1]
  rfl
section
variable {k : Str} {c e n : Int} {ts : List Int} {os : Os}
theorem bnd_lt (h : Rn c e ts) : 0 ≤ bnd k c e ∧ (bnd k c e).natAbs < 2 ^ 600 := by
  have c0 := h.c0
  have c1 := h.c1
  have e0 := h.e0
  have e1 := h.e1
  have pw : ∀ x : Nat, x < 300 → 0 ≤ (c + 1) * 2 ^ x ∧ ((c + 1) * 2 ^ x).natAbs < 2 ^ 600 := fun x hx => by
    refine ⟨Int.mul_nonneg (by omega) (Int.le_of_lt (pow_pos2 x)), ?_⟩
    have h1 : (2 : Nat) ^ x < 2 ^ 300 := Nat.pow_lt_pow_right (by decide) hx
    rw [Int.natAbs_mul, Int.natAbs_pow]
    have h2 : (c + 1).natAbs < 2 ^ 300 := Nat.lt_of_le_of_lt (show (c + 1).natAbs ≤ 2 ^ 200 by omega) (by decide)
    have : (2 : Nat) ^ 600 = 2 ^ 300 * 2 ^ 300 := by decide
    rw [this]
    exact Nat.mul_lt_mul_of_lt_of_lt h2 h1
  unfold bnd
  split
  · split
    · exact pw _ (by omega)
    · decide
  · exact pw _ (by omega)
theorem gr_loop {b : Int} {R : Sl} (hb : 0 < b) : ∀ (ts : List Int) (m f : Int) (s5 s6 : Sl), 0 ≤ f → 0 ≤ m → (∀ t ∈ ts, m < t ∧ t ≤ 10000000000000000000000000) → ts.Pairwise (· < ·) → ∃ t5 t6 m' f',
    forRun (gNm 5) (sSeq (sAsg (xOp fdivD (xOp subD (xOp subD (xVar 5) (xVar 4)) (xC (.int 1))) (xVar 3)) (gNm 6)) (sSeq (sIf (xBool (xOp gtD (xVar 6) (xVar 2))) sBrk sNext) (sSeq (sAug 2 (fun i j => i - j) (xVar 6)) (sAsg (xVar 5) (gNm 4))))) (ts.map .int) [.d (.str k), R, .d (.int f), .d (.int b), .d (.int m), s5, s6] os = some (.nx [.d (.str k), R, .d (.int f'), .d (.int b), .d (.int m'), t5, t6] os) ∧ m' + (f' + 1) * b = gw b ts m f ∧ 0 ≤ f' ∧ f' ≤ f
  | [], m, f, s5, s6, hf, _, _, _ => ⟨s5, s6, m, f, rfl, rfl, hf, Int.le_refl _⟩
  | t :: r, m, f, s5, s6, hf, hm, h, a => by
    obtain ⟨a1, a2⟩ := List.pairwise_cons.mp a
    have ht := h t (by simp)
    have q := fdivD_ok (a := t - m - 1) (b := b) (p := 100) hb (by omega) (by decide)
    have dn : 0 ≤ (t - m - 1) / b := Int.ediv_nonneg (by omega) (Int.le_of_lt hb)
    generalize hw : (t - m - 1) / b = w at q dn
    have s1 : sAsg (xOp fdivD (xOp subD (xOp subD (xVar 5) (xVar 4)) (xC (.int 1))) (xVar 3)) (gNm 6) [.d (.str k), R, .d (.int f), .d (.int b), .d (.int m), .d (.int t), s6] os = some (.nx [.d (.str k), R, .d (.int f), .d (.int b), .d (.int m), .d (.int t), .d (.int w)] os) := by
      simp -implicitDefEqProofs [q]
    by_cases z : w > f
    · have b1 : (sSeq (sAsg (xOp fdivD (xOp subD (xOp subD (xVar 5) (xVar 4)) (xC (.int 1))) (xVar 3)) (gNm 6)) (sSeq (sIf (xBool (xOp gtD (xVar 6) (xVar 2))) sBrk sNext) (sSeq (sAug 2 (fun i j => i - j) (xVar 6)) (sAsg (xVar 5) (gNm 4))))) [.d (.str k), R, .d (.int f), .d (.int b), .d (.int m), .d (.int t), s6] os = some (.bk [.d (.str k), R, .d (.int f), .d (.int b), .d (.int m), .d (.int t), .d (.int w)] os) := by
        refine seq_nx s1 (seq_bk ?_)
        simp -implicitDefEqProofs [z]
      refine ⟨.d (.int t), .d (.int w), m, f, ?_, ?_, hf, Int.le_refl _⟩
      · simp -implicitDefEqProofs only [List.map_cons, forRun, a_nm, List.set_cons_succ, List.set_cons_zero, Option.bind_some, b1]
      · simp only [gw, hw, if_pos z]
    · obtain ⟨t5, t6, m', f', q1, q2, q3, q4⟩ := gr_loop (R := R) hb r t (f - w) (.d (.int t)) (.d (.int w)) (by omega) (by omega) (fun x hx => ⟨a1 x hx, (h x (by simp [hx])).2⟩) a2
      have b1 : (sSeq (sAsg (xOp fdivD (xOp subD (xOp subD (xVar 5) (xVar 4)) (xC (.int 1))) (xVar 3)) (gNm 6)) (sSeq (sIf (xBool (xOp gtD (xVar 6) (xVar 2))) sBrk sNext) (sSeq (sAug 2 (fun i j => i - j) (xVar 6)) (sAsg (xVar 5) (gNm 4))))) [.d (.str k), R, .d (.int f), .d (.int b), .d (.int m), .d (.int t), s6] os = some (.nx [.d (.str k), R, .d (.int (f - w)), .d (.int b), .d (.int t), .d (.int t), .d (.int w)] os) := by
        refine seq_nx s1 (seq_nx (ρ1 := [.d (.str k), R, .d (.int f), .d (.int b), .d (.int m), .d (.int t), .d (.int w)]) (os1 := os) ?_ ?_)
        · simp -implicitDefEqProofs [z]
        · rfl
      refine ⟨t5, t6, m', f', ?_, ?_, q3, by omega⟩
      · simp -implicitDefEqProofs only [List.map_cons, forRun, a_nm, List.set_cons_succ, List.set_cons_zero, Option.bind_some, b1, q1]
      · simp only [gw, hw, if_neg z]
        exact q2
theorem int_zero {x : Int} : eqD (.int x) (.int 0) = some (.bool (decide (x = 0))) := by
  simp [eqD, SeqAt.shaped, PyData.canLay0, PyData.depth, PyData.eqv]
  by_cases z : x = 0 <;> simp [z]
def grv (k : Str) (c e : Int) (ts : List Int) (f : Int) : Int := if bnd k c e = 0 then 0 else gw (bnd k c e) ts 0 f
theorem reached_ok {f : Int} (h : Rn c e ts) (hf : 0 ≤ f) (hf2 : f < 2 ^ 100) : m_greatest_reached [.d (.str k), .d (roomD c e ts), .d (.int f)] os = some (.int (grv k c e ts f), os) := by
  have bl := bnd_lt (k := k) h
  have bo := bound_ok (k := k) (os := os) h
  unfold m_greatest_reached grv
  rw [m_3]
  generalize hb : bnd k c e = b at bl bo
  by_cases z : b = 0
  · subst z
    simp -implicitDefEqProofs [b_greatest_reached, bo, int_zero]
  · rw [if_neg z]
    obtain ⟨t5, t6, m', f', q1, q2, q3, q4⟩ := gr_loop (k := k) (os := os) (R := .d (roomD c e ts)) (b := b) (by omega) ts 0 f .u .u hf (by decide) (fun t ht => ⟨by have := h.tops.low t ht; omega, h.tops.top t ht⟩) h.tops.asc
    have mu : mulD (.int (f' + 1)) (.int b) = some (.int ((f' + 1) * b)) := mulD_ok (p := 200) (q := 600) (Nat.lt_of_le_of_lt (show (f' + 1).natAbs ≤ 2 ^ 100 by omega) (by decide)) bl.2 (by decide)
    have main : b_greatest_reached (.d (.str k) :: .d (roomD c e ts) :: .d (.int f) :: List.replicate (7 - 3) .u) os = some (.rt (.int (gw b ts 0 f)) os) := by
      unfold b_greatest_reached
      refine seq_nx (ρ1 := [.d (.str k), .d (roomD c e ts), .d (.int f), .d (.int b), .u, .u, .u]) (os1 := os) (by simp -implicitDefEqProofs [bo]) ?_
      refine seq_nx (ρ1 := [.d (.str k), .d (roomD c e ts), .d (.int f), .d (.int b), .u, .u, .u]) (os1 := os) (by simp -implicitDefEqProofs [int_zero, z]) ?_
      refine seq_nx (ρ1 := [.d (.str k), .d (roomD c e ts), .d (.int f), .d (.int b), .d (.int 0), .u, .u]) (os1 := os) (by simp -implicitDefEqProofs) ?_
      refine seq_nx (ρ1 := [.d (.str k), .d (roomD c e ts), .d (.int f'), .d (.int b), .d (.int m'), t5, t6]) (os1 := os) ?_ ?_
      · rw [← q1, a_for]
        simp -implicitDefEqProofs only [a_iLst, a_op, a_c, a_var, List.getElem?_cons_zero, List.getElem?_cons_succ, slD_d, Option.map_some, Option.bind_some, room2, listOf_list]
      · simp -implicitDefEqProofs [mu, q2]
    rw [main]
    simp
theorem greatest_ok (hk : Kd k) (h : Rn c e ts) : m_greatest [.d (.str k), .d (roomD c e ts)] os = some (.int (grv k c e ts 0), os) := by
  unfold m_greatest
  rw [m_2]
  simp -implicitDefEqProofs [b_greatest, kind_check hk, room_check h, reached_ok h]
theorem with_ok {f : Int} (hk : Kd k) (h : Rn c e ts) (hf : 0 ≤ f) (hf2 : f < 2 ^ 100) : m_greatest_with [.d (.str k), .d (roomD c e ts), .d (.int f)] os = some (.int (grv k c e ts f), os) := by
  unfold m_greatest_with
  rw [m_3]
  simp -implicitDefEqProofs [b_greatest_with, kind_check hk, room_check h, check_from_ok (show f ≥ 0 from hf), reached_ok h hf hf2]
theorem bound_pub (hk : Kd k) (h : Rn c e ts) : m_bound [.d (.str k), .d (roomD c e ts)] os = some (.int (bnd k c e), os) := by
  unfold m_bound
  rw [m_2]
  simp -implicitDefEqProofs [b_bound, kind_check hk, room_check h, bound_ok h]
/-! the law's own -/
theorem lg_loop {b : Int} {R s3 s4 s5 : Sl} (hb : 0 < b) : ∀ (ts : List Int) (m : Int) (s2 : Sl), (∀ t ∈ ts, m < t) → ts.Pairwise (· < ·) → ∃ t2,
    forRun (gNm 2) (sAsg (xIf (xAndT (xBool (xOp gtD (xVar 6) (xC (.int 0)))) (xBool (xOp leD (xOp subD (xVar 2) (xVar 7)) (xVar 6)))) (xVar 2) (xVar 7)) (gNm 7)) (ts.map .int) [.d (.str k), R, s2, s3, s4, s5, .d (.int b), .d (.int m)] os = some (.nx [.d (.str k), R, t2, s3, s4, s5, .d (.int b), .d (.int (lst m (chn b ts m)))] os)
  | [], m, s2, _, _ => ⟨s2, rfl⟩
  | t :: r, m, s2, h, a => by
    obtain ⟨a1, a2⟩ := List.pairwise_cons.mp a
    have ht := h t (by simp)
    by_cases z : t - m ≤ b
    · obtain ⟨t2, q⟩ := lg_loop (R := R) (s3 := s3) (s4 := s4) (s5 := s5) hb r t (.d (.int t)) a1 a2
      refine ⟨t2, ?_⟩
      have b1 : (sAsg (xIf (xAndT (xBool (xOp gtD (xVar 6) (xC (.int 0)))) (xBool (xOp leD (xOp subD (xVar 2) (xVar 7)) (xVar 6)))) (xVar 2) (xVar 7)) (gNm 7)) [.d (.str k), R, .d (.int t), s3, s4, s5, .d (.int b), .d (.int m)] os = some (.nx [.d (.str k), R, .d (.int t), s3, s4, s5, .d (.int b), .d (.int t)] os) := by
        simp -implicitDefEqProofs [hb, z]
      simp -implicitDefEqProofs only [List.map_cons, forRun, a_nm, List.set_cons_succ, List.set_cons_zero, Option.bind_some, b1, q, chn, if_pos z, lst]
    · have hr : chn b r m = [] := by
        cases r with
        | nil => rfl
        | cons x r =>
          have := a1 x (by simp)
          simp only [chn]
          rw [if_neg (by omega)]
      obtain ⟨t2, q⟩ := lg_loop (R := R) (s3 := s3) (s4 := s4) (s5 := s5) hb r m (.d (.int t)) (fun x hx => by have := a1 x hx; omega) a2
      rw [hr] at q
      refine ⟨t2, ?_⟩
      have b1 : (sAsg (xIf (xAndT (xBool (xOp gtD (xVar 6) (xC (.int 0)))) (xBool (xOp leD (xOp subD (xVar 2) (xVar 7)) (xVar 6)))) (xVar 2) (xVar 7)) (gNm 7)) [.d (.str k), R, .d (.int t), s3, s4, s5, .d (.int b), .d (.int m)] os = some (.nx [.d (.str k), R, .d (.int t), s3, s4, s5, .d (.int b), .d (.int m)] os) := by
        simp -implicitDefEqProofs [hb, z]
      simp -implicitDefEqProofs only [List.map_cons, forRun, a_nm, List.set_cons_succ, List.set_cons_zero, Option.bind_some, b1, q, chn, if_neg z, lst]
end
end Lw

set_option Elab.async false
set_option linter.all false
set_option maxRecDepth 100000
set_option maxHeartbeats 4000000
set_option exponentiation.threshold 3000
namespace Lw
open PySem PySem.Spec PyProof.Rows L2 Evl DL
section
variable {k : Str} {c e n b : Int} {ts : List Int} {os : Os}
theorem rgR_ok {ρ : List Sl} {os1 : Os} {xr : XR} {i j : Int} (h : xr ρ os = some ((i, j), os1)) (h1 : -(2 ^ 62) ≤ i) (h2 : i < 2 ^ 62) (h3 : -(2 ^ 62) ≤ j) (h4 : j < 2 ^ 62) : iRgR xr ρ os = some (downD (i + (((j - i).toNat : Nat) : Int) - 1) (j - i).toNat, os1) := by
  unfold iRgR
  rw [h, Option.bind_some]
  simp only
  rw [if_pos ⟨h1, h2, h3, h4⟩]
theorem between_ok {low high w : Int} (hb : 0 < b) (hb2 : b.natAbs < 2 ^ 600) (hw : (high - low - 1) / b = w) (h : 0 ≤ w ∧ w ≤ 1) (hh : (high - low - 1).natAbs < 2 ^ 200) : m_tops_between [.d (.int low), .d (.int high), .d (.int b)] os = some (.list (if w = 0 then [] else [.int (high - b)]), os) := by
  unfold m_tops_between
  rw [m_3]
  have q := fdivD_ok (a := high - low - 1) (b := b) (p := 200) hb hh (by decide)
  rw [hw] at q
  have m1 : mulD (.int b) (.int 1) = some (.int b) := by
    rw [mulD_ok (p := 600) (q := 10) hb2 (by decide) (by decide), Int.mul_one]
  rcases (show w = 0 ∨ w = 1 by omega) with z | z
  · subst z
    have r1 : iRgR (rg2 (xC (.int 1)) (xOp addD (xVar 3) (xC (.int 1)))) [.d (.int low), .d (.int high), .d (.int b), .d (.int 0), .u] os = some ([], os) := by
      rw [rgR_ok (os1 := os) (i := 1) (j := 1) (by simp -implicitDefEqProofs [rg2]) (by decide) (by decide) (by decide) (by decide)]
      rfl
    have c1 : (lcD (iRgR (rg2 (xC (.int 1)) (xOp addD (xVar 3) (xC (.int 1))))) (gNm 4) xYes (xOp subD (xVar 1) (xOp mulD (xVar 2) (xVar 4))) [4]) [.d (.int low), .d (.int high), .d (.int b), .d (.int 0), .u] os = some ([], os) := by
      unfold lcD
      rw [r1, Option.bind_some]
      rfl
    simp -implicitDefEqProofs only [b_tops_between, List.reduceReplicate, Nat.reduceSub, a_seq, a_asg, a_op, a_c, a_var, List.getElem?_cons_zero, List.getElem?_cons_succ, slD_d, Option.map_some, Option.bind_some, subD_int, q, a_nm, List.set_cons_succ, List.set_cons_zero, a_ret, a_F, c1, outM_rt, if_true]
    simp
  · subst z
    have r1 : iRgR (rg2 (xC (.int 1)) (xOp addD (xVar 3) (xC (.int 1)))) [.d (.int low), .d (.int high), .d (.int b), .d (.int 1), .u] os = some ([.int 1], os) := by
      rw [rgR_ok (os1 := os) (i := 1) (j := 2) (by simp -implicitDefEqProofs [rg2]) (by decide) (by decide) (by decide) (by decide)]
      rfl
    have c1 : (lcD (iRgR (rg2 (xC (.int 1)) (xOp addD (xVar 3) (xC (.int 1))))) (gNm 4) xYes (xOp subD (xVar 1) (xOp mulD (xVar 2) (xVar 4))) [4]) [.d (.int low), .d (.int high), .d (.int b), .d (.int 1), .u] os = some ([.int (high - b)], os) := by
      unfold lcD
      rw [r1, Option.bind_some]
      simp -implicitDefEqProofs [lcRun, wipeR, m1, sizeLine]
    simp -implicitDefEqProofs only [b_tops_between, List.reduceReplicate, Nat.reduceSub, a_seq, a_asg, a_op, a_c, a_var, List.getElem?_cons_zero, List.getElem?_cons_succ, slD_d, Option.map_some, Option.bind_some, subD_int, q, a_nm, List.set_cons_succ, List.set_cons_zero, a_ret, a_F, c1, outM_rt]
    simp
theorem stretches_cut {S : List (Int × Int)} {rest acc : List PyData} {ρ : List Sl} {xg : XG} {tt : XT} {xi1 : XI} {xg1 : XG} {tt1 : XT} {te : XE} {vs1 : List Nat} (h : ∀ p ∈ S, ∃ ρ1, xg (pairD p) ρ = some ρ1 ∧ tt ρ1 os = some (true, os) ∧ xi1 ρ1 os = some ([], os)) : lc2Run xg tt xi1 xg1 tt1 te vs1 ρ (S.map pairD ++ rest) acc os = lc2Run xg tt xi1 xg1 tt1 te vs1 ρ rest acc os := by
  induction S with
  | nil => rfl
  | cons p r ih =>
    obtain ⟨ρ1, h1, h2, h3⟩ := h p (by simp)
    rw [List.map_cons, List.cons_append]
    simp only [lc2Run, h1, Option.bind_some, h2, if_true, h3, lcRun]
    exact ih (fun q hq => h q (by simp [hq]))
theorem to_add_ok (hk : Kd k) (h : Rn c e ts) (hb : 0 < bnd k c e) (hG : lst 0 (chn (bnd k c e) ts 0) + bnd k c e < 2 ^ 150) : m_tops_to_add [.d (.str k), .d (roomD c e ts), .d (.int (lst 0 (chn (bnd k c e) ts 0) + bnd k c e + 1))] os = some (.list [.int (lst 0 (chn (bnd k c e) ts 0) + 1)], os) := by
  have hl := lst_ge (b := bnd k c e) (ts := ts) (m := 0) (fun t ht => by have := h.tops.low t ht; omega) h.tops.asc
  have hS := stch_chn (b := bnd k c e) (x := lst 0 (chn (bnd k c e) ts 0) + bnd k c e + 1) h.tops (by omega) (by omega)
  have hst := stretches_ok (n := lst 0 (chn (bnd k c e) ts 0) + bnd k c e + 1) (os := os) h.tops
  have hmem := fun p hp => stch_mem (n := lst 0 (chn (bnd k c e) ts 0) + bnd k c e + 1) h.tops (by omega) (p := p) hp
  have bl := bnd_lt (k := k) h
  have bo := bound_ok (k := k) (os := os) h
  have hgap := fun p hp => chn_gap (b := bnd k c e) (ts := ts) (m := 0) p hp
  have rc := run_check (os := os) (n := lst 0 (chn (bnd k c e) ts 0) + bnd k c e + 1) hk h (by omega)
  rw [hS] at hst hmem
  generalize hbb : bnd k c e = b at *
  generalize hL : lst 0 (chn b ts 0) = L at *
  generalize hz : (0 :: chn b ts 0).zip (chn b ts 0) = Z at *
  unfold m_tops_to_add
  rw [m_3]
  have c1 : (lc2D (iLst (xFn m_stretches_of (xaD (xOp ixD (xVar 1) (xC (.int 2))) (xaD (xVar 2) xaNil)))) (gTp 2 (gsCons (gNm 5) (gsCons (gNm 6) gsNil))) xYes (iLst (xFn m_tops_between (xaD (xVar 5) (xaD (xVar 6) (xaD (xVar 3) xaNil))))) (gNm 4) xYes (xVar 4) [5, 6, 4] [4]) [.d (.str k), .d (roomD c e ts), .d (.int (L + b + 1)), .d (.int b), .u, .u, .u] os = some ([.int (L + 1)], os) := by
    unfold lc2D
    have i1 : iLst (xFn m_stretches_of (xaD (xOp ixD (xVar 1) (xC (.int 2))) (xaD (xVar 2) xaNil))) [.d (.str k), .d (roomD c e ts), .d (.int (L + b + 1)), .d (.int b), .u, .u, .u] os = some ((Z ++ [(L, L + b + 1)]).map pairD, os) := by
      simp -implicitDefEqProofs only [a_iLst, a_fn, a_d, a_op, a_c, a_nil, a_var, List.getElem?_cons_zero, List.getElem?_cons_succ, slD_d, Option.map_some, Option.bind_some, room2, hst, listOf_list]
    rw [i1, Option.bind_some]
    simp only
    rw [List.map_append, stretches_cut]
    · have w1 : (L + b + 1 - L - 1) / b = 1 := by
        have : L + b + 1 - L - 1 = b := by omega
        rw [this, Int.ediv_self (Int.ne_of_gt hb)]
      have bt := between_ok (os := os) (low := L) (high := L + b + 1) (w := 1) hb bl.2 w1 (by decide) (by omega)
      have e1 : L + b + 1 - b = L + 1 := by omega
      rw [if_neg (by decide), e1] at bt
      simp -implicitDefEqProofs [lc2Run, pairD, wipeR, bt, lcRun, sizeLine]
    · intro p hp
      refine ⟨[.d (.str k), .d (roomD c e ts), .d (.int (L + b + 1)), .d (.int b), .u, .d (.int p.1), .d (.int p.2)], rfl, rfl, ?_⟩
      have g1 := hgap p hp
      have g2 := hmem p (by simp [hp])
      have w0 : (p.2 - p.1 - 1) / b = 0 := Int.ediv_eq_zero_of_lt (by omega) (by omega)
      have bt := between_ok (os := os) (low := p.1) (high := p.2) (w := 0) hb bl.2 w0 (by decide) (by omega)
      rw [if_pos rfl] at bt
      simp -implicitDefEqProofs [bt]
  have zb : b ≠ 0 := by omega
  simp -implicitDefEqProofs only [b_tops_to_add, List.reduceReplicate, Nat.reduceSub, a_seq, a_drop, a_fn, a_d, a_var, a_nil, List.getElem?_cons_zero, List.getElem?_cons_succ, slD_d, Option.map_some, Option.bind_some, rc, a_asg, bo, a_nm, List.set_cons_succ, List.set_cons_zero, a_sIf, a_bool, a_op, a_c, int_zero, zb, decide_false, boolOf_bool, Bool.false_eq_true, if_false, a_next, a_ret, a_F, c1, outM_rt]
  simp
end
end Lw

set_option Elab.async false
set_option linter.all false
set_option maxRecDepth 100000
set_option maxHeartbeats 4000000
set_option exponentiation.threshold 3000
namespace Lw
open PySem PySem.Spec PyProof.Rows L2 Evl DL
section
variable {k : Str} {c e n b : Int} {ts : List Int} {os : Os}
theorem lg0_loop {R s3 s4 s5 : Sl} : ∀ (ts : List Int) (s2 : Sl), ∃ t2,
    forRun (gNm 2) (sAsg (xIf (xAndT (xBool (xOp gtD (xVar 6) (xC (.int 0)))) (xBool (xOp leD (xOp subD (xVar 2) (xVar 7)) (xVar 6)))) (xVar 2) (xVar 7)) (gNm 7)) (ts.map .int) [.d (.str k), R, s2, s3, s4, s5, .d (.int 0), .d (.int 0)] os = some (.nx [.d (.str k), R, t2, s3, s4, s5, .d (.int 0), .d (.int 0)] os)
  | [], s2 => ⟨s2, rfl⟩
  | t :: r, s2 => by
    obtain ⟨t2, q⟩ := lg0_loop (R := R) (s3 := s3) (s4 := s4) (s5 := s5) r (.d (.int t))
    refine ⟨t2, ?_⟩
    have b1 : (sAsg (xIf (xAndT (xBool (xOp gtD (xVar 6) (xC (.int 0)))) (xBool (xOp leD (xOp subD (xVar 2) (xVar 7)) (xVar 6)))) (xVar 2) (xVar 7)) (gNm 7)) [.d (.str k), R, .d (.int t), s3, s4, s5, .d (.int 0), .d (.int 0)] os = some (.nx [.d (.str k), R, .d (.int t), s3, s4, s5, .d (.int 0), .d (.int 0)] os) := by
      simp -implicitDefEqProofs
    simp -implicitDefEqProofs only [List.map_cons, forRun, a_nm, List.set_cons_succ, List.set_cons_zero, Option.bind_some, b1, q]
theorem law_greatest_ok (h : Rn c e ts) : m_law_greatest [.d (.str k), .d (roomD c e ts)] os = some (.int (grv k c e ts 0), os) := by
  have c0 := h.c0
  have c1 := h.c1
  have e0 := h.e0
  have e1 := h.e1
  have x1 : (xIf (xAndT (xBool (xOp eqD (xVar 0) (xC (.str "into")))) (xBool (xOp eqD (xVar 4) (xC (.int 0))))) (xC (.int 0)) (xOp mulD (xOp addD (xVar 3) (xC (.int 1))) (xOp shlD (xC (.int 1)) (xOp subD (xVar 4) (xCall intD (xaD (xOp eqD (xVar 0) (xC (.str "into"))) xaNil)))))) [.d (.str k), .d (roomD c e ts), .u, .d (.int c), .d (.int e), .d (.list (ts.map .int)), .u, .u] os = some (.int (bnd k c e), os) := by
    have s2 : ∀ x : Int, 0 ≤ x → x < 300 → shlD (.int 1) (.int x) = some (.int (2 ^ x.toNat)) := fun x h1 h2 => by
      rw [shlD_ok (p := 40) h1 (by decide) (by omega), Int.one_mul]
    have s3 : ∀ x : Int, 0 ≤ x → x < 300 → mulD (.int (c + 1)) (.int (2 ^ x.toNat)) = some (.int ((c + 1) * 2 ^ x.toNat)) := fun x h1 h2 =>
      mulD_ok (p := 201) (q := 300) (by omega) (pow_lt300 h1 h2) (by decide)
    unfold bnd
    by_cases hk : k = "into"
    · subst hk
      by_cases he : e = 0
      · subst he
        simp -implicitDefEqProofs [int_zero]
      · have he' : e > 0 := by omega
        have e9 : (e - 1).toNat = e.toNat - 1 := by omega
        have s4 := s3 (e - 1) (by omega) (by omega)
        rw [e9] at s4
        simp -implicitDefEqProofs [int_zero, he, he', s2 (e - 1) (by omega) (by omega), s4]
    · simp -implicitDefEqProofs [hk, s2 e e0 e1, s3 e e0 e1]
  have bl := bnd_lt (k := k) h
  unfold m_law_greatest grv
  rw [m_2]
  generalize hb : bnd k c e = b at x1 bl
  have g1 : gTp 3 (gsCons (gNm 3) (gsCons (gNm 4) (gsCons (gNm 5) gsNil))) (roomD c e ts) [.d (.str k), .d (roomD c e ts), .u, .u, .u, .u, .u, .u] = some [.d (.str k), .d (roomD c e ts), .u, .d (.int c), .d (.int e), .d (.list (ts.map .int)), .u, .u] := rfl
  have main : b_law_greatest (.d (.str k) :: .d (roomD c e ts) :: List.replicate (8 - 2) .u) os = some (.rt (.int (if b = 0 then 0 else gw b ts 0 0)) os) := by
    unfold b_law_greatest
    refine seq_nx (ρ1 := [.d (.str k), .d (roomD c e ts), .u, .d (.int c), .d (.int e), .d (.list (ts.map .int)), .u, .u]) (os1 := os) (by simp -implicitDefEqProofs [g1]) ?_
    refine seq_nx (ρ1 := [.d (.str k), .d (roomD c e ts), .u, .d (.int c), .d (.int e), .d (.list (ts.map .int)), .d (.int b), .d (.int 0)]) (os1 := os) (by simp -implicitDefEqProofs only [a_par, x1, Option.bind_some, a_c, Option.map_some, List.set_cons_succ, List.set_cons_zero]) ?_
    by_cases z : b = 0
    · subst z
      obtain ⟨t2, q⟩ := lg0_loop (k := k) (os := os) (R := .d (roomD c e ts)) (s3 := .d (.int c)) (s4 := .d (.int e)) (s5 := .d (.list (ts.map .int))) ts .u
      refine seq_nx (ρ1 := [.d (.str k), .d (roomD c e ts), t2, .d (.int c), .d (.int e), .d (.list (ts.map .int)), .d (.int 0), .d (.int 0)]) (os1 := os) ?_ ?_
      · rw [← q, a_for]
        simp -implicitDefEqProofs only [a_iLst, a_var, List.getElem?_cons_zero, List.getElem?_cons_succ, slD_d, Option.map_some, Option.bind_some, listOf_list]
      · simp -implicitDefEqProofs
    · have hb0 : 0 < b := by omega
      obtain ⟨t2, q⟩ := lg_loop (k := k) (os := os) (R := .d (roomD c e ts)) (s3 := .d (.int c)) (s4 := .d (.int e)) (s5 := .d (.list (ts.map .int))) hb0 ts 0 .u (fun t ht => by have := h.tops.low t ht; omega) h.tops.asc
      rw [if_neg z, gw_zero hb0 (fun t ht => by have := h.tops.low t ht; omega) h.tops.asc]
      refine seq_nx (ρ1 := [.d (.str k), .d (roomD c e ts), t2, .d (.int c), .d (.int e), .d (.list (ts.map .int)), .d (.int b), .d (.int (lst 0 (chn b ts 0)))]) (os1 := os) ?_ ?_
      · rw [← q, a_for]
        simp -implicitDefEqProofs only [a_iLst, a_var, List.getElem?_cons_zero, List.getElem?_cons_succ, slD_d, Option.map_some, Option.bind_some, listOf_list]
      · simp -implicitDefEqProofs [hb0]
  rw [main]
  simp
/-! needed tops -/
theorem no_jump {p : Int} : ∀ {ts : List Int} {m : Int}, m ≤ p → (∀ y ∈ ts, y ≤ p ∨ y > p + b) → lst m (chn b ts m) ≤ p
  | [], m, h, _ => h
  | t :: r, m, h, hy => by
    by_cases z : t - m ≤ b
    · simp only [chn, if_pos z, lst]
      have := hy t (by simp)
      exact no_jump (by omega) (fun y h => hy y (by simp [h]))
    · simp only [chn, if_neg z, lst]
      exact h
def nds (b : Int) (M : List Int) : List Nat := (List.range (M.length - 2)).filter fun i => decide (M.getD (i + 2) 0 - M.getD i 0 > b)
theorem needed_ok (hk : Kd k) (h : Rn c e ts) (hn : 1 ≤ n) (hp : wid ts n ≤ bnd k c e) : m_needed_tops [.d (.str k), .d (roomD c e ts), .d (.int n)] os = some (.list ((nds (bnd k c e) (mk ts n)).map fun i => PyData.int ((mk ts n).getD (i + 1) 0)), os) := by
  have ck : m_check_passes [.d (.str k), .d (roomD c e ts), .d (.int n)] os = some (.none, os) := by
    unfold m_check_passes
    rw [m_3]
    have ps := pass_simple (k := k) (n := n) (os := os) hk h
    rw [decide_eq_true hp] at ps
    simp -implicitDefEqProofs [b_check_passes, run_check hk h hn, ps]
  have bo := bound_ok (k := k) (os := os) h
  have mo := marks_ok (n := n) (os := os) h.tops
  have ml := mk_len (n := n) h.tops
  unfold m_needed_tops
  rw [m_3]
  have ml2 : 2 ≤ (mk ts n).length := by simp [mk]
  generalize hM : mk ts n = M at *
  generalize hb : bnd k c e = b at *
  have c1 : (lcD (iRg (xaD (xC (.int 1)) (xaD (xOp subD (xCall lenD (xaD (xVar 4) xaNil)) (xC (.int 1))) xaNil))) (gNm 5) (xBool (xOp gtD (xOp subD (xOp ixD (xVar 4) (xOp addD (xVar 5) (xC (.int 1)))) (xOp ixD (xVar 4) (xOp subD (xVar 5) (xC (.int 1))))) (xVar 3))) (xOp ixD (xVar 4) (xVar 5)) [5]) [.d (.str k), .d (roomD c e ts), .d (.int n), .d (.int b), .d (.list (M.map .int)), .u] os = some ((nds b M).map (fun i => PyData.int (M.getD (i + 1) 0)), os) := by
    unfold nds
    refine lcD_pure (l := List.range (M.length - 2)) (f := fun i : Nat => PyData.int (1 + (i : Int))) (p := fun i => decide (M.getD (i + 2) 0 - M.getD i 0 > b)) (h := fun i => PyData.int (M.getD (i + 1) 0)) ?_ ?_ (small (by rw [List.length_range]; omega))
    · unfold iRg
      have e1 : ((M.length : Int) - 1 - 1).toNat = M.length - 2 := by omega
      have b1 : -(2 ^ 62) ≤ (1 : Int) ∧ (1 : Int) < 2 ^ 62 ∧ -(2 ^ 62) ≤ (M.length : Int) - 1 ∧ (M.length : Int) - 1 < 2 ^ 62 := ⟨by decide, by decide, by omega, by omega⟩
      simp -implicitDefEqProofs only [a_d, a_c, a_op, a_call, a_var, a_nil, List.getElem?_cons_zero, List.getElem?_cons_succ, slD_d, Option.map_some, Option.bind_some, datas_d, datas_nil, lenD_list, List.length_map, subD_int]
      rw [if_pos b1, e1]
      rfl
    · intro i hi
      rw [List.mem_range] at hi
      refine ⟨[.d (.str k), .d (roomD c e ts), .d (.int n), .d (.int b), .d (.list (M.map .int)), .d (.int (1 + (i : Int)))], rfl, ?_, fun _ => ?_⟩
      · have i1 : ixD (.list (M.map .int)) (.int (1 + (i : Int) + 1)) = some (.int (M.getD (i + 2) 0)) := by
          have := ixD_list (c := M.map .int) (i := i + 2) (x := .int (M.getD (i + 2) 0)) (by
            have : i + 2 < M.length := by omega
            simp [this])
          have e1 : ((i + 2 : Nat) : Int) = 1 + (i : Int) + 1 := by omega
          rw [e1] at this
          exact this
        have i2 : ixD (.list (M.map .int)) (.int (1 + (i : Int) - 1)) = some (.int (M.getD i 0)) := by
          have := ixD_list (c := M.map .int) (i := i) (x := .int (M.getD i 0)) (by
            have : i < M.length := by omega
            simp [this])
          have e1 : (i : Int) = 1 + (i : Int) - 1 := by omega
          rw [e1] at this
          exact this
        simp -implicitDefEqProofs only [a_bool, a_op, a_c, a_var, List.getElem?_cons_zero, List.getElem?_cons_succ, slD_d, Option.map_some, Option.bind_some, addD_int, subD_int, i1, i2, gtD_int, boolOf_bool]
      · have i1 : ixD (.list (M.map .int)) (.int (1 + (i : Int))) = some (.int (M.getD (i + 1) 0)) := by
          have := ixD_list (c := M.map .int) (i := i + 1) (x := .int (M.getD (i + 1) 0)) (by
            have : i + 1 < M.length := by omega
            simp [this])
          have e1 : ((i + 1 : Nat) : Int) = 1 + (i : Int) := by omega
          rw [e1] at this
          exact this
        simp -implicitDefEqProofs only [a_op, a_var, List.getElem?_cons_zero, List.getElem?_cons_succ, slD_d, Option.map_some, Option.bind_some, i1]
  have main : b_needed_tops (.d (.str k) :: .d (roomD c e ts) :: .d (.int n) :: List.replicate (6 - 3) .u) os = some (.rt (.list ((nds b M).map fun i => PyData.int (M.getD (i + 1) 0))) os) := by
    unfold b_needed_tops
    refine seq_nx (ρ1 := [.d (.str k), .d (roomD c e ts), .d (.int n), .u, .u, .u]) (os1 := os) (by simp -implicitDefEqProofs [ck]) ?_
    refine seq_nx (ρ1 := [.d (.str k), .d (roomD c e ts), .d (.int n), .d (.int b), .u, .u]) (os1 := os) (by simp -implicitDefEqProofs [bo]) ?_
    refine seq_nx (ρ1 := [.d (.str k), .d (roomD c e ts), .d (.int n), .d (.int b), .d (.list (M.map .int)), .u]) (os1 := os) (by simp -implicitDefEqProofs [mo, room2]) ?_
    simp -implicitDefEqProofs only [a_ret, a_F, c1, Option.map_some]
  rw [main]
  simp
/-- without a needed top less can go -/
theorem without {i : Nat} {M : Int} (h : Tops ts M) (hn : 1 ≤ n) (hb : 0 < b) (hi : i ∈ nds b (mk ts n)) : lst 0 (chn b (ts.filter fun y => decide (y ≠ (mk ts n).getD (i + 1) 0)) 0) + b < n := by
  unfold nds at hi
  rw [List.mem_filter, List.mem_range, decide_eq_true_eq] at hi
  obtain ⟨h1, h2⟩ := hi
  have asc := mk_asc h hn
  have hm0 : ∀ x ∈ mk ts n, 0 ≤ x ∧ x ≤ n := fun x hx => mk_mem h hn hx
  have g0 : (mk ts n).getD i 0 = (mk ts n)[i] := by simp [show i < (mk ts n).length by omega]
  have g1 : (mk ts n).getD (i + 1) 0 = (mk ts n)[i + 1] := by simp [show i + 1 < (mk ts n).length by omega]
  have g2 : (mk ts n).getD (i + 2) 0 = (mk ts n)[i + 2] := by simp [show i + 2 < (mk ts n).length by omega]
  rw [g0, g2] at h2
  rw [g1]
  have k0 := hm0 _ (List.getElem_mem (show i < (mk ts n).length by omega))
  have k2 := hm0 _ (List.getElem_mem (show i + 2 < (mk ts n).length by omega))
  have nj : lst 0 (chn b (ts.filter fun y => decide (y ≠ (mk ts n)[i + 1])) 0) ≤ (mk ts n)[i] := by
    refine no_jump k0.1 fun y hy => ?_
    rw [List.mem_filter, decide_eq_true_eq] at hy
    by_cases yn : y < n
    · have hym : y ∈ mk ts n := by
        simp only [mk, List.mem_cons, List.mem_append, List.mem_filter, decide_eq_true_eq]
        exact .inr (.inl ⟨hy.1, yn⟩)
      obtain ⟨j, hj, rfl⟩ := List.getElem_of_mem hym
      have mono := List.pairwise_iff_getElem.mp asc
      rcases Nat.lt_trichotomy j (i + 1) with z | z | z
      · rcases Nat.lt_or_ge j i with z2 | z2
        · have := mono j i hj (by omega) z2
          omega
        · have : j = i := by omega
          subst this
          omega
      · subst z
        exact absurd rfl hy.2
      · rcases Nat.lt_or_ge (i + 2) j with z2 | z2
        · have := mono (i + 2) j (by omega) hj z2
          omega
        · have : j = i + 2 := by omega
          subst this
          omega
    · omega
  omega
end
end Lw

set_option Elab.async false
set_option linter.all false
set_option maxRecDepth 100000
set_option maxHeartbeats 4000000
set_option exponentiation.threshold 3000
namespace Lw
open PySem PySem.Spec PyProof.Rows L2 Evl DL
theorem pow_le59 {e : Int} (h0 : 0 ≤ e) (h : e < 60) : (2 : Int) ^ e.toNat ≤ 2 ^ 59 := by
  have h1 : (2 : Nat) ^ e.toNat ≤ 2 ^ 59 := Nat.pow_le_pow_right (by decide) (by omega)
  have h2 : ((2 ^ e.toNat : Nat) : Int) ≤ ((2 ^ 59 : Nat) : Int) := by exact_mod_cast h1
  simpa using h2
theorem bnd_part {c e : Int} (h0 : 0 ≤ c) (h1 : c < 10000000000) (h2 : 0 ≤ e) (h3 : e < 60) : 0 < (c + 1) * 2 ^ e.toNat ∧ (c + 1) * 2 ^ e.toNat ≤ 10000000000 * 2 ^ 59 :=
  ⟨Int.mul_pos (by omega) (pow_pos2 _), Int.mul_le_mul (by omega) (pow_le59 h2 h3) (Int.le_of_lt (pow_pos2 _)) (by decide)⟩
theorem bnd_le {k : Str} {c e : Int} {ts : List Int} (h : Rm c e ts) : 0 ≤ bnd k c e ∧ bnd k c e ≤ 10000000000 * 2 ^ 59 := by
  unfold bnd
  split
  · split
    · have := bnd_part h.c0 h.c1 (e := e - 1) (by omega) (by have := h.e1; omega)
      omega
    · decide
  · have := bnd_part h.c0 h.c1 h.e0 h.e1
    omega

theorem ne_int {x y : Int} : neD (.int x) (.int y) = some (.bool (!decide (x = y))) := by
  simp [neD, SeqAt.shaped, PyData.canLay0, PyData.depth, PyData.eqv]
  by_cases z : x = y <;> simp [z]
theorem eq_int {x y : Int} : eqD (.int x) (.int y) = some (.bool (decide (x = y))) := by
  simp [eqD, SeqAt.shaped, PyData.canLay0, PyData.depth, PyData.eqv]
  by_cases z : x = y <;> simp [z]
theorem is_true (b : Bool) : isD true (.bool b) (.bool true) = some (.bool (!decide (b = true))) := rfl
theorem Rm.rn {c e : Int} {ts : List Int} (h : Rm c e ts) : Rn c e ts := ⟨h.c0, Int.lt_trans h.c1 (by decide), h.e0, by have := h.e1; omega, h.tops⟩
theorem Tops.filter {ts : List Int} {M : Int} (h : Tops ts M) (p : Int → Bool) : Tops (ts.filter p) M :=
  ⟨List.Pairwise.sublist List.filter_sublist h.asc, fun t ht => h.low t ((List.mem_filter.mp ht).1), fun t ht => h.top t ((List.mem_filter.mp ht).1), Nat.le_trans (List.length_filter_le _ _) h.few⟩
section
variable {k : Str} {c e n b : Int} {ts : List Int} {os : Os}
theorem bnd_zero {c e : Int} (h0 : 0 ≤ c) (h2 : 0 ≤ e) (h : bnd k c e = 0) : k = "into" ∧ e = 0 := by
  have pz : ∀ x : Nat, (c + 1) * 2 ^ x ≠ 0 := fun x => Int.ne_of_gt (Int.mul_pos (by omega) (pow_pos2 x))
  unfold bnd at h
  split at h
  · split at h
    · exact absurd h (pz _)
    · exact ⟨by assumption, by omega⟩
  · exact absurd h (pz _)
theorem nd_loop {G : Int} {s3 s8 s9 s10 s11 s12 s13 : Sl} {M : List Int} (hk : Kd k) (h : Rn c e ts) : ∀ (l : List Nat) (s4 : Sl), (∀ i ∈ l, grv k c e (ts.filter fun y => decide (y ≠ M.getD (i + 1) 0)) 0 < G) → ∃ t4,
    forRun (gNm 4) (sIf (xBool (xOp geD (xFn m_greatest (xaD (xVar 0) (xaD (xCall tupD (xaD (xVar 5) (xaD (xVar 6) (xaD (xF (lcD (iLst (xVar 7)) (gNm 13) (xBool (xOp neD (xVar 13) (xVar 4))) (xVar 13) [13])) xaNil)))) xaNil))) (xVar 2))) (sRet (xC (.bool false))) sNext) (l.map fun i => PyData.int (M.getD (i + 1) 0)) [.d (.str k), .d (roomD c e ts), .d (.int G), s3, s4, .d (.int c), .d (.int e), .d (.list (ts.map .int)), s8, s9, s10, s11, s12, s13] os = some (.nx [.d (.str k), .d (roomD c e ts), .d (.int G), s3, t4, .d (.int c), .d (.int e), .d (.list (ts.map .int)), s8, s9, s10, s11, s12, s13] os)
  | [], s4, _ => ⟨s4, rfl⟩
  | i :: r, s4, hi => by
    generalize hx : M.getD (i + 1) 0 = x
    obtain ⟨t4, q⟩ := nd_loop (s3 := s3) (s8 := s8) (s9 := s9) (s10 := s10) (s11 := s11) (s12 := s12) (s13 := s13) hk h r (.d (.int x)) (fun j hj => hi j (by simp [hj]))
    refine ⟨t4, ?_⟩
    have lt := hi i (by simp)
    rw [hx] at lt
    have c1 : (lcD (iLst (xVar 7)) (gNm 13) (xBool (xOp neD (xVar 13) (xVar 4))) (xVar 13) [13]) [.d (.str k), .d (roomD c e ts), .d (.int G), s3, .d (.int x), .d (.int c), .d (.int e), .d (.list (ts.map .int)), s8, s9, s10, s11, s12, s13] os = some ((ts.filter fun y => decide (y ≠ x)).map .int, os) := by
      refine lcD_pure (l := ts) (f := .int) (h := .int) ?_ ?_ (small (by have := h.tops.few; omega))
      · simp -implicitDefEqProofs
      · intro y hy
        refine ⟨[.d (.str k), .d (roomD c e ts), .d (.int G), s3, .d (.int x), .d (.int c), .d (.int e), .d (.list (ts.map .int)), s8, s9, s10, s11, s12, .d (.int y)], rfl, ?_, fun _ => ?_⟩
        · simp -implicitDefEqProofs [ne_int]
        · simp -implicitDefEqProofs
    have gr := greatest_ok (os := os) hk (show Rn c e (ts.filter fun y => decide (y ≠ x)) from ⟨h.c0, h.c1, h.e0, h.e1, h.tops.filter _⟩)
    unfold roomD at gr
    have nlt : ¬ (grv k c e (ts.filter fun y => decide (y ≠ x)) 0 ≥ G) := by omega
    have b1 : (sIf (xBool (xOp geD (xFn m_greatest (xaD (xVar 0) (xaD (xCall tupD (xaD (xVar 5) (xaD (xVar 6) (xaD (xF (lcD (iLst (xVar 7)) (gNm 13) (xBool (xOp neD (xVar 13) (xVar 4))) (xVar 13) [13])) xaNil)))) xaNil))) (xVar 2))) (sRet (xC (.bool false))) sNext) [.d (.str k), .d (roomD c e ts), .d (.int G), s3, .d (.int x), .d (.int c), .d (.int e), .d (.list (ts.map .int)), s8, s9, s10, s11, s12, s13] os = some (.nx [.d (.str k), .d (roomD c e ts), .d (.int G), s3, .d (.int x), .d (.int c), .d (.int e), .d (.list (ts.map .int)), s8, s9, s10, s11, s12, s13] os) := by
      simp -implicitDefEqProofs only [a_sIf, a_bool, a_op, a_fn, a_d, a_nil, a_call, a_F, c1, a_var, List.getElem?_cons_zero, List.getElem?_cons_succ, slD_d, Option.map_some, Option.bind_some, datas_d, datas_nil, tupD_3, gr, geD_int, nlt, decide_false, boolOf_bool, Bool.false_eq_true, if_false, a_next]
    simp -implicitDefEqProofs only [List.map_cons, hx, forRun, a_nm, List.set_cons_succ, List.set_cons_zero, Option.bind_some, b1, q]
theorem sides_ok (hk : Kd k) (hm0 : Rm c e ts) : m_law_sides_right [.d (.str k), .d (roomD c e ts)] os = some (.bool true, os) := by
  have h := hm0.rn
  have hT := h.tops
  have c0 := h.c0
  have e0 := h.e0
  have ble := bnd_le (k := k) hm0
  have hfe := fe_in (k := k)
  have gk := greatest_ok (os := os) hk h
  have lg := law_greatest_ok (k := k) (os := os) h
  have w5 := with_ok (os := os) (f := 5) hk h (by decide) (by decide)
  have w1 := with_ok (os := os) (f := 1) hk h (by decide) (by decide)
  have w0 := with_ok (os := os) (f := 0) hk h (by decide) (by decide)
  have low0 : ∀ t ∈ ts, (0 : Int) < t := fun t ht => by have := hT.low t ht; omega
  unfold m_law_sides_right
  rw [m_2]
  have main : b_law_sides_right (.d (.str k) :: .d (roomD c e ts) :: List.replicate (14 - 2) .u) os = some (.rt (.bool true) os) := by
    by_cases z : bnd k c e = 0
    · obtain ⟨hk1, he1⟩ := bnd_zero c0 e0 z
      have g0 : ∀ f, grv k c e ts f = 0 := fun f => by
        unfold grv
        rw [if_pos z]
      rw [g0] at gk lg w5
      have r0 := repr_ok (pr_int (i := 0) (by decide)) (by decide)
      unfold b_law_sides_right
      refine seq_nx (ρ1 := [.d (.str k), .d (roomD c e ts), .u, .u, .u, .d (.int c), .d (.int e), .d (.list (ts.map .int)), .u, .u, .u, .u, .u, .u]) (os1 := os) rfl ?_
      refine seq_nx (ρ1 := [.d (.str k), .d (roomD c e ts), .d (.int 0), .u, .u, .d (.int c), .d (.int e), .d (.list (ts.map .int)), .u, .u, .u, .u, .u, .u]) (os1 := os) (by simp -implicitDefEqProofs [gk]) ?_
      refine seq_nx (ρ1 := [.d (.str k), .d (roomD c e ts), .d (.int 0), .u, .u, .d (.int c), .d (.int e), .d (.list (ts.map .int)), .u, .u, .u, .u, .u, .u]) (os1 := os) (by simp -implicitDefEqProofs [lg, r0]) ?_
      subst hk1 he1
      simp -implicitDefEqProofs [eq_int, w5]
    · have hb : 0 < bnd k c e := by omega
      have hs : ¬ (k = "into" ∧ e = 0) := fun q => by
        apply z
        rw [q.2]
        exact bnd_into0 q.1
      have sp := shr_pos hs e0
      have gval : ∀ f, grv k c e ts f = gw (bnd k c e) ts 0 f := fun f => by
        unfold grv
        rw [if_neg z]
      have gz := gw_zero hb (m := 0) low0 hT.asc
      have go := gw_one hb (m := 0) low0 hT.asc
      have hl := lst_ge (b := bnd k c e) (ts := ts) (m := 0) low0 hT.asc
      have hL2 : lst 0 (chn (bnd k c e) ts 0) ≤ 10000000000000000000000000 := by
        have : ∀ (l : List Int) (m : Int), (∀ t ∈ l, t ≤ 10000000000000000000000000) → m ≤ 10000000000000000000000000 → lst m l ≤ 10000000000000000000000000 := fun l => by
          induction l with
          | nil => exact fun m _ hm => hm
          | cons t r ih => exact fun m hl _ => ih t (fun x hx => hl x (by simp [hx])) (hl t (by simp))
        refine this _ _ (fun t ht => ?_) (by decide)
        have hsub : ∀ (l : List Int) (m : Int), ∀ t ∈ chn (bnd k c e) l m, t ∈ l := fun l => by
          induction l with
          | nil => intro m t ht; simp [chn] at ht
          | cons y r ih =>
            intro m t ht
            simp only [chn] at ht
            split at ht
            · rcases List.mem_cons.mp ht with q | q
              · simp [q]
              · simp [ih _ t q]
            · cases ht
        exact hT.top t (hsub ts 0 t ht)
      have p59 : (10000000000 : Int) * 2 ^ 59 < 10 ^ 30 := by decide
      have wg := wid_go hT hb
      have wm := wid_more hT hb
      have bo := bars_one (k := k) (c := c) (e := e) hT hb
      have ta := to_add_ok (os := os) hk h hb (Int.lt_trans (show _ < (10 : Int) ^ 40 by omega) (by decide))
      have ba := barring_ok (n := lst 0 (chn (bnd k c e) ts 0) + bnd k c e + 1) (os := os) hk h (by omega)
      rw [bo] at ba
      rw [gval, gz] at gk lg w0
      rw [gval] at w1
      have nd := needed_ok (os := os) (n := lst 0 (chn (bnd k c e) ts 0) + bnd k c e) hk h (by omega) wg
      have wi := wid_in hT (n := lst 0 (chn (bnd k c e) ts 0) + bnd k c e) (by omega)
      have wi1 := wid_in hT (n := lst 0 (chn (bnd k c e) ts 0) + bnd k c e + 1) (by omega)
      have ndl := fun i hi => without (i := i) (b := bnd k c e) (n := lst 0 (chn (bnd k c e) ts 0) + bnd k c e) hT (by omega) hb hi
      have bs : bnd k c e = (c + 1) * shr k e := bnd_shr
      -- the least cells
      have lc := least_cells_ok (k := k) (e := e) (n := lst 0 (chn (bnd k c e) ts 0) + bnd k c e) (os := os) hk hT e0 (by have := hm0.e1; omega) (by omega) (by omega)
      have lc1 := least_cells_ok (k := k) (e := e) (n := lst 0 (chn (bnd k c e) ts 0) + bnd k c e + 1) (os := os) hk hT e0 (by have := hm0.e1; omega) (by omega) (by omega)
      unfold lcN at lc lc1
      rw [if_neg hs] at lc lc1
      -- the least columns
      have heE : e = fe k + ((e - fe k).toNat : Nat) := by
        have : fe k ≤ e := by
          unfold fe
          by_cases q : k = "into"
          · rw [if_pos q]
            have : e ≠ 0 := fun y => hs ⟨q, y⟩
            omega
          · rw [if_neg q]
            exact e0
        omega
      have bE : bnd k c e = (c + 1) * 2 ^ (e - fe k).toNat := by
        have := bnd_fe (k := k) (c := c) (i := (e - fe k).toNat)
        rw [← heE] at this
        exact this
      obtain ⟨J, hJ2, hJ⟩ := isJ_100 (c := c) (W := wid ts (lst 0 (chn (bnd k c e) ts 0) + bnd k c e)) c0 (by omega)
      obtain ⟨J', hJ2', hJ'⟩ := isJ_100 (c := c) (W := wid ts (lst 0 (chn (bnd k c e) ts 0) + bnd k c e + 1)) c0 (by omega)
      obtain ⟨m, hm2, hm⟩ := isJ_100 (c := 0) (W := wid ts (lst 0 (chn (bnd k c e) ts 0) + bnd k c e)) (by decide) (by omega)
      have le := least_empty_ok (k := k) (c := c) (n := lst 0 (chn (bnd k c e) ts 0) + bnd k c e) (os := os) hk hT c0 h.c1 (by omega) hJ hJ2
      have le1 := least_empty_ok (k := k) (c := c) (n := lst 0 (chn (bnd k c e) ts 0) + bnd k c e + 1) (os := os) hk hT c0 h.c1 (by omega) hJ' hJ2'
      have JE : J ≤ (e - fe k).toNat := by
        rcases Nat.lt_or_ge (e - fe k).toNat J with q | q
        · have := hJ.2 _ q
          omega
        · exact q
      have JE' : (e - fe k).toNat < J' := by
        rcases Nat.lt_or_ge (e - fe k).toNat J' with q | q
        · exact q
        · have a1 := up2 c0 q
          have a2 := hJ'.1
          omega
      have tr := trades_ok (k := k) (n := lst 0 (chn (bnd k c e) ts 0) + bnd k c e) (os := os) hk hT (by omega) (by omega) hm hm2
      generalize hG : lst 0 (chn (bnd k c e) ts 0) + bnd k c e = G at *
      generalize hLL : lst 0 (chn (bnd k c e) ts 0) = L at *
      generalize hW : wid ts G = W at *
      generalize hW1 : wid ts (G + 1) = W1 at *
      have x0 : 0 ≤ (W - 1) / shr k e := Int.ediv_nonneg (by omega) (Int.le_of_lt sp)
      have x1 : (W - 1) / shr k e ≤ c := by
        have := Int.ediv_lt_of_lt_mul sp (show W - 1 < (c + 1) * shr k e by omega)
        omega
      have x2 : W ≤ bnd k ((W - 1) / shr k e) e := by
        rw [bnd_shr]
        have := Int.lt_ediv_add_one_mul_self (W - 1) sp
        omega
      have y1 : ¬ (W1 - 1) / shr k e ≤ c := by
        have := (Int.le_ediv_iff_mul_le (a := c + 1) (b := W1 - 1) sp).mpr (by omega)
        omega
      have ps1 := pass_ok (k := k) (n := G) (os := os) hk (show Rn ((W - 1) / shr k e) e ts from ⟨x0, Int.lt_of_le_of_lt x1 h.c1, e0, h.e1, hT⟩) (by omega)
      have ps2 := pass_ok (k := k) (n := G) (os := os) hk (show Rn c (fe k + J) ts from ⟨c0, h.c1, by omega, by omega, hT⟩) (by omega)
      rw [hW, decide_eq_true x2] at ps1
      rw [hW, bnd_fe, decide_eq_true hJ.1] at ps2
      unfold roomD at ps1 ps2
      generalize hx : (W - 1) / shr k e = x at *
      generalize hy : (W1 - 1) / shr k e = y at *
      have rg := repr_ok (pr_int (i := G) (by omega)) (by decide)
      have pc : ∃ l : List (Int × Int), l ≠ [] ∧ lcD (iLst (xF (fFn m_trades (xaD (xVar 0) (xaD (xVar 7) (xaD (xVar 2) xaNil)))))) (gNm 12) (xAndT (xBool (xOp leD (xOp ixD (xVar 12) (xC (.int 0))) (xVar 5))) (xBool (xOp leD (xOp ixD (xVar 12) (xC (.int 1))) (xVar 6)))) (xVar 12) [12] [.d (.str k), .d (roomD c e ts), .d (.int G), .u, .u, .d (.int c), .d (.int e), .d (.list (ts.map .int)), .d (.int x), .d (.int (fe k + J)), .d (.list [.int (L + 1)]), .d (.list [pairD (L, G + 1)]), .u, .u] os = some (l.map pairD, os) := by
        refine ⟨(trL k W m).filter (fun p => decide (p.1 ≤ c) && decide (p.2 ≤ e)), ?_, ?_⟩
        · intro hnil
          rw [List.filter_eq_nil_iff] at hnil
          have memi : ∀ i, i ≤ m → pr k W i ∈ trL k W m := fun i hi => by
            unfold trL ups
            rw [List.mem_reverse]
            exact List.mem_map.mpr ⟨i, by rw [List.mem_range]; omega, rfl⟩
          rcases Nat.lt_or_ge m (e - fe k).toNat with q | q
          · have := hnil _ (memi m (Nat.le_refl _))
            apply this
            have w2 : (W - 1) / 2 ^ m = 0 := Int.ediv_eq_zero_of_lt (by omega) (by
              have := hm.1
              omega)
            simp only [pr, w2, Bool.and_eq_true, decide_eq_true_eq]
            exact ⟨c0, by omega⟩
          · have := hnil _ (memi (e - fe k).toNat q)
            apply this
            have w2 : (W - 1) / 2 ^ (e - fe k).toNat ≤ c := by
              have := Int.ediv_lt_of_lt_mul (pow_pos2 (e - fe k).toNat) (show W - 1 < (c + 1) * 2 ^ (e - fe k).toNat by omega)
              omega
            simp only [pr, Bool.and_eq_true]
            exact ⟨decide_eq_true w2, decide_eq_true (Int.le_of_eq heE.symm)⟩
        · refine lcD_pure (l := trL k W m) (f := pairD) (h := pairD) ?_ ?_ (small (by simp [trL, ups]; omega))
          · simp -implicitDefEqProofs only [a_iLst, a_F, a_ffn, a_d, a_nil, a_var, List.getElem?_cons_zero, List.getElem?_cons_succ, slD_d, Option.map_some, Option.bind_some, tr, listOf_list]
          · intro p hp
            have i0 : ixD (pairD p) (.int 0) = some (.int p.1) := ixD_t0
            have i1 : ixD (pairD p) (.int 1) = some (.int p.2) := ixD_t1
            refine ⟨[.d (.str k), .d (roomD c e ts), .d (.int G), .u, .u, .d (.int c), .d (.int e), .d (.list (ts.map .int)), .d (.int x), .d (.int (fe k + J)), .d (.list [.int (L + 1)]), .d (.list [pairD (L, G + 1)]), .d (pairD p), .u], rfl, ?_, fun _ => ?_⟩
            · by_cases q1 : p.1 ≤ c <;> simp -implicitDefEqProofs [i0, i1, q1]
            · simp -implicitDefEqProofs
      obtain ⟨PL, pne, pc⟩ := pc
      have pe : eqD (.list (PL.map pairD)) (.list []) = some (.bool false) := by
        have := eq_nil PL
        have q : PL.isEmpty = false := by simpa using pne
        rw [q] at this
        exact this
      have ae : eqD (.list [.int (L + 1)]) (.list []) = some (.bool false) := by
        simp [eqD, SeqAt.shaped, PyData.canLay0, PyData.canLayAll0, PyData.depth, PyData.depthAll, PyData.eqv, PyData.eqvAll]
      obtain ⟨t4, nl⟩ := nd_loop (os := os) (G := G) (M := mk ts G) (s3 := .d (.list (PL.map pairD))) (s8 := .d (.int x)) (s9 := .d (.int (fe k + J))) (s10 := .d (.list [.int (L + 1)])) (s11 := .d (.list [pairD (L, G + 1)])) (s12 := .u) (s13 := .u) hk h (nds (bnd k c e) (mk ts G)) .u (fun i hi => by
        have q := ndl i hi
        unfold grv
        rw [if_neg z, gw_zero hb (fun t ht => by have := hT.low t ((List.mem_filter.mp ht).1); omega) (hT.filter _).asc]
        exact q)
      have n1 : ¬ (x > c) := by omega
      have n2 : ¬ (fe k + J > e) := by omega
      have n3 : ¬ (fe k + J' ≤ e) := by omega
      have n4 : ¬ (gw (bnd k c e) ts 0 1 < G + 1) := by omega
      have n5 : G ≠ 0 := by omega
      unfold b_law_sides_right
      refine seq_nx (ρ1 := [.d (.str k), .d (roomD c e ts), .u, .u, .u, .d (.int c), .d (.int e), .d (.list (ts.map .int)), .u, .u, .u, .u, .u, .u]) (os1 := os) rfl ?_
      refine seq_nx (ρ1 := [.d (.str k), .d (roomD c e ts), .d (.int G), .u, .u, .d (.int c), .d (.int e), .d (.list (ts.map .int)), .u, .u, .u, .u, .u, .u]) (os1 := os) (by simp -implicitDefEqProofs [gk]) ?_
      refine seq_nx (ρ1 := [.d (.str k), .d (roomD c e ts), .d (.int G), .u, .u, .d (.int c), .d (.int e), .d (.list (ts.map .int)), .u, .u, .u, .u, .u, .u]) (os1 := os) (by simp -implicitDefEqProofs [lg, rg]) ?_
      refine seq_nx (ρ1 := [.d (.str k), .d (roomD c e ts), .d (.int G), .u, .u, .d (.int c), .d (.int e), .d (.list (ts.map .int)), .u, .u, .u, .u, .u, .u]) (os1 := os) (by simp -implicitDefEqProofs [eq_int, n5]) ?_
      refine seq_nx (ρ1 := [.d (.str k), .d (roomD c e ts), .d (.int G), .u, .u, .d (.int c), .d (.int e), .d (.list (ts.map .int)), .d (.int x), .d (.int (fe k + J)), .u, .u, .u, .u]) (os1 := os) (by simp -implicitDefEqProofs [lc, le]) ?_
      refine seq_nx (ρ1 := [.d (.str k), .d (roomD c e ts), .d (.int G), .u, .u, .d (.int c), .d (.int e), .d (.list (ts.map .int)), .d (.int x), .d (.int (fe k + J)), .u, .u, .u, .u]) (os1 := os) (by simp -implicitDefEqProofs [n1, n2, ps1, ps2, is_true]) ?_
      refine seq_nx (ρ1 := [.d (.str k), .d (roomD c e ts), .d (.int G), .u, .u, .d (.int c), .d (.int e), .d (.list (ts.map .int)), .d (.int x), .d (.int (fe k + J)), .u, .u, .u, .u]) (os1 := os) (by simp -implicitDefEqProofs [lc1, le1, y1, n3]) ?_
      refine seq_nx (ρ1 := [.d (.str k), .d (roomD c e ts), .d (.int G), .u, .u, .d (.int c), .d (.int e), .d (.list (ts.map .int)), .d (.int x), .d (.int (fe k + J)), .d (.list [.int (L + 1)]), .d (.list [pairD (L, G + 1)]), .u, .u]) (os1 := os) (by simp -implicitDefEqProofs [ta, ba]) ?_
      refine seq_nx (ρ1 := [.d (.str k), .d (roomD c e ts), .d (.int G), .u, .u, .d (.int c), .d (.int e), .d (.list (ts.map .int)), .d (.int x), .d (.int (fe k + J)), .d (.list [.int (L + 1)]), .d (.list [pairD (L, G + 1)]), .u, .u]) (os1 := os) (by simp -implicitDefEqProofs [ne_int, eq_int, ae, w1, n4]) ?_
      refine seq_nx (ρ1 := [.d (.str k), .d (roomD c e ts), .d (.int G), .d (.list (PL.map pairD)), .u, .d (.int c), .d (.int e), .d (.list (ts.map .int)), .d (.int x), .d (.int (fe k + J)), .d (.list [.int (L + 1)]), .d (.list [pairD (L, G + 1)]), .u, .u]) (os1 := os) (by simp -implicitDefEqProofs only [a_asg, a_F, pc, Option.map_some, Option.bind_some, a_nm, List.set_cons_succ, List.set_cons_zero]) ?_
      refine seq_nx (ρ1 := [.d (.str k), .d (roomD c e ts), .d (.int G), .d (.list (PL.map pairD)), .u, .d (.int c), .d (.int e), .d (.list (ts.map .int)), .d (.int x), .d (.int (fe k + J)), .d (.list [.int (L + 1)]), .d (.list [pairD (L, G + 1)]), .u, .u]) (os1 := os) ?_ ?_
      · generalize hPP : PL.map pairD = PP at *
        simp -implicitDefEqProofs [pe, w0, ne_int]
      refine seq_nx (ρ1 := [.d (.str k), .d (roomD c e ts), .d (.int G), .d (.list (PL.map pairD)), t4, .d (.int c), .d (.int e), .d (.list (ts.map .int)), .d (.int x), .d (.int (fe k + J)), .d (.list [.int (L + 1)]), .d (.list [pairD (L, G + 1)]), .u, .u]) (os1 := os) ?_ ?_
      · rw [← nl, a_for]
        simp -implicitDefEqProofs only [a_iLst, a_fn, a_d, a_nil, a_var, List.getElem?_cons_zero, List.getElem?_cons_succ, slD_d, Option.map_some, Option.bind_some, nd, listOf_list]
      simp -implicitDefEqProofs
  rw [main]
  simp
end
end Lw

set_option Elab.async false
set_option linter.all false
set_option maxRecDepth 100000
set_option maxHeartbeats 4000000
set_option exponentiation.threshold 3000
namespace Lw
open PySem PySem.Spec PyProof.Rows L2 Evl DL
def tsOf (n : Nat) : List Int := (List.range n).map fun i : Nat => 1 + (i : Int)
theorem tsOf_tops {n : Nat} (h : n ≤ 20) : Tops (tsOf n) 10000000000000000000000000 := by
  refine ⟨?_, fun t ht => ?_, fun t ht => ?_, by simp [tsOf]; omega⟩
  · unfold tsOf
    rw [List.pairwise_map]
    refine List.Pairwise.imp (fun h => ?_) List.pairwise_lt_range
    omega
  · obtain ⟨i, _, rfl⟩ := List.mem_map.mp ht
    omega
  · obtain ⟨i, hi, rfl⟩ := List.mem_map.mp ht
    rw [List.mem_range] at hi
    omega
theorem wid_ones : ∀ i ∈ List.range 20, wid (tsOf (i + 1)) ((i : Int) + 2) ≤ 1 := by decide +kernel
theorem rg_ones {ρ : List Sl} {os : Os} {n : Nat} (h : slD ρ[6]? = some (.int ((n : Int) + 2))) (hn : n < 20) : fRng (rg2 (xC (.int 1)) (xVar 6)) ρ os = some ((tsOf (n + 1)).map .int, os) := by
  have r1 : rg2 (xC (.int 1)) (xVar 6) ρ os = some ((1, (n : Int) + 2), os) := by
    unfold rg2
    simp -implicitDefEqProofs only [a_c, Option.bind_some, a_var, h, Option.map_some]
  unfold fRng
  rw [r1, Option.bind_some]
  simp only
  have e : ((n : Int) + 2 - 1).toNat = n + 1 := by omega
  rw [if_pos ⟨by decide, by decide, by omega, by omega, by omega⟩, e]
  unfold rangeD tsOf
  rw [List.map_map]
  rfl
theorem bnd_wide {c e : Int} (h : 0 ≤ e) : bnd "into" c (e + 1) = bnd "over" c e := by
  have h1 : ("over" : Str) ≠ "into" := by decide
  have e1 : e + 1 - 1 = e := by omega
  unfold bnd
  rw [if_pos rfl, if_pos (by omega), if_neg h1, e1]
theorem bnd_whole {c e : Int} : bnd "whole" c e = bnd "over" c e := by
  have h1 : ("over" : Str) ≠ "into" := by decide
  have h2 : ("whole" : Str) ≠ "into" := by decide
  unfold bnd
  rw [if_neg h1, if_neg h2]
theorem grv_wide {c e : Int} {ts : List Int} (h : 0 ≤ e) : grv "into" c (e + 1) ts 0 = grv "over" c e ts 0 := by
  unfold grv
  rw [bnd_wide h]
theorem seeds_ok {ns : List Int} : ∀ (idx : List Nat) (os : Os) (r1 r2 r3 r4 r5 r6 : Sl), (∀ i ∈ idx, i < 100) → ∃ t1 t2 t3 t4 t5 t6 os',
    forRun (gNm 1) (sSeq (sOwn 2 (fFn m_law_generator (xaD (xVar 0) (xaD (xVar 1) xaNil)))) (sSeq (sAsg (xIf (xBool (xOp ltD (xVar 1) (xC (.int 2)))) (xFn m_law_room (xaO 2 (xaD (xC (.int 9)) xaNil))) (xFn m_law_great (xaO 2 xaNil))) (gNm 3)) (sSeq (sFor (iLst (xCall lstD (xaD (xC (.str "over")) (xaD (xC (.str "into")) (xaD (xC (.str "whole")) xaNil))))) (gNm 4) (sIf (xNotT (xTruth (xFn m_law_sides_right (xaD (xVar 4) (xaD (xVar 3) xaNil))))) (sRet (xC (.bool false))) sNext)) (sSeq (sAsg (xCall tupD (xaD (xOp ixD (xVar 3) (xC (.int 0))) (xaD (xOp addD (xOp ixD (xVar 3) (xC (.int 1))) (xC (.int 1))) (xaD (xOp ixD (xVar 3) (xC (.int 2))) xaNil)))) (gNm 5)) (sSeq (sIf (xOrT (xNotT (xBool (xChain eqD eqD (xFn m_bound (xaD (xC (.str "into")) (xaD (xVar 5) xaNil))) (xFn m_bound (xaD (xC (.str "over")) (xaD (xVar 3) xaNil))) (xFn m_bound (xaD (xC (.str "whole")) (xaD (xVar 3) xaNil)))))) (xBool (xOp neD (xFn m_greatest (xaD (xC (.str "into")) (xaD (xVar 5) xaNil))) (xFn m_greatest (xaD (xC (.str "over")) (xaD (xVar 3) xaNil)))))) (sRet (xC (.bool false))) sNext) (sSeq (sAsg (xOp addD (xC (.int 2)) (xFn m_law_random (xaO 2 (xaD (xC (.int 20)) xaNil)))) (gNm 6)) (sIf (xOrT (xBool (xOp (isD true) (xFn m_can_pass (xaD (xC (.str "over")) (xaD (xCall tupD (xaD (xC (.int 0)) (xaD (xC (.int 0)) (xaD (xF (fRng (rg2 (xC (.int 1)) (xVar 6)))) xaNil)))) (xaD (xVar 6) xaNil)))) (xC (.bool true)))) (xBool (xOp (isD true) (xFn m_can_pass (xaD (xC (.str "into")) (xaD (xCall tupD (xaD (xC (.int 0)) (xaD (xC (.int 1)) (xaD (xF (fRng (rg2 (xC (.int 1)) (xVar 6)))) xaNil)))) (xaD (xVar 6) xaNil)))) (xC (.bool true))))) (sRet (xC (.bool false))) sNext))))))) (idx.map fun i : Nat => PyData.int (i : Int)) [.d (.list (ns.map .int)), r1, r2, r3, r4, r5, r6] os = some (.nx [.d (.list (ns.map .int)), t1, t2, t3, t4, t5, t6] os')
  | [], os, r1, r2, r3, r4, r5, r6, _ => ⟨r1, r2, r3, r4, r5, r6, os, rfl⟩
  | i :: r, os, r1, r2, r3, r4, r5, r6, hi => by
    obtain ⟨g0, e1, e2⟩ := generator_ok ns i os (hi i (by simp))
    have ej : ∀ g : List PyData, (os ++ [some g0]).set os.length (some g) = os ++ [some g] := fun g => by
      rw [List.set_append_right _ _ (by simp)]
      simp
    have ej0 : (os ++ [some g0]).set os.length (some g0) = os ++ [some g0] := ej g0
    have hj : os.length < (os ++ [some g0]).length := by simp
    have rm : ∃ c e ts g2, xIf (xBool (xOp ltD (xVar 1) (xC (.int 2)))) (xFn m_law_room (xaO 2 (xaD (xC (.int 9)) xaNil))) (xFn m_law_great (xaO 2 xaNil)) [.d (.list (ns.map .int)), .d (.int i), .o os.length, r3, r4, r5, r6] (os ++ [some g0]) = some (roomD c e ts, os ++ [some g2]) ∧ GenL g2 200000 ∧ Rm c e ts := by
      by_cases h2 : i < 2
      · obtain ⟨c, e, ts, g2, q1, q2, q3⟩ := room_ok (os := os ++ [some g0]) (tl := []) hj e2 (by decide)
        rw [List.append_nil, List.append_nil, ej, ej] at q1
        refine ⟨c, e, ts, g2, ?_, q2.mono (by decide), q3⟩
        have : ((i : Int) < 2) := by omega
        simp -implicitDefEqProofs [this, q1]
      · obtain ⟨c, e, ts, g2, q1, q2, q3⟩ := great_ok (os := os ++ [some g0]) hj e2 (by decide)
        rw [ej, ej] at q1
        refine ⟨c, e, ts, g2, ?_, q2.mono (by decide), q3⟩
        have : ¬ ((i : Int) < 2) := by omega
        simp -implicitDefEqProofs [this, q1]
    obtain ⟨c, e, ts, g2, m1, m2, h⟩ := rm
    have kO : Kd "over" := .inl rfl
    have kI : Kd "into" := .inr (.inl rfl)
    have kW : Kd "whole" := .inr (.inr rfl)
    have so := fun os => sides_ok (os := os) kO h
    have si := fun os => sides_ok (os := os) kI h
    have sw := fun os => sides_ok (os := os) kW h
    obtain ⟨x, g3, a1, a2, a3, a4⟩ := rand_app (os := os ++ [some g0]) (tl := []) 20 hj m2 (by decide) (by decide) (by decide)
    rw [List.append_nil, List.append_nil, ej, ej] at a1
    have rnW : Rn c (e + 1) ts := ⟨h.c0, h.rn.c1, by have := h.e0; omega, by have := h.e1; omega, h.tops⟩
    have b1 := fun os => bound_pub (k := "into") (os := os) kI rnW
    have b2 := fun os => bound_pub (k := "over") (os := os) kO h.rn
    have b3 := fun os => bound_pub (k := "whole") (os := os) kW h.rn
    rw [bnd_wide h.e0] at b1
    rw [bnd_whole] at b3
    have g1 := fun os => greatest_ok (k := "into") (os := os) kI rnW
    have g4 := fun os => greatest_ok (k := "over") (os := os) kO h.rn
    rw [grv_wide h.e0] at g1
    have hx : x = ((x.toNat : Nat) : Int) := by omega
    have hx2 : x.toNat < 20 := by omega
    have tp := tsOf_tops (n := x.toNat + 1) (by omega)
    have ww := wid_ones x.toNat (by rw [List.mem_range]; exact hx2)
    have bo1 : bnd "over" 0 0 = 1 := by decide +kernel
    have bi1 : bnd "into" 0 1 = 1 := by decide +kernel
    have p1 := fun os => pass_ok (k := "over") (c := 0) (e := 0) (ts := tsOf (x.toNat + 1)) (n := (x.toNat : Int) + 2) (os := os) kO ⟨by decide, by decide, by decide, by decide, tp⟩ (by omega)
    have p2 := fun os => pass_ok (k := "into") (c := 0) (e := 1) (ts := tsOf (x.toNat + 1)) (n := (x.toNat : Int) + 2) (os := os) kI ⟨by decide, by decide, by decide, by decide, tp⟩ (by omega)
    rw [bo1, decide_eq_true ww] at p1
    rw [bi1, decide_eq_true ww] at p2
    generalize hN : x.toNat = N at *
    subst hx
    obtain ⟨t1, t2, t3, t4, t5, t6, os', q⟩ := seeds_ok (ns := ns) r (os ++ [some g3]) (.d (.int i)) (.o os.length) (.d (roomD c e ts)) (.d (.str "whole")) (.d (roomD c (e + 1) ts)) (.d (.int ((N : Int) + 2))) (fun x hx => hi x (by simp [hx]))
    refine ⟨t1, t2, t3, t4, t5, t6, os', ?_⟩
    simp -implicitDefEqProofs only [List.map_cons, forRun, a_nm, List.set_cons_succ, List.set_cons_zero, Option.bind_some]
    rw [← q]
    have body : (sSeq (sOwn 2 (fFn m_law_generator (xaD (xVar 0) (xaD (xVar 1) xaNil)))) (sSeq (sAsg (xIf (xBool (xOp ltD (xVar 1) (xC (.int 2)))) (xFn m_law_room (xaO 2 (xaD (xC (.int 9)) xaNil))) (xFn m_law_great (xaO 2 xaNil))) (gNm 3)) (sSeq (sFor (iLst (xCall lstD (xaD (xC (.str "over")) (xaD (xC (.str "into")) (xaD (xC (.str "whole")) xaNil))))) (gNm 4) (sIf (xNotT (xTruth (xFn m_law_sides_right (xaD (xVar 4) (xaD (xVar 3) xaNil))))) (sRet (xC (.bool false))) sNext)) (sSeq (sAsg (xCall tupD (xaD (xOp ixD (xVar 3) (xC (.int 0))) (xaD (xOp addD (xOp ixD (xVar 3) (xC (.int 1))) (xC (.int 1))) (xaD (xOp ixD (xVar 3) (xC (.int 2))) xaNil)))) (gNm 5)) (sSeq (sIf (xOrT (xNotT (xBool (xChain eqD eqD (xFn m_bound (xaD (xC (.str "into")) (xaD (xVar 5) xaNil))) (xFn m_bound (xaD (xC (.str "over")) (xaD (xVar 3) xaNil))) (xFn m_bound (xaD (xC (.str "whole")) (xaD (xVar 3) xaNil)))))) (xBool (xOp neD (xFn m_greatest (xaD (xC (.str "into")) (xaD (xVar 5) xaNil))) (xFn m_greatest (xaD (xC (.str "over")) (xaD (xVar 3) xaNil)))))) (sRet (xC (.bool false))) sNext) (sSeq (sAsg (xOp addD (xC (.int 2)) (xFn m_law_random (xaO 2 (xaD (xC (.int 20)) xaNil)))) (gNm 6)) (sIf (xOrT (xBool (xOp (isD true) (xFn m_can_pass (xaD (xC (.str "over")) (xaD (xCall tupD (xaD (xC (.int 0)) (xaD (xC (.int 0)) (xaD (xF (fRng (rg2 (xC (.int 1)) (xVar 6)))) xaNil)))) (xaD (xVar 6) xaNil)))) (xC (.bool true)))) (xBool (xOp (isD true) (xFn m_can_pass (xaD (xC (.str "into")) (xaD (xCall tupD (xaD (xC (.int 0)) (xaD (xC (.int 1)) (xaD (xF (fRng (rg2 (xC (.int 1)) (xVar 6)))) xaNil)))) (xaD (xVar 6) xaNil)))) (xC (.bool true))))) (sRet (xC (.bool false))) sNext))))))) [.d (.list (ns.map .int)), .d (.int i), r2, r3, r4, r5, r6] os = some (.nx [.d (.list (ns.map .int)), .d (.int i), .o os.length, .d (roomD c e ts), .d (.str "whole"), .d (roomD c (e + 1) ts), .d (.int ((N : Int) + 2))] (os ++ [some g3])) := by
      refine seq_nx (ρ1 := [.d (.list (ns.map .int)), .d (.int i), .o os.length, r3, r4, r5, r6]) (os1 := os ++ [some g0]) ?_ ?_
      · simp -implicitDefEqProofs [e1]
      refine seq_nx (ρ1 := [.d (.list (ns.map .int)), .d (.int i), .o os.length, .d (roomD c e ts), r4, r5, r6]) (os1 := os ++ [some g2]) ?_ ?_
      · rw [a_asg, m1]
        simp -implicitDefEqProofs
      refine seq_nx (ρ1 := [.d (.list (ns.map .int)), .d (.int i), .o os.length, .d (roomD c e ts), .d (.str "whole"), r5, r6]) (os1 := os ++ [some g2]) ?_ ?_
      · generalize hRR : roomD c e ts = RR at *
        simp -implicitDefEqProofs [forRun, so, si, sw]
      refine seq_nx (ρ1 := [.d (.list (ns.map .int)), .d (.int i), .o os.length, .d (roomD c e ts), .d (.str "whole"), .d (roomD c (e + 1) ts), r6]) (os1 := os ++ [some g2]) ?_ ?_
      · simp -implicitDefEqProofs [roomD]
      refine seq_nx (ρ1 := [.d (.list (ns.map .int)), .d (.int i), .o os.length, .d (roomD c e ts), .d (.str "whole"), .d (roomD c (e + 1) ts), r6]) (os1 := os ++ [some g2]) ?_ ?_
      · generalize hRR : roomD c e ts = RR at *
        generalize hRW : roomD c (e + 1) ts = RW at *
        simp -implicitDefEqProofs [xChain, b1, b2, b3, eq_int, ne_int, g1, g4]
      refine seq_nx (ρ1 := [.d (.list (ns.map .int)), .d (.int i), .o os.length, .d (roomD c e ts), .d (.str "whole"), .d (roomD c (e + 1) ts), .d (.int ((N : Int) + 2))]) (os1 := os ++ [some g3]) ?_ ?_
      · have e9 : (2 : Int) + N = N + 2 := by omega
        simp -implicitDefEqProofs [a1, e9]
      · have f1 := rg_ones (ρ := [.d (.list (ns.map .int)), .d (.int i), .o os.length, .d (roomD c e ts), .d (.str "whole"), .d (roomD c (e + 1) ts), .d (.int ((N : Int) + 2))]) (os := os ++ [some g3]) (n := N) rfl hx2
        unfold roomD at p1 p2
        generalize hTT : (tsOf (N + 1)).map PyData.int = TT at *
        simp -implicitDefEqProofs [f1, p1, p2, is_true]
    rw [body]
    rfl
theorem law_true (ns : List Int) (hns : ns.length ≤ 63) : ∃ w', m_law [.d (.list (ns.map .int))] [] = some (.bool true, w') := by
  obtain ⟨t1, t2, t3, t4, t5, t6, os', q⟩ := seeds_ok (ns := ns) (List.range 4) [] .u .u .u .u .u .u (by
    intro i hi
    rw [List.mem_range] at hi
    omega)
  rw [← range0] at q
  have kO : Kd "over" := .inl rfl
  have kI : Kd "into" := .inr (.inl rfl)
  have kW : Kd "whole" := .inr (.inr rfl)
  have no_tops : Tops [] 10000000000000000000000000 := ⟨by decide, by simp, by simp, by decide⟩
  have tp12 : Tops [1, 2] 10000000000000000000000000 := ⟨by decide, by decide, by decide, by decide⟩
  have g1 := fun os => greatest_ok (k := "over") (c := 0) (e := 0) (ts := []) (os := os) kO ⟨by decide, by decide, by decide, by decide, no_tops⟩
  have g2 := fun os => greatest_ok (k := "into") (c := 0) (e := 1) (ts := []) (os := os) kI ⟨by decide, by decide, by decide, by decide, no_tops⟩
  have g3 := fun os => greatest_ok (k := "whole") (c := 0) (e := 0) (ts := [1, 2]) (os := os) kW ⟨by decide, by decide, by decide, by decide, tp12⟩
  have v1 : grv "over" 0 0 [] 0 = 1 := by decide +kernel
  have v2 : grv "into" 0 1 [] 0 = 1 := by decide +kernel
  have v3 : grv "whole" 0 0 [1, 2] 0 = 3 := by decide +kernel
  rw [v1] at g1
  rw [v2] at g2
  rw [v3] at g3
  unfold roomD at g1 g2 g3
  simp only [List.map_cons, List.map_nil] at g1 g2 g3
  have e0 : (sFor (iRg (xaD (xC (.int 4)) xaNil)) (gNm 1) (sSeq (sOwn 2 (fFn m_law_generator (xaD (xVar 0) (xaD (xVar 1) xaNil)))) (sSeq (sAsg (xIf (xBool (xOp ltD (xVar 1) (xC (.int 2)))) (xFn m_law_room (xaO 2 (xaD (xC (.int 9)) xaNil))) (xFn m_law_great (xaO 2 xaNil))) (gNm 3)) (sSeq (sFor (iLst (xCall lstD (xaD (xC (.str "over")) (xaD (xC (.str "into")) (xaD (xC (.str "whole")) xaNil))))) (gNm 4) (sIf (xNotT (xTruth (xFn m_law_sides_right (xaD (xVar 4) (xaD (xVar 3) xaNil))))) (sRet (xC (.bool false))) sNext)) (sSeq (sAsg (xCall tupD (xaD (xOp ixD (xVar 3) (xC (.int 0))) (xaD (xOp addD (xOp ixD (xVar 3) (xC (.int 1))) (xC (.int 1))) (xaD (xOp ixD (xVar 3) (xC (.int 2))) xaNil)))) (gNm 5)) (sSeq (sIf (xOrT (xNotT (xBool (xChain eqD eqD (xFn m_bound (xaD (xC (.str "into")) (xaD (xVar 5) xaNil))) (xFn m_bound (xaD (xC (.str "over")) (xaD (xVar 3) xaNil))) (xFn m_bound (xaD (xC (.str "whole")) (xaD (xVar 3) xaNil)))))) (xBool (xOp neD (xFn m_greatest (xaD (xC (.str "into")) (xaD (xVar 5) xaNil))) (xFn m_greatest (xaD (xC (.str "over")) (xaD (xVar 3) xaNil)))))) (sRet (xC (.bool false))) sNext) (sSeq (sAsg (xOp addD (xC (.int 2)) (xFn m_law_random (xaO 2 (xaD (xC (.int 20)) xaNil)))) (gNm 6)) (sIf (xOrT (xBool (xOp (isD true) (xFn m_can_pass (xaD (xC (.str "over")) (xaD (xCall tupD (xaD (xC (.int 0)) (xaD (xC (.int 0)) (xaD (xF (fRng (rg2 (xC (.int 1)) (xVar 6)))) xaNil)))) (xaD (xVar 6) xaNil)))) (xC (.bool true)))) (xBool (xOp (isD true) (xFn m_can_pass (xaD (xC (.str "into")) (xaD (xCall tupD (xaD (xC (.int 0)) (xaD (xC (.int 1)) (xaD (xF (fRng (rg2 (xC (.int 1)) (xVar 6)))) xaNil)))) (xaD (xVar 6) xaNil)))) (xC (.bool true))))) (sRet (xC (.bool false))) sNext)))))))) [.d (.list (ns.map .int)), .u, .u, .u, .u, .u, .u] [] = some (.nx [.d (.list (ns.map .int)), t1, t2, t3, t4, t5, t6] os') := by
    rw [a_for, rg1_ok (j := 4) rfl (by decide) (by decide)]
    exact q
  refine ⟨[], ?_⟩
  unfold m_law
  rw [m_1]
  have main : b_law (.d (.list (ns.map .int)) :: List.replicate (7 - 1) .u) [] = some (.rt (.bool true) os') := by
    unfold b_law
    refine seq_nx e0 ?_
    simp -implicitDefEqProofs [g1, g2, g3, eq_int]
  rw [main]
  simp
end Lw

open PySem PySem.W PyProof.Rows
set_option maxRecDepth 100000 in
set_option maxHeartbeats 0 in
theorem PySem.Challenge.cw_supermoves_k19_whole_sides_of_capacity_holds : PySem.Challenge.rw_supermoves_k19_whole_sides_of_capacity.Holds := by
  w_on; o_law; k_head; (case hw => w_witness2)
  k_fill
  refine DL.walk_g (l := PySem.Challenge.rw_supermoves_k19_whole_sides_of_capacity) (n := 63) (k := 10) (x := "script") (M := Lw.m_law) rfl (by decide) rfl ⟨⟨rfl, by decide, by decide⟩, rfl⟩ (fun w h Y => PySem.W.kIn_of Y) ?F Lw.law_true
  case F =>
    intro w mg fa h KX G hmg
    refine' Lw.all_mk KX G hmg ?a0 ?l0 ?c0 ?k0 ?a1 ?l1 ?c1 ?k1 ?a2 ?l2 ?c2 ?k2 ?a3 ?l3 ?c3 ?k3 ?a4 ?l4 ?c4 ?k4 ?a5 ?l5 ?c5 ?k5 ?a6 ?l6 ?c6 ?k6 ?a7 ?l7 ?c7 ?k7 ?a8 ?l8 ?c8 ?k8 ?a9 ?l9 ?c9 ?k9 ?a10 ?l10 ?c10 ?k10 ?a11 ?l11 ?c11 ?k11 ?a12 ?l12 ?c12 ?k12 ?a13 ?l13 ?c13 ?k13 ?a14 ?l14 ?c14 ?k14 ?a15 ?l15 ?c15 ?k15 ?a16 ?l16 ?c16 ?k16 ?a17 ?l17 ?c17 ?k17 ?a18 ?l18 ?c18 ?k18 ?a19 ?l19 ?c19 ?k19 ?a20 ?l20 ?c20 ?k20 ?a21 ?l21 ?c21 ?k21 ?a22 ?l22 ?c22 ?k22 ?a23 ?l23 ?c23 ?k23 ?a24 ?l24 ?c24 ?k24 ?a25 ?l25 ?c25 ?k25 ?a26 ?l26 ?c26 ?k26 ?a27 ?l27 ?c27 ?k27 ?a28 ?l28 ?c28 ?k28 ?a29 ?l29 ?c29 ?k29 ?a30 ?l30 ?c30 ?k30 ?a31 ?l31 ?c31 ?k31 ?a32 ?l32 ?c32 ?k32 ?a33 ?l33 ?c33 ?k33 ?a34 ?l34 ?c34 ?k34 ?a35 ?l35 ?c35 ?k35 ?a36 ?l36 ?c36 ?k36 ?a37 ?l37 ?c37 ?k37 ?a38 ?l38 ?c38 ?k38 ?a39 ?l39 ?c39 ?k39 ?a40 ?l40 ?c40 ?k40 ?a41 ?l41 ?c41 ?k41 ?a42 ?l42 ?c42 ?k42 ?z_all ?z_bool ?z_int ?z_isinstance ?z_len ?z_list ?z_max ?z_range ?z_repr ?z_reversed ?z_sum ?z_tuple ?z_zip ?g_KINDS ?o_KINDS
    (case a0 => k_is)
    (case l0 => k_is)
    (case c0 => k_is)
    (case k0 => k_is)
    (case a1 => k_is)
    (case l1 => k_is)
    (case c1 => k_is)
    (case k1 => k_is)
    (case a2 => k_is)
    (case l2 => k_is)
    (case c2 => k_is)
    (case k2 => k_is)
    (case a3 => k_is)
    (case l3 => k_is)
    (case c3 => k_is)
    (case k3 => k_is)
    (case a4 => k_is)
    (case l4 => k_is)
    (case c4 => k_is)
    (case k4 => k_is)
    (case a5 => k_is)
    (case l5 => k_is)
    (case c5 => k_is)
    (case k5 => k_is)
    (case a6 => k_is)
    (case l6 => k_is)
    (case c6 => k_is)
    (case k6 => k_is)
    (case a7 => k_is)
    (case l7 => k_is)
    (case c7 => k_is)
    (case k7 => k_is)
    (case a8 => k_is)
    (case l8 => k_is)
    (case c8 => k_is)
    (case k8 => k_is)
    (case a9 => k_is)
    (case l9 => k_is)
    (case c9 => k_is)
    (case k9 => k_is)
    (case a10 => k_is)
    (case l10 => k_is)
    (case c10 => k_is)
    (case k10 => k_is)
    (case a11 => k_is)
    (case l11 => k_is)
    (case c11 => k_is)
    (case k11 => k_is)
    (case a12 => k_is)
    (case l12 => k_is)
    (case c12 => k_is)
    (case k12 => k_is)
    (case a13 => k_is)
    (case l13 => k_is)
    (case c13 => k_is)
    (case k13 => k_is)
    (case a14 => k_is)
    (case l14 => k_is)
    (case c14 => k_is)
    (case k14 => k_is)
    (case a15 => k_is)
    (case l15 => k_is)
    (case c15 => k_is)
    (case k15 => k_is)
    (case a16 => k_is)
    (case l16 => k_is)
    (case c16 => k_is)
    (case k16 => k_is)
    (case a17 => k_is)
    (case l17 => k_is)
    (case c17 => k_is)
    (case k17 => k_is)
    (case a18 => k_is)
    (case l18 => k_is)
    (case c18 => k_is)
    (case k18 => k_is)
    (case a19 => k_is)
    (case l19 => k_is)
    (case c19 => k_is)
    (case k19 => k_is)
    (case a20 => k_is)
    (case l20 => k_is)
    (case c20 => k_is)
    (case k20 => k_is)
    (case a21 => k_is)
    (case l21 => k_is)
    (case c21 => k_is)
    (case k21 => k_is)
    (case a22 => k_is)
    (case l22 => k_is)
    (case c22 => k_is)
    (case k22 => k_is)
    (case a23 => k_is)
    (case l23 => k_is)
    (case c23 => k_is)
    (case k23 => k_is)
    (case a24 => k_is)
    (case l24 => k_is)
    (case c24 => k_is)
    (case k24 => k_is)
    (case a25 => k_is)
    (case l25 => k_is)
    (case c25 => k_is)
    (case k25 => k_is)
    (case a26 => k_is)
    (case l26 => k_is)
    (case c26 => k_is)
    (case k26 => k_is)
    (case a27 => k_is)
    (case l27 => k_is)
    (case c27 => k_is)
    (case k27 => k_is)
    (case a28 => k_is)
    (case l28 => k_is)
    (case c28 => k_is)
    (case k28 => k_is)
    (case a29 => k_is)
    (case l29 => k_is)
    (case c29 => k_is)
    (case k29 => k_is)
    (case a30 => k_is)
    (case l30 => k_is)
    (case c30 => k_is)
    (case k30 => k_is)
    (case a31 => k_is)
    (case l31 => k_is)
    (case c31 => k_is)
    (case k31 => k_is)
    (case a32 => k_is)
    (case l32 => k_is)
    (case c32 => k_is)
    (case k32 => k_is)
    (case a33 => k_is)
    (case l33 => k_is)
    (case c33 => k_is)
    (case k33 => k_is)
    (case a34 => k_is)
    (case l34 => k_is)
    (case c34 => k_is)
    (case k34 => k_is)
    (case a35 => k_is)
    (case l35 => k_is)
    (case c35 => k_is)
    (case k35 => k_is)
    (case a36 => k_is)
    (case l36 => k_is)
    (case c36 => k_is)
    (case k36 => k_is)
    (case a37 => k_is)
    (case l37 => k_is)
    (case c37 => k_is)
    (case k37 => k_is)
    (case a38 => k_is)
    (case l38 => k_is)
    (case c38 => k_is)
    (case k38 => k_is)
    (case a39 => k_is)
    (case l39 => k_is)
    (case c39 => k_is)
    (case k39 => k_is)
    (case a40 => k_is)
    (case l40 => k_is)
    (case c40 => k_is)
    (case k40 => k_is)
    (case a41 => k_is)
    (case l41 => k_is)
    (case c41 => k_is)
    (case k41 => k_is)
    (case a42 => k_is)
    (case l42 => k_is)
    (case c42 => k_is)
    (case k42 => k_is)
    (case z_all => k_is)
    (case z_bool => k_is)
    (case z_int => k_is)
    (case z_isinstance => k_is)
    (case z_len => k_is)
    (case z_list => k_is)
    (case z_max => k_is)
    (case z_range => k_is)
    (case z_repr => k_is)
    (case z_reversed => k_is)
    (case z_sum => k_is)
    (case z_tuple => k_is)
    (case z_zip => k_is)
    (case g_KINDS => k_is)
    (case o_KINDS => k_is)

