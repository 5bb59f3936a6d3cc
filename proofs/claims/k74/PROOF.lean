import PyProof.Rows.All
import Wide.All
import OpenK.AllK
import Wide.FinOn
import HandS.ForMost
import HandS.Evl
import HandS.IsInst
import HandS.WideBits
import HandS.Style
import HandS.Deep
import HandS.Sort
import HandS.SortInts
import HandS.RevRange
import HandS.Zip
import PyProof.ReprRoads
import HandS.Walk
import HandS.Dict
import HandS.Exc
import HandS.WordsExc
import HandS.Conv
import HandS.Comp
import HandS.SortKw
import PyProof.MinMaxWalk
import PyProof.WalkInts
import HandS.DictTup
import HandS.SortRule
import HandS.Keys
import HandS.SetFor
import PyProof.Rows.SetFrom
import HandS.Strs
import HandS.Text
import HandS.TryOnly
import HandS.More
import HandS.Gcd
import KE.KMathGC
import PySem.Challenge.RW_supermoves_k74_whole_cells_for_a_run
set_option Elab.async false
set_option linter.all false
set_option maxRecDepth 100000
set_option maxHeartbeats 4000000
namespace DL
open PySem PySem.Spec PyProof.Rows L2 Evl

/-! ### plain data as it stands in the tracked heap -/
mutual
inductive Da (K : PySem.W.Frag) (H : Hp) : V → PyData → Prop
  | non : Da K H .non .none
  | bl (b : Bool) : Da K H (.bl b) (.bool b)
  | int (i : Int) : Da K H (.int i) (.int i)
  | str (x : Str) : Da K H (.str x) (.str x)
  | lst {a : Addr} {xs : List V} {ds : List PyData} : SqL K H a xs → DaAll K H xs ds → Da K H (.ref a) (.list ds)
  | tup {a : Addr} {xs : List V} {ds : List PyData} : H a = some (.tup xs) → DaAll K H xs ds → Da K H (.ref a) (.tuple ds)
  | dct {a : Addr} : H a = some (.dK []) → Da K H (.ref a) (.dict [])
inductive DaAll (K : PySem.W.Frag) (H : Hp) : List V → List PyData → Prop
  | nil : DaAll K H [] []
  | cons {v : V} {vs : List V} {d : PyData} {ds : List PyData} : Da K H v d → DaAll K H vs ds → DaAll K H (v :: vs) (d :: ds)
end
section
variable {K : PySem.W.Frag} {H H' : Hp}
mutual
theorem Da.mono (e : Ex H H') : ∀ (d : PyData) (v : V), Da K H v d → Da K H' v d
  | .none, _, h => by cases h; exact .non
  | .bool _, _, h => by cases h; exact .bl _
  | .int _, _, h => by cases h; exact .int _
  | .str _, _, h => by cases h; exact .str _
  | .list ds, _, h => by
    cases h with
    | lst hs ha => exact .lst (ex_l e hs) (DaAll.mono e ds _ ha)
  | .tuple ds, _, h => by
    cases h with
    | tup hs ha => exact .tup (e _ _ hs) (DaAll.mono e ds _ ha)
  | .dict _, _, h => by
    cases h with
    | dct hs => exact .dct (e _ _ hs)
theorem DaAll.mono (e : Ex H H') : ∀ (ds : List PyData) (vs : List V), DaAll K H vs ds → DaAll K H' vs ds
  | [], _, h => by cases h; exact .nil
  | d :: ds, _, h => by
    cases h with
    | cons h1 h2 => exact .cons (Da.mono e d _ h1) (DaAll.mono e ds _ h2)
end
theorem DaAll.len : ∀ {vs : List V} {ds : List PyData}, DaAll K H vs ds → vs.length = ds.length
  | _, _, .nil => rfl
  | _, _, .cons _ t => by rw [List.length_cons, List.length_cons, DaAll.len t]
theorem DaAll.at_ : ∀ {vs : List V} {ds : List PyData} {i : Nat} {d : PyData}, DaAll K H vs ds → ds[i]? = some d → ∃ v, vs[i]? = some v ∧ Da K H v d
  | _, _, _, _, .nil, h => by simp at h
  | _, _, 0, _, .cons h _, e => by
    simp at e
    subst e
    exact ⟨_, rfl, h⟩
  | _, _, i + 1, _, .cons _ t, e => by
    obtain ⟨v, h1, h2⟩ := DaAll.at_ (i := i) t (by simpa using e)
    exact ⟨v, by simpa using h1, h2⟩
theorem DaAll.atV : ∀ {vs : List V} {ds : List PyData} {i : Nat} {v : V}, DaAll K H vs ds → vs[i]? = some v → ∃ d, ds[i]? = some d ∧ Da K H v d
  | _, _, _, _, .nil, h => by simp at h
  | _, _, 0, _, .cons h _, e => by
    simp at e
    subst e
    exact ⟨_, rfl, h⟩
  | _, _, i + 1, _, .cons _ t, e => by
    obtain ⟨d, h1, h2⟩ := DaAll.atV (i := i) t (by simpa using e)
    exact ⟨d, by simpa using h1, h2⟩
theorem DaAll.app : ∀ {vs ws : List V} {ds es : List PyData}, DaAll K H vs ds → DaAll K H ws es → DaAll K H (vs ++ ws) (ds ++ es)
  | _, _, _, _, .nil, h => h
  | _, _, _, _, .cons a t, h => .cons a (DaAll.app t h)
theorem DaAll.take : ∀ {vs : List V} {ds : List PyData} (n : Nat), DaAll K H vs ds → DaAll K H (vs.take n) (ds.take n)
  | _, _, 0, _ => .nil
  | _, _, _ + 1, .nil => .nil
  | _, _, n + 1, .cons a t => .cons a (DaAll.take n t)
theorem DaAll.drop : ∀ {vs : List V} {ds : List PyData} (n : Nat), DaAll K H vs ds → DaAll K H (vs.drop n) (ds.drop n)
  | _, _, 0, h => h
  | _, _, _ + 1, .nil => .nil
  | _, _, n + 1, .cons _ t => DaAll.drop n t
theorem DaAll.set : ∀ {vs : List V} {ds : List PyData} {v : V} {d : PyData} (n : Nat), DaAll K H vs ds → Da K H v d → DaAll K H (vs.set n v) (ds.set n d)
  | _, _, _, _, _, .nil, _ => .nil
  | _, _, _, _, 0, .cons _ t, h => .cons h t
  | _, _, _, _, n + 1, .cons a t, h => .cons a (DaAll.set n t h)
theorem DaAll.ints : ∀ {vs : List V} {ns : List Int}, DaAll K H vs (ns.map PyData.int) → vs = ns.map V.int
  | _, [], h => by cases h; rfl
  | _, n :: ns, h => by
    cases h with
    | cons a t =>
      cases a
      rw [DaAll.ints t]
      rfl
theorem DaAll.bools : ∀ {vs : List V} {ns : List Bool}, DaAll K H vs (ns.map PyData.bool) → vs = ns.map V.bl
  | _, [], h => by cases h; rfl
  | _, n :: ns, h => by
    cases h with
    | cons a t =>
      cases a
      rw [DaAll.bools t]
      rfl
theorem DaAll.of_ints : ∀ (ns : List Int), DaAll K H (ns.map V.int) (ns.map PyData.int)
  | [] => .nil
  | n :: ns => .cons (.int n) (DaAll.of_ints ns)
end
/-! what the machine reads there -/
section
variable {X : Cx} {pins : List (Addr × Obj)} {σ : L2.St} {s : Shared} {H : Hp}
theorem rd_list (I : Inv X pins σ H s) {a : Addr} {xs : List V} (h : SqL X.K H a xs) : ∃ (its : List Value) (n : Nat) (dd : Option Addr) (sl : Array (Option Value)), Vals xs its ∧ xs.length ≤ sizeLine ∧ s.heap.get? a = some { cls := .type "list", dict := dd, data := .seq its.toArray n, slots := sl } := by
  obtain ⟨its, r, ⟨⟨cls, dd, dt, sl⟩, n, e, h1, h2, h3⟩, z⟩ := I.list h
  simp only at h1 h3
  subst h1 h3
  exact ⟨its, n, dd, sl, r, z, e⟩
theorem rd_dict (I : Inv X pins σ H s) {a : Addr} (hs : H a = some (.dK [])) : Reads s.heap (.ref a) (.dict []) [a] ∧ a ≠ sysModules := by
  obtain ⟨_, y, vs, kv, o, es, ep, ho, hx, hd, _, hp, _⟩ := (show ObjOk X.prog X.w H s.heap a (.dK []) from I.hok _ _ hs)
  have e0 : vs = [] := by cases kv; rfl
  subst e0
  have e1 : es.toList = [] := by
    generalize es.toList = l at hp
    cases hp
    rfl
  refine ⟨Reads.dict (kvs := []) (as := []) (bs := []) ho hx.1 hd (by rw [e1]; exact .nil) (by rw [e1]; exact .nil), ?_⟩
  intro e
  rw [e] at y
  simp at y
mutual
theorem Da.reads (I : Inv X pins σ H s) : ∀ (d : PyData) (v : V) (u : Value), Da X.K H v d → RelV v u → ∃ as, Reads s.heap u d as
  | .none, _, _, h, r => by
    cases h
    cases r
    exact ⟨_, Reads.none⟩
  | .bool b, _, _, h, r => by
    cases h
    cases r
    exact ⟨_, Reads.bool b⟩
  | .int i, _, _, h, r => by
    cases h
    obtain ⟨t, rfl⟩ := r
    exact ⟨_, Reads.int i t⟩
  | .str x, _, _, h, r => by
    cases h
    obtain ⟨t, rfl⟩ := r
    exact ⟨_, Reads.str x t⟩
  | .list ds, _, _, h, r => by
    cases h with
    | lst hs ha =>
      cases r
      obtain ⟨its, n, dd, sl, rv, _, e⟩ := rd_list I hs
      obtain ⟨as, hr⟩ := DaAll.reads I ds _ its ha rv
      exact ⟨_, Reads.list e rfl rfl hr⟩
  | .tuple ds, _, _, h, r => by
    cases h with
    | tup hs ha =>
      cases r
      obtain ⟨its, rv, ⟨o, ho, hc, n, hd⟩, _⟩ := I.tuple (SqT.of hs)
      obtain ⟨as, hr⟩ := DaAll.reads I ds _ its ha rv
      exact ⟨_, Reads.tuple ho hc hd hr⟩
  | .dict _, _, _, h, r => by
    cases h with
    | dct hs =>
      cases r
      exact ⟨_, (rd_dict I hs).1⟩
theorem DaAll.reads (I : Inv X pins σ H s) : ∀ (ds : List PyData) (vs : List V) (us : List Value), DaAll X.K H vs ds → Vals vs us → ∃ as, ReadsAll s.heap us ds as
  | [], _, _, h, r => by
    cases h
    cases r
    exact ⟨_, ReadsAll.nil⟩
  | d :: ds, _, _, h, r => by
    cases h with
    | cons h1 h2 =>
      cases r with
      | cons r1 r2 =>
        obtain ⟨as, q1⟩ := Da.reads I d _ _ h1 r1
        obtain ⟨bs, q2⟩ := DaAll.reads I ds _ _ h2 r2
        exact ⟨_, ReadsAll.cons q1 q2⟩
end
end

/-! ### how the heaps grow -/
/-- H0: the known part that stays for good; as: what may change by itself -/
structure Gr (as : List Addr) (H0 H H0' H' : Hp) : Prop where
  e0 : Ex H0 H0'
  e1 : ∀ a o, a ∉ as → H a = some o → H' a = some o
  nw : ∀ a o, a ∉ as → H0' a = some o → H a ≠ none → H0 a = some o
  kp : ∀ a, H a ≠ none → H' a ≠ none
  sub : Ex H0' H'
theorem Gr.refl {as : List Addr} {H0 H : Hp} (h : Ex H0 H) : Gr as H0 H H0 H := ⟨Ex.refl _, fun _ _ _ e => e, fun _ _ _ e _ => e, fun _ h => h, h⟩
theorem Gr.trans {as bs : List Addr} {H0 H H1 H1' H2 H2' : Hp} (p : Gr as H0 H H1 H1') (q : Gr bs H1 H1' H2 H2') (h : ∀ a ∈ bs, a ∈ as ∨ H a = none) : Gr as H0 H H2 H2' where
  e0 := p.e0.trans q.e0
  e1 := fun a o n e => q.e1 a o (fun hb => by
    rcases h a hb with z | z
    · exact n z
    · rw [e] at z; cases z) (p.e1 a o n e)
  nw := fun a o m e n => p.nw a o m (q.nw a o (fun hb => (h a hb).elim m n) e (p.kp a n)) n
  kp := fun a n => q.kp a (p.kp a n)
  sub := q.sub
theorem Gr.mono {as bs : List Addr} {H0 H H1 H1' : Hp} (p : Gr bs H0 H H1 H1') (h : ∀ a ∈ bs, a ∈ as) : Gr as H0 H H1 H1' :=
  ⟨p.e0, fun a o n e => p.e1 a o (fun z => n (h a z)) e, fun a o n e => p.nw a o (fun z => n (h a z)) e, p.kp, p.sub⟩
theorem Gr.tr {as : List Addr} {H0 H H1 H1' H2 H2' : Hp} (p : Gr as H0 H H1 H1') (q : Gr as H1 H1' H2 H2') : Gr as H0 H H2 H2' := p.trans q fun _ h => .inl h
theorem Gr.tr0 {as : List Addr} {H0 H H1 H1' H2 H2' : Hp} (p : Gr as H0 H H1 H1') (q : Gr [] H1 H1' H2 H2') : Gr as H0 H H2 H2' := p.trans q fun _ h => absurd h (by simp)
/-- a new object that stays -/
theorem Gr.new {H0 H : Hp} {p : Addr} {o : HO} (s : Ex H0 H) (h : H p = none) : Gr [] H0 H (upd H0 p o) (upd H p o) where
  e0 := Ex.new (fresh_back s h)
  e1 := fun a u _ e => Ex.new h a u e
  nw := fun a u _ e n => by
    rw [upd_ne (fun z => n (by rw [z]; exact h))] at e
    exact e
  kp := fun a n => by
    rw [upd_ne (fun z => n (by rw [z]; exact h))]
    exact n
  sub := fun a u e => by
    by_cases z : a = p
    · subst z
      rw [upd_same] at e ⊢
      exact e
    · rw [upd_ne z] at e ⊢
      exact s a u e

/-! ### what the names hold: nothing known, data, an object of one's own (by its number), a caught error -/
inductive Sl where
  | u
  | d (x : PyData)
  | o (k : Nat)
/-- an object of one's own: a list of data, a list of anything, dicts from keys to data, an instance -/
inductive Ob where
  | l (ds : List PyData)
  | r (xs : List Sl)
  | k (ps : List (Key × PyData))
  | T (ps : List (List Key × PyData))
  | i (C : Addr) (fs : List (Str × Sl))
  | g (lo hi : Int)
  | t (xs : List Sl)
abbrev Os := List (Option Ob)
def ArgOk (K : PySem.W.Frag) (as : List Addr) (H0 : Hp) (v : V) : Sl → Prop
  | .u => False
  | .d x => Da K H0 v x
  | .o k => ∃ a, as[k]? = some a ∧ v = .ref a
def ArgsOk (K : PySem.W.Frag) (as : List Addr) (H0 : Hp) : List V → List Sl → Prop
  | [], [] => True
  | v :: vs, s :: ss => ArgOk K as H0 v s ∧ ArgsOk K as H0 vs ss
  | _, _ => False
/-- attributes, one by one -/
def FsOk (K : PySem.W.Frag) (as : List Addr) (H0 : Hp) : List (Str × V) → List (Str × Sl) → Prop
  | [], [] => True
  | p :: gs, q :: fs => p.1 = q.1 ∧ ArgOk K as H0 p.2 q.2 ∧ FsOk K as H0 gs fs
  | _, _ => False
/-- a dict's pairs -/
def PsOk {κ : Type} (K : PySem.W.Frag) (H0 : Hp) : List (κ × V) → List (κ × PyData) → Prop
  | [], [] => True
  | p :: kvs, q :: ps => p.1 = q.1 ∧ Da K H0 p.2 q.2 ∧ PsOk K H0 kvs ps
  | _, _ => False
def Cont (K : PySem.W.Frag) (as : List Addr) (H0 : Hp) : HO → Ob → Prop
  | .lst vs, .l ds => DaAll K H0 vs ds
  | .lst vs, .r xs => ArgsOk K as H0 vs xs
  | .dK kvs, .k ps => PsOk K H0 kvs ps
  | .dT kvs, .T ps => PsOk K H0 kvs ps
  | .ins C _ gs, .i C' fs => C = C' ∧ FsOk K as H0 gs fs
  | .rng lo hi, .g a b => lo = a ∧ hi = b
  | .tup vs, .t xs => ArgsOk K as H0 vs xs
  | _, _ => False
section
variable {K : PySem.W.Frag} {as bs : List Addr} {H0 H0' : Hp}
theorem ArgOk.mono {v : V} {s : Sl} (e : Ex H0 H0') (h : ArgOk K as H0 v s) : ArgOk K as H0' v s := by
  cases s with
  | u => exact h
  | d x => exact Da.mono e x v h
  | o k => exact h
theorem ArgOk.app {v : V} {s : Sl} (h : ArgOk K as H0 v s) : ArgOk K (as ++ bs) H0 v s := by
  cases s with
  | u => exact h
  | d x => exact h
  | o k =>
    obtain ⟨a, h1, h2⟩ := h
    exact ⟨a, by rw [List.getElem?_append_left (List.getElem?_eq_some_iff.mp h1).1]; exact h1, h2⟩
theorem ArgsOk.mono : ∀ {vs : List V} {ss : List Sl}, Ex H0 H0' → ArgsOk K as H0 vs ss → ArgsOk K as H0' vs ss
  | [], [], _, h => h
  | _ :: _, _ :: _, e, h => ⟨h.1.mono e, ArgsOk.mono e h.2⟩
  | [], _ :: _, _, h => h.elim
  | _ :: _, [], _, h => h.elim
theorem ArgsOk.app : ∀ {vs : List V} {ss : List Sl}, ArgsOk K as H0 vs ss → ArgsOk K (as ++ bs) H0 vs ss
  | [], [], h => h
  | _ :: _, _ :: _, h => ⟨h.1.app, ArgsOk.app h.2⟩
  | [], _ :: _, h => h.elim
  | _ :: _, [], h => h.elim
theorem FsOk.mono : ∀ {vs : List (Str × V)} {ss : List (Str × Sl)}, Ex H0 H0' → FsOk K as H0 vs ss → FsOk K as H0' vs ss
  | [], [], _, h => h
  | _ :: _, _ :: _, e, h => ⟨h.1, h.2.1.mono e, FsOk.mono e h.2.2⟩
  | [], _ :: _, _, h => h.elim
  | _ :: _, [], _, h => h.elim
theorem FsOk.app : ∀ {vs : List (Str × V)} {ss : List (Str × Sl)}, FsOk K as H0 vs ss → FsOk K (as ++ bs) H0 vs ss
  | [], [], h => h
  | _ :: _, _ :: _, h => ⟨h.1, h.2.1.app, FsOk.app h.2.2⟩
  | [], _ :: _, h => h.elim
  | _ :: _, [], h => h.elim
theorem PsOk.mono {κ : Type} : ∀ {vs : List (κ × V)} {ss : List (κ × PyData)}, Ex H0 H0' → PsOk K H0 vs ss → PsOk K H0' vs ss
  | [], [], _, h => h
  | _ :: _, _ :: _, e, h => ⟨h.1, Da.mono e _ _ h.2.1, PsOk.mono e h.2.2⟩
  | [], _ :: _, _, h => h.elim
  | _ :: _, [], _, h => h.elim
theorem Cont.l_of {o : HO} {ds : List PyData} (h : Cont K as H0 o (.l ds)) : ∃ vs, o = .lst vs ∧ DaAll K H0 vs ds := by
  cases o <;> first | exact ⟨_, rfl, h⟩ | exact h.elim
theorem Cont.r_of {o : HO} {xs : List Sl} (h : Cont K as H0 o (.r xs)) : ∃ vs, o = .lst vs ∧ ArgsOk K as H0 vs xs := by
  cases o <;> first | exact ⟨_, rfl, h⟩ | exact h.elim
theorem Cont.k_of {o : HO} {ps : List (Key × PyData)} (h : Cont K as H0 o (.k ps)) : ∃ kvs, o = .dK kvs ∧ PsOk K H0 kvs ps := by
  cases o <;> first | exact ⟨_, rfl, h⟩ | exact h.elim
theorem Cont.T_of {o : HO} {ps : List (List Key × PyData)} (h : Cont K as H0 o (.T ps)) : ∃ kvs, o = .dT kvs ∧ PsOk K H0 kvs ps := by
  cases o <;> first | exact ⟨_, rfl, h⟩ | exact h.elim
theorem Cont.i_of {o : HO} {C : Addr} {fs : List (Str × Sl)} (h : Cont K as H0 o (.i C fs)) : ∃ dx gs, o = .ins C dx gs ∧ FsOk K as H0 gs fs := by
  cases o <;> first | exact h.elim | skip
  obtain ⟨rfl, h⟩ := h
  exact ⟨_, _, rfl, h⟩
theorem Cont.g_of {o : HO} {a b : Int} (h : Cont K as H0 o (.g a b)) : o = .rng a b := by
  cases o <;> first | exact h.elim | skip
  obtain ⟨rfl, rfl⟩ := h
  rfl
theorem Cont.t_of {o : HO} {xs : List Sl} (h : Cont K as H0 o (.t xs)) : ∃ vs, o = .tup vs ∧ ArgsOk K as H0 vs xs := by
  cases o <;> first | exact ⟨_, rfl, h⟩ | exact h.elim
theorem Cont.mono {o : HO} {b : Ob} (e : Ex H0 H0') (h : Cont K as H0 o b) : Cont K as H0' o b := by
  cases b with
  | l ds => obtain ⟨vs, rfl, r⟩ := h.l_of; exact DaAll.mono e _ _ r
  | r xs => obtain ⟨vs, rfl, r⟩ := h.r_of; exact ArgsOk.mono e r
  | k ps => obtain ⟨vs, rfl, r⟩ := h.k_of; exact PsOk.mono e r
  | T ps => obtain ⟨vs, rfl, r⟩ := h.T_of; exact PsOk.mono e r
  | i C fs => obtain ⟨dx, gs, rfl, r⟩ := h.i_of; exact ⟨rfl, FsOk.mono e r⟩
  | g a b => obtain rfl := h.g_of; exact ⟨rfl, rfl⟩
  | t xs => obtain ⟨vs, rfl, r⟩ := h.t_of; exact ArgsOk.mono e r
theorem Cont.app {o : HO} {b : Ob} (h : Cont K as H0 o b) : Cont K (as ++ bs) H0 o b := by
  cases b with
  | l ds => obtain ⟨vs, rfl, r⟩ := h.l_of; exact r
  | r xs => obtain ⟨vs, rfl, r⟩ := h.r_of; exact ArgsOk.app r
  | k ps => obtain ⟨vs, rfl, r⟩ := h.k_of; exact r
  | T ps => obtain ⟨vs, rfl, r⟩ := h.T_of; exact r
  | i C fs => obtain ⟨dx, gs, rfl, r⟩ := h.i_of; exact ⟨rfl, FsOk.app r⟩
  | g a b => obtain rfl := h.g_of; exact ⟨rfl, rfl⟩
  | t xs => obtain ⟨vs, rfl, r⟩ := h.t_of; exact ArgsOk.app r
end
/-- the objects of one's own -/
structure Own (K : PySem.W.Frag) (as : List Addr) (os : Os) (H0 H : Hp) : Prop where
  nd : as.Nodup
  len : as.length = os.length
  trk : ∀ a ∈ as, H a ≠ none
  at_ : ∀ (k : Nat) (a : Addr) (ob : Ob), as[k]? = some a → os[k]? = some (some ob) → H0 a = none ∧ ∃ o, H a = some o ∧ Cont K as H0 o ob
theorem Own.l {K : PySem.W.Frag} {as : List Addr} {os : Os} {H0 H : Hp} (w : Own K as os H0 H) (k : Nat) (a : Addr) (ds : List PyData) (h1 : as[k]? = some a) (h2 : os[k]? = some (some (.l ds))) : H0 a = none ∧ ∃ vs, H a = some (.lst vs) ∧ DaAll K H0 vs ds := by
  obtain ⟨q1, o, q2, q3⟩ := w.at_ k a _ h1 h2
  obtain ⟨vs, rfl, r⟩ := q3.l_of
  exact ⟨q1, vs, q2, r⟩
structure En (K : PySem.W.Frag) (as : List Addr) (ρ : List Sl) (os : Os) (σ : L2.St) (H0 H : Hp) : Prop where
  sub : Ex H0 H
  len : σ.length = ρ.length
  dat : ∀ (i : Nat) (x : PyData), ρ[i]? = some (.d x) → ∃ v, σ[i]? = some (some v) ∧ Da K H0 v x
  ref : ∀ (i k : Nat), ρ[i]? = some (.o k) → ∃ a, as[k]? = some a ∧ σ[i]? = some (some (.ref a))
  ow : Own K as os H0 H
section
variable {K : PySem.W.Frag} {as : List Addr} {ρ : List Sl} {os : Os} {σ : L2.St} {H0 H H0' H' : Hp}
theorem Own.grow (w : Own K as os H0 H) (g : Gr [] H0 H H0' H') : Own K as os H0' H' := ⟨w.nd, w.len, fun a h => g.kp a (w.trk a h), fun k a ds h1 h2 => by
  obtain ⟨n, vs, e, r⟩ := w.at_ k a ds h1 h2
  refine ⟨?_, vs, g.e1 a _ (by simp) e, r.mono g.e0⟩
  cases q : H0' a with
  | none => rfl
  | some o =>
    have := g.nw a o (by simp) q (by rw [e]; simp)
    rw [n] at this
    cases this⟩
theorem En.grow (n : En K as ρ os σ H0 H) (g : Gr [] H0 H H0' H') : En K as ρ os σ H0' H' :=
  ⟨g.sub, n.len, fun i x h => by
    obtain ⟨v, e, r⟩ := n.dat i x h
    exact ⟨v, e, Da.mono g.e0 _ _ r⟩, n.ref, n.ow.grow g⟩
/-- a name's value -/
theorem En.val (n : En K as ρ os σ H0 H) {i : Nat} {s : Sl} (h : ρ[i]? = some s) (hs : s ≠ .u) : ∃ v, σ[i]? = some (some v) ∧ ArgOk K as H0 v s := by
  cases s with
  | u => exact absurd rfl hs
  | d x => exact n.dat i x h
  | o k =>
    obtain ⟨a, h1, h2⟩ := n.ref i k h
    exact ⟨_, h2, a, h1, rfl⟩
end
end DL

set_option Elab.async false
set_option linter.all false
set_option maxRecDepth 100000
set_option maxHeartbeats 4000000
namespace DL
open PySem PySem.Spec PyProof.Rows L2 Evl

/-! ### operations on data -/
abbrev bitsOf (i : Int) : Int := (Builtin.Int.intBits i : Int)
def addD : PyData → PyData → Option PyData
  | .int a, .int b => some (.int (a + b))
  | .str a, .str b => if a.length + b.length ≤ sizeLine then some (.str (a ++ b)) else none
  | .list a, .list b => if a.length + b.length ≤ sizeLine then some (.list (a ++ b)) else none
  | _, _ => none
def subD : PyData → PyData → Option PyData
  | .int a, .int b => some (.int (a - b))
  | _, _ => none
def mulD : PyData → PyData → Option PyData
  | .int a, .int b => if bitsOf a + bitsOf b ≤ 134217728 then some (.int (a * b)) else none
  | _, _ => none
def modD : PyData → PyData → Option PyData
  | .int a, .int b => if 0 < b then some (.int (a % b)) else none
  | _, _ => none
def fdivD : PyData → PyData → Option PyData
  | .int a, .int b => if 0 < b ∧ Builtin.Int.intBits a ≤ Builtin.Int.intBits b + 4000 then some (.int (a / b)) else none
  | _, _ => none
def shlD : PyData → PyData → Option PyData
  | .int a, .int b => if 0 ≤ b ∧ bitsOf a + b ≤ 134217728 then some (.int (a * 2 ^ b.toNat)) else none
  | _, _ => none
def powD : PyData → PyData → Option PyData
  | .int a, .int b => if 0 ≤ b ∧ bitsOf a * b ≤ 134217728 then some (.int (a ^ b.toNat)) else none
  | _, _ => none
def cmpD (f : Int → Int → Bool) : PyData → PyData → Option PyData
  | .int a, .int b => some (.bool (f a b))
  | _, _ => none
def eqD : PyData → PyData → Option PyData
  | .str a, .str b => some (.bool (decide (a = b)))
  | x, y => if SeqAt.shaped x = true ∧ SeqAt.shaped y = true then some (.bool (PyData.eqv x y)) else none
def neD : PyData → PyData → Option PyData
  | .str a, .str b => some (.bool (!decide (a = b)))
  | x, y => if SeqAt.shaped x = true ∧ SeqAt.shaped y = true then some (.bool (!PyData.eqv x y)) else none
def strsOf : List PyData → Option (List Str)
  | [] => some []
  | .str x :: r => (strsOf r).map (x :: ·)
  | _ => none
theorem strsOf_map : ∀ ns : List Str, strsOf (ns.map PyData.str) = some ns
  | [] => rfl
  | n :: r => by
    show (strsOf (r.map PyData.str)).map (n :: ·) = _
    rw [strsOf_map r]
    rfl
theorem strsOf_eq : ∀ {ds : List PyData} {ns : List Str}, strsOf ds = some ns → ds = ns.map PyData.str
  | [], _, h => by cases h; rfl
  | d :: r, ns, h => by
    cases d with
    | str i =>
      simp only [strsOf] at h
      cases q : strsOf r with
      | none => rw [q] at h; cases h
      | some ms =>
        rw [q] at h
        cases h
        rw [strsOf_eq q]
        rfl
    | _ => cases h
/-- a text among texts -/
def inS (neg : Bool) (x c : PyData) : Option PyData := match x, c with
  | .str a, .list c => (strsOf c).map fun cs => .bool (if neg then !decide (a ∈ cs) else decide (a ∈ cs))
  | .str a, .tuple c => (strsOf c).map fun cs => .bool (if neg then !decide (a ∈ cs) else decide (a ∈ cs))
  | _, _ => none
def inG (neg : Bool) (x : PyData) : PyData → Option PyData
  | .list c => if SeqAt.shaped x = true ∧ PyData.canLayAll0 c = true then some (.bool (if neg then !(c.any fun y => PyData.eqv y x) else c.any fun y => PyData.eqv y x)) else none
  | .tuple c => if SeqAt.shaped x = true ∧ PyData.canLayAll0 c = true then some (.bool (if neg then !(c.any fun y => PyData.eqv y x) else c.any fun y => PyData.eqv y x)) else none
  | _ => none
def inD (neg : Bool) (x c : PyData) : Option PyData := match inS neg x c with
  | some z => some z
  | none => inG neg x c
def noneD : PyData → Bool
  | .none => true
  | _ => false
def isD (neg : Bool) : PyData → PyData → Option PyData
  | x, .none => some (.bool (if neg then !noneD x else noneD x))
  | .bool a, .bool b => some (.bool (if neg then !decide (a = b) else decide (a = b)))
  | _, _ => none
def negD : PyData → Option PyData
  | .int a => some (.int (-a))
  | _ => none
def truthD : PyData → Option Bool
  | .none => some false
  | .bool b => some b
  | .int i => some (i != 0)
  | .str x => if x.length ≤ sizeLine then some ((x.length : Int) != 0) else none
  | .list c => some !c.isEmpty
  | .tuple c => some !c.isEmpty
  | .dict _ => some false

/-! ### how they are done on values -/
def rD (K : PySem.W.Frag) (f : PyData → PyData → Option PyData) : R2 := fun u v H Q => ∃ H0 d e z, Ex H0 H ∧ Da K H0 u d ∧ Da K H0 v e ∧ f d e = some z ∧ ∀ w H0' H', Gr [] H0 H H0' H' → Da K H0' w z → Q w H'
def rU1 (K : PySem.W.Frag) (f : PyData → Option PyData) : V → Hp → VK → Prop := fun u H Q => ∃ H0 d z, Ex H0 H ∧ Da K H0 u d ∧ f d = some z ∧ ∀ w H0' H', Gr [] H0 H H0' H' → Da K H0' w z → Q w H'
def rC (K : PySem.W.Frag) (f : List PyData → Option PyData) : List V → Hp → VK → Prop := fun us H Q => ∃ H0 ds z, Ex H0 H ∧ DaAll K H0 us ds ∧ f ds = some z ∧ ∀ w H0' H', Gr [] H0 H H0' H' → Da K H0' w z → Q w H'
section
variable {X : Cx}
theorem da_intI {K : PySem.W.Frag} {H : Hp} {v : V} {i : Int} (h : Da K H v (.int i)) : v = .int i := by cases h; rfl
theorem opd {f : Value → Value → Sem Value} {g : PyData → PyData → Option PyData}
    (h : ∀ (pins : List (Addr × Obj)) (s : Shared) (σ : L2.St) (H H0 : Hp) (x y : V) (v u : Value) (Q : VK) (d e z : PyData), Inv X pins σ H s → RelV x v → RelV y u → Ex H0 H → Da X.K H0 x d → Da X.K H0 y e → g d e = some z → (∀ w H0' H', Gr [] H0 H H0' H' → Da X.K H0' w z → Q w H') →
      wpAny (model X.prog X.w) X.A (f v u) (EP X pins σ Q) X.xe s) : OpR X f (rD X.K g) := by
  intro pins s σ H x y v u Q I rx ry q
  obtain ⟨H0, d, e, z, h1, h2, h3, h4, h5⟩ := q
  exact h pins s σ H H0 x y v u Q d e z I rx ry h1 h2 h3 h4 h5
theorem opI2 {f : Value → Value → Sem Value} {g : PyData → PyData → Option PyData} (hg : ∀ d e z, g d e = some z → ∃ i j, d = .int i ∧ e = .int j)
    (h : ∀ (i j : Int) (z : PyData), g (.int i) (.int j) = some z → ∃ z', (∀ (K : PySem.W.Frag) H, Da K H z' z) ∧ OpR X f (fun x y H Q => x = .int i ∧ y = .int j ∧ Q z' H)) : OpR X f (rD X.K g) :=
  opd fun pins s σ H H0 x y v u Q d e z I rx ry s0 hd he hf q => by
    obtain ⟨i, j, rfl, rfl⟩ := hg d e z hf
    obtain ⟨z', hz, r⟩ := h i j z hf
    exact r pins s σ H x y v u Q I rx ry ⟨da_intI hd, da_intI he, q z' H0 H (Gr.refl s0) (hz _ _)⟩
theorem op_addD : OpR X (binaryOp .Add) (rD X.K addD) := opd fun pins s σ H H0 x y v u Q d e z I rx ry s0 hd he hf q => by
  cases hd with
  | int i =>
    cases he with
    | int j =>
      cases hf
      exact op_add pins s σ H _ _ v u Q I rx ry ⟨i, j, rfl, rfl, q _ H0 H (Gr.refl s0) (.int _)⟩
    | _ => cases hf
  | str i =>
    cases he with
    | str j =>
      simp only [addD] at hf
      split at hf
      · cases hf
        exact op_add_str pins s σ H _ _ v u Q I rx ry ⟨i, j, rfl, rfl, by assumption, q _ H0 H (Gr.refl s0) (.str _)⟩
      · cases hf
    | _ => cases hf
  | @lst l xs ds h1 h2 =>
    cases he with
    | @lst b ys es h3 h4 =>
      simp only [addD] at hf
      split at hf
      · rename_i hz
        cases hf
        cases rx
        cases ry
        obtain ⟨its, n, dd, sl, r, hl, e⟩ := rd_list I (ex_l s0 h1)
        obtain ⟨its2, n2, dd2, sl2, r2, hl2, e2⟩ := rd_list I (ex_l s0 h3)
        have l1 := h2.len
        have l2 := h4.len
        have l3 := r.length
        have l4 := r2.length
        have ea : its.toArray ++ its2.toArray = (its ++ its2).toArray := by simp
        refine concat_meets ⟨_, e, rfl⟩ ⟨_, e2, rfl⟩ noFill_list_add seq_list_add PySem.F.slot_list_add PySem.F.entry_list_add (PySem.F.args_list_add_2 _ _) (list_addW l b its.toArray its2.toArray n n2 dd dd2 sl sl2 (by rw [List.size_toArray, List.size_toArray]; omega)) ⟨e, e2, ?_⟩
        rw [ea]
        exact ⟨.ref _, _, I.lnew (t' := s.toks) (r.append r2) (by rw [List.length_append]; omega), rfl, q _ _ _ (Gr.new s0 I.fresh) (.lst (SqL.of upd_same) ((DaAll.app h2 h4).mono (Ex.new (fresh_back s0 I.fresh))))⟩
      · cases hf
    | _ => cases hf
  | _ => cases hf
theorem op_subD : OpR X (binaryOp .Sub) (rD X.K subD) := opI2 (fun d e z h => by cases d <;> cases e <;> first | (cases h; done) | exact ⟨_, _, rfl, rfl⟩) fun i j z h => by
  cases h
  exact ⟨.int (i - j), fun _ _ => .int _, fun pins s σ H x y v u Q I rx ry q => op_sub pins s σ H x y v u Q I rx ry ⟨i, j, q⟩⟩
theorem op_modD : OpR X (binaryOp .Mod) (rD X.K modD) := opI2 (fun d e z h => by cases d <;> cases e <;> first | (cases h; done) | exact ⟨_, _, rfl, rfl⟩) fun i j z h => by
  simp only [modD] at h
  split at h
  · cases h
    exact ⟨.int (i % j), fun _ _ => .int _, fun pins s σ H x y v u Q I rx ry q => op_mod pins s σ H x y v u Q I rx ry ⟨i, j, q.1, q.2.1, by assumption, q.2.2⟩⟩
  · cases h
theorem op_fdivD : OpR X (binaryOp .FloorDiv) (rD X.K fdivD) := opI2 (fun d e z h => by cases d <;> cases e <;> first | (cases h; done) | exact ⟨_, _, rfl, rfl⟩) fun i j z h => by
  simp only [fdivD] at h
  split at h
  · rename_i hc
    cases h
    refine ⟨.int (i / j), fun _ _ => .int _, fun pins s σ H x y v u Q I rx ry q => ?_⟩
    obtain ⟨rfl, rfl, q⟩ := q
    obtain ⟨t, rfl⟩ := rx
    obtain ⟨t', rfl⟩ := ry
    refine floordiv_int (by omega) ?_ (.inl (divp_ok hc.1 hc.2).2)
    rw [Int.fdiv_eq_ediv_of_nonneg _ (by omega)]
    exact ⟨.int _, H, I.tok _, ⟨_, rfl⟩, q⟩
  · cases h
theorem op_shlD : OpR X (binaryOp .LShift) (rD X.K shlD) := opI2 (fun d e z h => by cases d <;> cases e <;> first | (cases h; done) | exact ⟨_, _, rfl, rfl⟩) fun i j z h => by
  simp only [shlD] at h
  split at h
  · rename_i hc
    cases h
    have e27 : (2 : Int) ^ 27 = 134217728 := by decide
    exact ⟨_, fun _ _ => .int _, fun pins s σ H x y v u Q I rx ry q => op_shlW pins s σ H x y v u Q I rx ry ⟨i, j, q.1, q.2.1, ⟨hc.1, by rw [e27]; exact hc.2⟩, q.2.2⟩⟩
  · cases h
theorem op_powD : OpR X (binaryOp .Pow) (rD X.K powD) := opI2 (fun d e z h => by cases d <;> cases e <;> first | (cases h; done) | exact ⟨_, _, rfl, rfl⟩) fun i j z h => by
  simp only [powD] at h
  split at h
  · rename_i hc
    cases h
    have e27 : (2 : Int) ^ 27 = 134217728 := by decide
    refine ⟨_, fun _ _ => .int _, fun pins s σ H x y v u Q I rx ry q => ?_⟩
    obtain ⟨rfl, rfl, q⟩ := q
    obtain ⟨t, rfl⟩ := rx
    obtain ⟨t', rfl⟩ := ry
    exact pow_int hc.1 (by rw [e27]; exact hc.2) ⟨.int _, H, I.tok _, ⟨_, rfl⟩, q⟩
  · cases h
theorem op_mulD : OpR X (binaryOp .Mult) (rD X.K mulD) := opd fun pins s σ H H0 x y v u Q d e z I rx ry s0 hd he hf q => by
  cases hd with
  | int i =>
    cases he with
    | int j =>
      simp only [mulD] at hf
      split at hf
      · cases hf
        exact op_mulX pins s σ H _ _ v u Q I rx ry ⟨i, j, rfl, rfl, by assumption, q _ H0 H (Gr.refl s0) (.int _)⟩
      · cases hf
    | _ => cases hf
  | _ => cases he <;> cases hf
theorem cmp_ok {op : CmpOp} {f : Int → Int → Bool} (h : OpR X (compareOp op) (rI0 fun i j => .bl (f i j))) : OpR X (compareOp op) (rD X.K (cmpD f)) := opI2 (fun d e z h => by cases d <;> cases e <;> first | (cases h; done) | exact ⟨_, _, rfl, rfl⟩) fun i j z hz => by
  cases hz
  exact ⟨.bl (f i j), fun _ _ => .bl _, fun pins s σ H x y v u Q I rx ry q => h pins s σ H x y v u Q I rx ry ⟨i, j, q⟩⟩
theorem op_ltD : OpR X (compareOp .Lt) (rD X.K (cmpD fun i j => decide (i < j))) := cmp_ok op_lt
theorem op_leD : OpR X (compareOp .LtE) (rD X.K (cmpD fun i j => decide (i ≤ j))) := cmp_ok op_le
theorem op_gtD : OpR X (compareOp .Gt) (rD X.K (cmpD fun i j => decide (j < i))) := cmp_ok op_gt
theorem op_geD : OpR X (compareOp .GtE) (rD X.K (cmpD fun i j => decide (j ≤ i))) := cmp_ok op_ge
theorem op_eqDD (hu : X.A.units + 64 < cLine) : OpR X (compareOp .Eq) (rD X.K eqD) := opd fun pins s σ H H0 x y v u Q d e z I rx ry s0 hd he hf q => by
  unfold eqD at hf
  split at hf
  · cases hf
    cases hd
    cases he
    rename_i a b
    refine op_eq pins s σ H _ _ v u Q I rx ry ⟨rfl, ?_⟩
    have e : decide (V.str a = V.str b) = decide (a = b) := by simp
    rw [e]
    exact q _ H0 H (Gr.refl s0) (.bl _)
  split at hf
  · rename_i hc
    cases hf
    obtain ⟨as, r1⟩ := Da.reads I d x v (hd.mono s0) rx
    obtain ⟨bs, r2⟩ := Da.reads I e y u (he.mono s0) ry
    exact SeqAt.compareEq_shaped r1 r2 hc.1 hc.2 hu ⟨.bl _, H, I, rfl, q _ H0 H (Gr.refl s0) (.bl _)⟩
  · cases hf
theorem op_neDD (hu : X.A.units + 64 < cLine) : OpR X (compareOp .NotEq) (rD X.K neD) := opd fun pins s σ H H0 x y v u Q d e z I rx ry s0 hd he hf q => by
  unfold neD at hf
  split at hf
  · cases hf
    cases hd
    cases he
    rename_i a b
    refine op_ne pins s σ H _ _ v u Q I rx ry ⟨rfl, ?_⟩
    have e : decide (V.str a = V.str b) = decide (a = b) := by simp
    rw [e]
    exact q _ H0 H (Gr.refl s0) (.bl _)
  split at hf
  · rename_i hc
    cases hf
    obtain ⟨as, r1⟩ := Da.reads I d x v (hd.mono s0) rx
    obtain ⟨bs, r2⟩ := Da.reads I e y u (he.mono s0) ry
    exact SeqAt.compareNe_shaped r1 r2 hc.1 hc.2 hu ⟨.bl _, H, I, rfl, q _ H0 H (Gr.refl s0) (.bl _)⟩
  · cases hf
theorem op_inGG (hu : X.A.units + 65 < cLine) : OpR X (compareOp .In) (rD X.K (inG false)) := opd fun pins s σ H H0 x y v u Q d e z I rx ry s0 hd he hf q => by
  obtain ⟨as, r1⟩ := Da.reads I d x v (hd.mono s0) rx
  obtain ⟨bs, r2⟩ := Da.reads I e y u (he.mono s0) ry
  cases e with
  | list c =>
    simp only [inG] at hf
    split at hf
    · rename_i hc
      cases hf
      exact SeqAt.in_list_reads r2 r1 hc.2 (SeqAt.canLay_of_shaped hc.1) (room_in_shaped hc.1 hu) ⟨.bl _, H, I, rfl, q _ H0 H (Gr.refl s0) (.bl _)⟩
    · cases hf
  | tuple c =>
    simp only [inG] at hf
    split at hf
    · rename_i hc
      cases hf
      exact SeqAt.in_tuple_reads r2 r1 hc.2 (SeqAt.canLay_of_shaped hc.1) (room_in_shaped hc.1 hu) ⟨.bl _, H, I, rfl, q _ H0 H (Gr.refl s0) (.bl _)⟩
    · cases hf
  | _ => cases hf
theorem op_niGG (hu : X.A.units + 65 < cLine) : OpR X (compareOp .NotIn) (rD X.K (inG true)) := opd fun pins s σ H H0 x y v u Q d e z I rx ry s0 hd he hf q => by
  obtain ⟨as, r1⟩ := Da.reads I d x v (hd.mono s0) rx
  obtain ⟨bs, r2⟩ := Da.reads I e y u (he.mono s0) ry
  cases e with
  | list c =>
    simp only [inG] at hf
    split at hf
    · rename_i hc
      cases hf
      exact SeqAt.notIn_list_reads r2 r1 hc.2 (SeqAt.canLay_of_shaped hc.1) (room_in_shaped hc.1 hu) ⟨.bl _, H, I, rfl, q _ H0 H (Gr.refl s0) (.bl _)⟩
    · cases hf
  | tuple c =>
    simp only [inG] at hf
    split at hf
    · rename_i hc
      cases hf
      exact SeqAt.notIn_tuple_reads r2 r1 hc.2 (SeqAt.canLay_of_shaped hc.1) (room_in_shaped hc.1 hu) ⟨.bl _, H, I, rfl, q _ H0 H (Gr.refl s0) (.bl _)⟩
    · cases hf
  | _ => cases hf
theorem daS {K : PySem.W.Frag} {H : Hp} : ∀ {vs : List V} {ns : List Str}, DaAll K H vs (ns.map PyData.str) → vs = ns.map V.str
  | _, [], h => by cases h; rfl
  | _, n :: ns, h => by
    cases h with
    | cons a t =>
      cases a
      rw [daS t]
      rfl
theorem inV_str (a : Str) : ∀ ns : List Str, inV (.str a) (ns.map V.str) = decide (a ∈ ns)
  | [] => by simp [inV]
  | n :: ns => by
    have ih := inV_str a ns
    unfold inV at ih ⊢
    rw [List.map_cons, List.any_cons, ih]
    show ((n == a) || decide (a ∈ ns)) = decide (a ∈ n :: ns)
    by_cases h : n = a
    · subst h
      simp
    · have h2 : ¬ a = n := fun e => h e.symm
      have h3 : (n == a) = false := by simpa using h
      rw [h3]
      simp [h2]
theorem flat_strs (ns : List Str) : (ns.map V.str).all flatV = true := by
  rw [List.all_eq_true]
  intro x hx
  obtain ⟨y, _, rfl⟩ := List.mem_map.mp hx
  rfl
theorem inS_ok {neg : Bool} {op : CmpOp} (ho : OpR X (compareOp op) (rIn X.K neg)) : OpR X (compareOp op) (rD X.K (inS neg)) := opd fun pins s σ H H0 x y v u Q d e z I rx ry s0 hd he hf q => by
  unfold inS at hf
  split at hf
  · rename_i a c
    cases h1 : strsOf c with
    | none => rw [h1] at hf; cases hf
    | some cs =>
      rw [h1] at hf
      cases hf
      have e1 := strsOf_eq h1
      subst e1
      cases hd
      cases he with
      | lst h2 h3 =>
        have e2 := daS h3
        subst e2
        refine ho pins s σ H _ _ v u Q I rx ry ⟨_, _, rfl, .inl (ex_l s0 h2), rfl, flat_strs cs, ?_⟩
        rw [inV_str]
        exact q _ H0 H (Gr.refl s0) (.bl _)
  · rename_i a c
    cases h1 : strsOf c with
    | none => rw [h1] at hf; cases hf
    | some cs =>
      rw [h1] at hf
      cases hf
      have e1 := strsOf_eq h1
      subst e1
      cases hd
      cases he with
      | tup h2 h3 =>
        have e2 := daS h3
        subst e2
        refine ho pins s σ H _ _ v u Q I rx ry ⟨_, _, rfl, .inr (SqT.of (s0 _ _ h2)), rfl, flat_strs cs, ?_⟩
        rw [inV_str]
        exact q _ H0 H (Gr.refl s0) (.bl _)
  · cases hf
theorem in_or {neg : Bool} {op : CmpOp} (h1 : OpR X (compareOp op) (rD X.K (inS neg))) (h2 : OpR X (compareOp op) (rD X.K (inG neg))) : OpR X (compareOp op) (rD X.K (inD neg)) := by
  intro pins s σ H x y v u Q I rx ry q
  obtain ⟨H0, d, e, z, s0, hd, he, hf, q⟩ := q
  unfold inD at hf
  split at hf
  · rename_i z' hz
    cases hf
    exact h1 pins s σ H x y v u Q I rx ry ⟨H0, d, e, z, s0, hd, he, hz, q⟩
  · exact h2 pins s σ H x y v u Q I rx ry ⟨H0, d, e, z, s0, hd, he, hf, q⟩
theorem op_inDD (hu : X.A.units + 65 < cLine) : OpR X (compareOp .In) (rD X.K (inD false)) := in_or (inS_ok op_in_seq) (op_inGG hu)
theorem op_niDD (hu : X.A.units + 65 < cLine) : OpR X (compareOp .NotIn) (rD X.K (inD true)) := in_or (inS_ok op_notIn_seq) (op_niGG hu)
theorem da_none {K : PySem.W.Frag} {H : Hp} {v : V} {d : PyData} (h : Da K H v d) : decide (v = .non) = noneD d := by cases h <;> rfl
theorem op_isD : OpR X (compareOp .Is) (rD X.K (isD false)) := opd fun pins s σ H H0 x y v u Q d e z I rx ry s0 hd he hf q => by
  cases he with
  | non =>
    have hz : z = .bool (noneD d) := by
      cases d <;> (cases hf; rfl)
    subst hz
    refine op_isN pins s σ H _ _ v u Q I rx ry ⟨rfl, ?_⟩
    rw [da_none hd]
    exact q _ H0 H (Gr.refl s0) (.bl _)
  | bl b =>
    cases hd with
    | bl a =>
      cases hf
      exact op_isBl pins s σ H _ _ v u Q I rx ry ⟨a, b, rfl, rfl, q _ H0 H (Gr.refl s0) (.bl _)⟩
    | _ => cases hf
  | _ => cases hd <;> cases hf
theorem op_isntD : OpR X (compareOp .IsNot) (rD X.K (isD true)) := opd fun pins s σ H H0 x y v u Q d e z I rx ry s0 hd he hf q => by
  cases he with
  | non =>
    have hz : z = .bool (!noneD d) := by
      cases d <;> (cases hf; rfl)
    subst hz
    refine op_notN pins s σ H _ _ v u Q I rx ry ⟨rfl, ?_⟩
    rw [da_none hd]
    exact q _ H0 H (Gr.refl s0) (.bl _)
  | bl b =>
    cases hd with
    | bl a =>
      cases hf
      exact op_notBl pins s σ H _ _ v u Q I rx ry ⟨a, b, rfl, rfl, q _ H0 H (Gr.refl s0) (.bl _)⟩
    | _ => cases hf
  | _ => cases hd <;> cases hf
theorem un_negD : UnR X (unaryOp .USub) (rU1 X.K negD) := by
  intro pins s σ H x v Q I rx h
  obtain ⟨H0, d, z, s0, hd, hf, q⟩ := h
  cases hd with
  | int i =>
    cases hf
    exact un_neg pins s σ H _ v Q I rx ⟨i, rfl, q _ H0 H (Gr.refl s0) (.int _)⟩
  | _ => cases hf
end
end DL

set_option Elab.async false
set_option linter.all false
set_option maxRecDepth 100000
set_option maxHeartbeats 4000000
namespace DL
open PySem PySem.Spec PyProof.Rows L2 Evl

/-! ### expressions by what they give -/
abbrev XE := List Sl → Os → Option (PyData × Os)
abbrev XT := List Sl → Os → Option (Bool × Os)
abbrev XA := List Sl → Os → Option (List Sl × Os)
def teO (K : PySem.W.Frag) (x : XE) : TE := fun σ H Q => ∃ as ρ os H0 d os', En K as ρ os σ H0 H ∧ x ρ os = some (d, os') ∧ ∀ v H0' H', En K as ρ os' σ H0' H' → Gr as H0 H H0' H' → Da K H0' v d → Q v H'
def ttO (K : PySem.W.Frag) (x : XT) : TT := fun σ H Q => ∃ as ρ os H0 b os', En K as ρ os σ H0 H ∧ x ρ os = some (b, os') ∧ ∀ H0' H', En K as ρ os' σ H0' H' → Gr as H0 H H0' H' → Q b H'
def taO (K : PySem.W.Frag) (x : XA) : TA := fun σ H Q => ∃ as ρ os H0 ss os', En K as ρ os σ H0 H ∧ x ρ os = some (ss, os') ∧ ∀ vs H0' H', En K as ρ os' σ H0' H' → Gr as H0 H H0' H' → ArgsOk K as H0' vs ss → Q vs H'
abbrev PX (X : Cx) (e : Expr) (x : XE) : Prop := PE X e (teO X.K x)
abbrev PXT (X : Cx) (e : Expr) (x : XT) : Prop := PT X e (ttO X.K x)
abbrev PXW (X : Cx) (e : Expr) (x : XT) : Prop := L2.PW X e (ttO X.K x)
abbrev PXA (X : Cx) (es : List Expr) (x : XA) : Prop := PA X es (taO X.K x)

section
variable {X : Cx} {a b c e : Expr} {es rest : List Expr} {xa xb xc : XE} {ta tb : XT} {pos : Pos}
theorem pe_imp {t t' : TE} (h : PE X e t) (k : ∀ σ H Q, t' σ H Q → t σ H Q) : PE X e t' := ⟨fun pins s σ H Q I q => h.run pins s σ H Q I (k _ _ _ q)⟩
theorem pt_imp {t t' : TT} (h : PT X e t) (k : ∀ σ H Q, t' σ H Q → t σ H Q) : PT X e t' := ⟨fun pins s σ H Q I q => h.run pins s σ H Q I (k _ _ _ q)⟩
theorem pw_imp {t t' : TT} (h : L2.PW X e t) (k : ∀ σ H Q, t' σ H Q → t σ H Q) : L2.PW X e t' := ⟨fun whole pins s σ H Q I q => h.run whole pins s σ H Q I (k _ _ _ q)⟩
theorem pa_imp {t t' : TA} (h : PA X es t) (k : ∀ σ H Q, t' σ H Q → t σ H Q) : PA X es t' := ⟨fun pos pins s σ H Q I q => h.run pos pins s σ H Q I (k _ _ _ q)⟩

/-! names, constants -/
def xVar (i : Nat) : XE := fun ρ os => match ρ[i]? with
  | some (.d x) => some (x, os)
  | _ => none
def xC (d : PyData) : XE := fun _ os => some (d, os)
theorem px_var {i : Nat} (h : PE X e (tVar i)) : PX X e (xVar i) := pe_imp h fun σ H Q q => by
  obtain ⟨as, ρ, os, H0, d, os', n, hx, k⟩ := q
  unfold xVar at hx
  split at hx
  · rename_i x hi
    cases hx
    obtain ⟨v, hv, r⟩ := n.dat i _ hi
    exact ⟨v, hv, k v H0 H n (Gr.refl n.sub) r⟩
  · cases hx
theorem px_c {v : V} {d : PyData} (h : PE X e (tC v)) (r : ∀ (K : PySem.W.Frag) H, Da K H v d) : PX X e (xC d) := pe_imp h fun σ H Q q => by
  obtain ⟨as, ρ, os, H0, d', os', n, hx, k⟩ := q
  cases hx
  exact k v H0 H n (Gr.refl n.sub) (r _ _)
theorem px_int {i j} : PX X (.Constant (.int i) j pos) (xC (.int i)) := px_c pe_int fun _ _ => .int i
theorem px_bl {b j} : PX X (.Constant (.bool b) j pos) (xC (.bool b)) := px_c pe_bl fun _ _ => .bl b
theorem px_non {j} : PX X (.Constant .none j pos) (xC .none) := px_c pe_non fun _ _ => .non
theorem px_str {x j} : PX X (.Constant (.str x) j pos) (xC (.str x)) := px_c pe_str fun _ _ => .str x
/-- a module's tuple of texts, a module's text -/
theorem px_globs {x : Str} {v : Str} {u : Value} (hg : Gl X x) (hm : X.mg x = some u) (r : RelV (.str v) u) (hd : (x == ("__debug__" : Str)) = false := by decide) : PX X (.Name x pos) (xC (.str v)) :=
  px_c (pe_glob hg hm r hd) fun _ _ => .str v
/-- e in a module's tuple -/
def inT (neg : Bool) (c : List PyData) (d : PyData) : Option PyData := inD neg d (.tuple c)
def rInT (K : PySem.W.Frag) (neg : Bool) (c : List PyData) : R2 := fun u v H Q => ∃ H0 p vs d z, Ex H0 H ∧ v = .ref p ∧ SqT K H p vs ∧ DaAll K H vs c ∧ Da K H0 u d ∧ inT neg c d = some z ∧ ∀ w H0' H', Gr [] H0 H H0' H' → Da K H0' w z → Q w H'
theorem reads_t {pins : List (Addr × Obj)} {σ : L2.St} {s : Shared} {H : Hp} (I : Inv X pins σ H s) {p : Addr} {vs : List V} {c : List PyData} (h : SqT X.K H p vs) (ha : DaAll X.K H vs c) : ∃ as, Reads s.heap (.ref p) (.tuple c) as := by
  obtain ⟨its, rv, ⟨o, ho, hc, n, hd⟩, _⟩ := I.tuple h
  obtain ⟨as, hr⟩ := DaAll.reads I c _ its ha rv
  exact ⟨_, Reads.tuple ho hc hd hr⟩
theorem op_inT {c : List PyData} (hu : X.A.units + 65 < cLine) : OpR X (compareOp .In) (rInT X.K false c) := by
  intro pins s σ H x y v u Q I rx ry q
  obtain ⟨H0, p, vs, d, z, s0, rfl, ht, ha, hd, hf, q⟩ := q
  cases ry
  unfold inT inD at hf
  split at hf
  · rename_i z' hz
    cases hf
    unfold inS at hz
    split at hz
    · rename_i e
      cases e
    · rename_i a c2 ec
      cases ec
      cases h1 : strsOf c with
      | none => rw [h1] at hz; cases hz
      | some cs =>
        rw [h1] at hz
        cases hz
        have e1 := strsOf_eq h1
        subst e1
        cases hd
        have e2 := daS ha
        subst e2
        refine op_in_seq pins s σ H _ (.ref p) v _ Q I rx rfl ⟨_, _, rfl, .inr ht, rfl, flat_strs cs, ?_⟩
        rw [inV_str]
        exact q _ H0 H (Gr.refl s0) (.bl _)
    · cases hz
  · obtain ⟨as, r1⟩ := Da.reads I d x v (hd.mono s0) rx
    obtain ⟨bs, r2⟩ := reads_t I ht ha
    simp only [inG] at hf
    split at hf
    · rename_i hc
      cases hf
      exact SeqAt.in_tuple_reads r2 r1 hc.2 (SeqAt.canLay_of_shaped hc.1) (room_in_shaped hc.1 hu) ⟨.bl _, H, I, rfl, q _ H0 H (Gr.refl s0) (.bl _)⟩
    · cases hf
def xInT (c : List PyData) (xa : XE) : XE := fun ρ os => (xa ρ os).bind fun p => (inT false c p.1).map fun z => (z, p.2)
theorem px_inT {x : Str} {p : Addr} {vs : List V} {ds : List PyData} {p1 : Pos} (hu : X.A.units + 65 < cLine) (ha : PX X a xa) (hg : Gl X x) (hm : X.mg x = some (.ref p)) (ht : ∀ H, SqT X.K H p vs) (hd : ∀ H, DaAll X.K H vs ds) (hdb : (x == ("__debug__" : Str)) = false := by decide) : PX X (.Compare a [.In] [.Name x p1] pos) (xInT ds xa) :=
  pe_imp (pe_cmpR (op_inT (c := ds) hu) ha (pe_glob hg hm (v := .ref p) rfl hdb) (by rfl)) fun σ H Q q => by
    obtain ⟨as, ρ, os, H0, d', os', n, hx, k⟩ := q
    unfold xInT at hx
    cases h1 : xa ρ os with
    | none => rw [h1] at hx; cases hx
    | some p1 =>
      obtain ⟨d, os1⟩ := p1
      rw [h1, Option.bind_some] at hx
      simp only at hx
      cases h2 : inT false ds d with
      | none => rw [h2] at hx; cases hx
      | some z =>
        rw [h2] at hx
        cases hx
        exact ⟨as, ρ, os, H0, d, _, n, h1, fun v H0' H' n1 g1 r1 => ⟨H0', p, vs, d, _, n1.sub, rfl, ht _, hd _, r1, h2, fun w H3 H3' g3 r3 => k w H3 H3' (n1.grow g3) (g1.tr0 g3) r3⟩⟩

/-! operators -/
def xOp (f : PyData → PyData → Option PyData) (xa xb : XE) : XE := fun ρ os => (xa ρ os).bind fun p => (xb ρ p.2).bind fun q => (f p.1 q.1).map fun z => (z, q.2)
theorem xOp_some {f : PyData → PyData → Option PyData} {ρ : List Sl} {os os' : Os} {z : PyData} (h : xOp f xa xb ρ os = some (z, os')) : ∃ x os1 y, xa ρ os = some (x, os1) ∧ xb ρ os1 = some (y, os') ∧ f x y = some z := by
  unfold xOp at h
  cases h1 : xa ρ os with
  | none => rw [h1] at h; cases h
  | some p =>
    rw [h1] at h
    cases h2 : xb ρ p.2 with
    | none => rw [Option.bind_some, h2] at h; cases h
    | some q =>
      rw [Option.bind_some, h2, Option.bind_some] at h
      cases h3 : f p.1 q.1 with
      | none => rw [h3] at h; cases h
      | some w =>
        rw [h3] at h
        cases h
        exact ⟨p.1, p.2, q.1, rfl, h2, h3⟩
theorem to_op {K : PySem.W.Frag} {f : PyData → PyData → Option PyData} {σ : L2.St} {H : Hp} {Q : VK} (q : teO K (xOp f xa xb) σ H Q) : tOp (rD K f) (teO K xa) (teO K xb) σ H Q := by
  obtain ⟨as, ρ, os, H0, d, os', n, hx, k⟩ := q
  obtain ⟨x, os1, y, h1, h2, h3⟩ := xOp_some hx
  refine ⟨as, ρ, os, H0, x, os1, n, h1, fun v H0' H' n1 g1 r1 => ⟨as, ρ, os1, H0', y, os', n1, h2, fun u H0'' H'' n2 g2 r2 => ?_⟩⟩
  exact ⟨H0'', x, y, d, n2.sub, r1.mono g2.e0, r2, h3, fun w H3 H3' g3 r3 => k w H3 H3' (n2.grow g3) ((g1.tr g2).tr0 g3) r3⟩
theorem px_op {op : Operator} {f : PyData → PyData → Option PyData} (ho : OpR X (binaryOp op) (rD X.K f)) (ha : PX X a xa) (hb : PX X b xb) : PX X (.BinOp a op b pos) (xOp f xa xb) := pe_imp (pe_op ho ha hb) fun _ _ _ q => to_op q
theorem px_cmp {op : CmpOp} {f : PyData → PyData → Option PyData} (ho : OpR X (compareOp op) (rD X.K f)) (ha : PX X a xa) (hb : PX X b xb) (hm : behindInMarks op b = false) : PX X (.Compare a [op] [b] pos) (xOp f xa xb) := pe_imp (pe_cmpR ho ha hb hm) fun _ _ _ q => to_op q
def xUn (f : PyData → Option PyData) (xa : XE) : XE := fun ρ os => (xa ρ os).bind fun p => (f p.1).map fun z => (z, p.2)
theorem xUn_some {f : PyData → Option PyData} {ρ : List Sl} {os os' : Os} {z : PyData} (h : xUn f xa ρ os = some (z, os')) : ∃ x, xa ρ os = some (x, os') ∧ f x = some z := by
  unfold xUn at h
  cases h1 : xa ρ os with
  | none => rw [h1] at h; cases h
  | some p =>
    rw [h1, Option.bind_some] at h
    cases h3 : f p.1 with
    | none => rw [h3] at h; cases h
    | some w =>
      rw [h3] at h
      cases h
      exact ⟨p.1, rfl, h3⟩
theorem to_un {K : PySem.W.Frag} {f : PyData → Option PyData} {σ : L2.St} {H : Hp} {Q : VK} (q : teO K (xUn f xa) σ H Q) : tUn (rU1 K f) (teO K xa) σ H Q := by
  obtain ⟨as, ρ, os, H0, d, os', n, hx, k⟩ := q
  obtain ⟨x, h1, h3⟩ := xUn_some hx
  exact ⟨as, ρ, os, H0, x, os', n, h1, fun v H0' H' n1 g1 r1 => ⟨H0', x, d, n1.sub, r1, h3, fun w H3 H3' g3 r3 => k w H3 H3' (n1.grow g3) (g1.tr0 g3) r3⟩⟩
theorem px_un {op : UnaryOp} {f : PyData → Option PyData} (ho : UnR X (unaryOp op) (rU1 X.K f)) (ha : PX X a xa) : PX X (.UnaryOp op a pos) (xUn f xa) := pe_imp (pe_un ho ha) fun _ _ _ q => to_un q

/-! tests -/
/-- a value that is True or False -/
def xBool (xa : XE) : XT := fun ρ os => (xa ρ os).bind fun p => match p.1 with
  | .bool b => some (b, p.2)
  | _ => none
theorem pxt_val (ha : PX X a xa) (he : ∀ whole, isTrue a X.env whole = (do let v ← whole; standAt a.pos; holding [v] (truthy v)) := by intro _; rfl) : PXT X a (xBool xa) := pt_imp (pt_val ha he) fun σ H Q q => by
  obtain ⟨as, ρ, os, H0, d, os', n, hx, k⟩ := q
  unfold xBool at hx
  cases h1 : xa ρ os with
  | none => rw [h1] at hx; cases hx
  | some p =>
    obtain ⟨x, os1⟩ := p
    rw [h1, Option.bind_some] at hx
    cases x with
    | bool b =>
      cases hx
      refine ⟨as, ρ, os, H0, _, _, n, h1, fun v H0' H' n1 g1 r1 => ?_⟩
      cases r1
      exact ⟨_, rfl, k H0' H' n1 g1⟩
    | _ => cases hx
/-- by its truth -/
def xTruth (xa : XE) : XT := fun ρ os => (xa ρ os).bind fun p => (truthD p.1).map fun b => (b, p.2)
theorem da_truth {K : PySem.W.Frag} {H0 H : Hp} {v : V} {d : PyData} {b : Bool} (s : Ex H0 H) (h : Da K H0 v d) (e : truthD d = some b) : TruV K v H b := by
  cases h with
  | non => cases e; rfl
  | bl _ => cases e; rfl
  | int _ => cases e; rfl
  | str x =>
    simp only [truthD] at e
    split at e
    · cases e; exact ⟨by assumption, rfl⟩
    · cases e
  | lst h1 h2 =>
    cases e
    refine .inl ⟨_, ex_l s h1, ?_⟩
    cases h2 <;> rfl
  | tup h1 h2 =>
    cases e
    refine .inr (.inl ⟨_, SqT.of (s _ _ h1), ?_⟩)
    cases h2 <;> rfl
  | dct h1 =>
    cases e
    exact .inr (.inr ⟨[], s _ _ h1, rfl⟩)
theorem pxt_truth (ha : PX X a xa) (he : ∀ whole, isTrue a X.env whole = (do let v ← whole; standAt a.pos; holding [v] (truthy v)) := by intro _; rfl) : PXT X a (xTruth xa) := pt_imp (pt_truth ha he) fun σ H Q q => by
  obtain ⟨as, ρ, os, H0, d, os', n, hx, k⟩ := q
  unfold xTruth at hx
  cases h1 : xa ρ os with
  | none => rw [h1] at hx; cases hx
  | some p =>
    obtain ⟨x, os1⟩ := p
    rw [h1, Option.bind_some] at hx
    cases h2 : truthD x with
    | none => rw [h2] at hx; cases hx
    | some b =>
      rw [h2] at hx
      cases hx
      exact ⟨as, ρ, os, H0, _, _, n, h1, fun v H0' H' n1 g1 r1 => ⟨_, da_truth n1.sub r1 h2, k H0' H' n1 g1⟩⟩
def xNotT (ta : XT) : XT := fun ρ os => (ta ρ os).map fun p => (!p.1, p.2)
theorem pxt_not (ha : PXT X a ta) : PXT X (.UnaryOp .Not a pos) (xNotT ta) := pt_imp (pt_not ha) fun σ H Q q => by
  obtain ⟨as, ρ, os, H0, d, os', n, hx, k⟩ := q
  unfold xNotT at hx
  cases h1 : ta ρ os with
  | none => rw [h1] at hx; cases hx
  | some p =>
    rw [h1] at hx
    cases hx
    exact ⟨as, ρ, os, H0, _, _, n, h1, fun H0' H' n1 g1 => k H0' H' n1 g1⟩
def xAndT (ta tb : XT) : XT := fun ρ os => (ta ρ os).bind fun p => if p.1 = true then tb ρ p.2 else some (false, p.2)
def xOrT (ta tb : XT) : XT := fun ρ os => (ta ρ os).bind fun p => if p.1 = true then some (true, p.2) else tb ρ p.2
theorem to_and {K : PySem.W.Frag} {σ : L2.St} {H : Hp} {Q : Bool → Hp → Prop} (q : ttO K (xAndT ta tb) σ H Q) : tAnd (ttO K ta) (ttO K tb) σ H Q := by
  obtain ⟨as, ρ, os, H0, d, os', n, hx, k⟩ := q
  unfold xAndT at hx
  cases h1 : ta ρ os with
  | none => rw [h1] at hx; cases hx
  | some p =>
    obtain ⟨b, os1⟩ := p
    rw [h1, Option.bind_some] at hx
    refine ⟨as, ρ, os, H0, b, os1, n, h1, fun H0' H' n1 g1 => ?_⟩
    cases b with
    | true => exact ⟨as, ρ, os1, H0', d, os', n1, by simpa using hx, fun H2 H2' n2 g2 => k H2 H2' n2 (g1.tr g2)⟩
    | false =>
      cases hx
      exact k H0' H' n1 g1
theorem to_or {K : PySem.W.Frag} {σ : L2.St} {H : Hp} {Q : Bool → Hp → Prop} (q : ttO K (xOrT ta tb) σ H Q) : tOr (ttO K ta) (ttO K tb) σ H Q := by
  obtain ⟨as, ρ, os, H0, d, os', n, hx, k⟩ := q
  unfold xOrT at hx
  cases h1 : ta ρ os with
  | none => rw [h1] at hx; cases hx
  | some p =>
    obtain ⟨b, os1⟩ := p
    rw [h1, Option.bind_some] at hx
    refine ⟨as, ρ, os, H0, b, os1, n, h1, fun H0' H' n1 g1 => ?_⟩
    cases b with
    | false => exact ⟨as, ρ, os1, H0', d, os', n1, by simpa using hx, fun H2 H2' n2 g2 => k H2 H2' n2 (g1.tr g2)⟩
    | true =>
      cases hx
      exact k H0' H' n1 g1
theorem pxw_and1 (ha : PXT X a ta) : PXW X (.BoolOp .And [a] pos) ta := pw_and1 ha
theorem pxw_or1 (ha : PXT X a ta) : PXW X (.BoolOp .Or [a] pos) ta := pw_or1 ha
theorem pxw_and (ha : PXT X a ta) (hb : PXW X (.BoolOp .And (b :: rest) pos) tb) : PXW X (.BoolOp .And (a :: b :: rest) pos) (xAndT ta tb) := pw_imp (pw_and ha hb) fun _ _ _ q => to_and q
theorem pxw_or (ha : PXT X a ta) (hb : PXW X (.BoolOp .Or (b :: rest) pos) tb) : PXW X (.BoolOp .Or (a :: b :: rest) pos) (xOrT ta tb) := pw_imp (pw_or ha hb) fun _ _ _ q => to_or q
theorem pxw_t (h : PXW X a ta) : PXT X a ta := h.pt

/-! and, or, not as values: of truth values -/
def xAndV (xa xb : XE) : XE := fun ρ os => (xa ρ os).bind fun p => match p.1 with
  | .bool true => xb ρ p.2
  | .bool false => some (.bool false, p.2)
  | _ => none
def xOrV (xa xb : XE) : XE := fun ρ os => (xa ρ os).bind fun p => match p.1 with
  | .bool false => xb ρ p.2
  | .bool true => some (.bool true, p.2)
  | _ => none
def notD : PyData → Option PyData
  | .bool b => some (.bool (!b))
  | _ => none
theorem px_one {op} (h : PX X a xa) : PX X (.BoolOp op [a] pos) xa := pe_one h
theorem px_and (ha : PX X a xa) (hb : PX X (.BoolOp .And (b :: rest) pos) xb) : PX X (.BoolOp .And (a :: b :: rest) pos) (xAndV xa xb) := pe_imp (pe_and ha hb) fun σ H Q q => by
  obtain ⟨as, ρ, os, H0, d, os', n, hx, k⟩ := q
  unfold xAndV at hx
  cases h1 : xa ρ os with
  | none => rw [h1] at hx; cases hx
  | some p =>
    obtain ⟨x, os1⟩ := p
    rw [h1, Option.bind_some] at hx
    cases x with
    | bool c =>
      refine ⟨as, ρ, os, H0, _, os1, n, h1, fun v H0' H' n1 g1 r1 => ?_⟩
      cases r1
      refine ⟨c, rfl, ?_⟩
      cases c with
      | true => exact ⟨as, ρ, os1, H0', d, os', n1, hx, fun w H2 H2' n2 g2 r2 => k w H2 H2' n2 (g1.tr g2) r2⟩
      | false =>
        cases hx
        exact k _ H0' H' n1 g1 (.bl _)
    | _ => cases hx
theorem px_or (ha : PX X a xa) (hb : PX X (.BoolOp .Or (b :: rest) pos) xb) : PX X (.BoolOp .Or (a :: b :: rest) pos) (xOrV xa xb) := pe_imp (pe_or ha hb) fun σ H Q q => by
  obtain ⟨as, ρ, os, H0, d, os', n, hx, k⟩ := q
  unfold xOrV at hx
  cases h1 : xa ρ os with
  | none => rw [h1] at hx; cases hx
  | some p =>
    obtain ⟨x, os1⟩ := p
    rw [h1, Option.bind_some] at hx
    cases x with
    | bool c =>
      refine ⟨as, ρ, os, H0, _, os1, n, h1, fun v H0' H' n1 g1 r1 => ?_⟩
      cases r1
      refine ⟨c, rfl, ?_⟩
      cases c with
      | false => exact ⟨as, ρ, os1, H0', d, os', n1, hx, fun w H2 H2' n2 g2 r2 => k w H2 H2' n2 (g1.tr g2) r2⟩
      | true =>
        cases hx
        exact k _ H0' H' n1 g1 (.bl _)
    | _ => cases hx
theorem px_not (ha : PX X a xa) : PX X (.UnaryOp .Not a pos) (xUn notD xa) := pe_imp (pe_not ha) fun σ H Q q => by
  obtain ⟨as, ρ, os, H0, d, os', n, hx, k⟩ := q
  obtain ⟨x, h1, h3⟩ := xUn_some hx
  refine ⟨as, ρ, os, H0, x, os', n, h1, fun v H0' H' n1 g1 r1 => ?_⟩
  cases r1 with
  | bl c =>
    cases h3
    exact ⟨c, rfl, k _ H0' H' n1 g1 (.bl _)⟩
  | _ => cases h3
def xIf (t : XT) (xa xb : XE) : XE := fun ρ os => (t ρ os).bind fun p => if p.1 = true then xa ρ p.2 else xb ρ p.2
theorem px_if (hc : PXT X c ta) (ha : PX X a xa) (hb : PX X b xb) : PX X (.IfExp c a b pos) (xIf ta xa xb) := pe_imp (pe_ifExp hc ha hb) fun σ H Q q => by
  obtain ⟨as, ρ, os, H0, d, os', n, hx, k⟩ := q
  unfold xIf at hx
  cases h1 : ta ρ os with
  | none => rw [h1] at hx; cases hx
  | some p =>
    obtain ⟨c, os1⟩ := p
    rw [h1, Option.bind_some] at hx
    refine ⟨as, ρ, os, H0, c, os1, n, h1, fun H0' H' n1 g1 => ?_⟩
    cases c with
    | true => exact ⟨as, ρ, os1, H0', d, os', n1, by simpa using hx, fun w H2 H2' n2 g2 r2 => k w H2 H2' n2 (g1.tr g2) r2⟩
    | false => exact ⟨as, ρ, os1, H0', d, os', n1, by simpa using hx, fun w H2 H2' n2 g2 r2 => k w H2 H2' n2 (g1.tr g2) r2⟩

/-! arguments -/
def xaNil : XA := fun _ os => some ([], os)
def xaD (xa : XE) (r : XA) : XA := fun ρ os => (xa ρ os).bind fun p => (r ρ p.2).map fun q => (.d p.1 :: q.1, q.2)
/-- a list of one's own, handed on as it is -/
def xaO (i : Nat) (r : XA) : XA := fun ρ os => match ρ[i]? with
  | some (.o k) => (r ρ os).map fun q => (.o k :: q.1, q.2)
  | _ => none
theorem pxa_nil : PXA X [] xaNil := pa_imp pa_nil fun σ H Q q => by
  obtain ⟨as, ρ, os, H0, d, os', n, hx, k⟩ := q
  cases hx
  exact k [] H0 H n (Gr.refl n.sub) True.intro
variable {ra : XA}
theorem pxa_d (ha : PX X e xa) (hr : PXA X es ra) (hs : starEach (e :: es) X.env = (false, eval e X.env) :: starEach es X.env := by rfl) : PXA X (e :: es) (xaD xa ra) := pa_imp (pa_cons ha hr hs) fun σ H Q q => by
  obtain ⟨as, ρ, os, H0, d, os', n, hx, k⟩ := q
  unfold xaD at hx
  cases h1 : xa ρ os with
  | none => rw [h1] at hx; cases hx
  | some p =>
    rw [h1, Option.bind_some] at hx
    cases h2 : ra ρ p.2 with
    | none => rw [h2] at hx; cases hx
    | some q =>
      rw [h2] at hx
      cases hx
      refine ⟨as, ρ, os, H0, p.1, p.2, n, h1, fun v H0' H' n1 g1 r1 => ⟨as, ρ, p.2, H0', q.1, q.2, n1, h2, fun vs H2 H2' n2 g2 r2 => ?_⟩⟩
      exact k (v :: vs) H2 H2' n2 (g1.tr g2) ⟨Da.mono g2.e0 _ _ r1, r2⟩
theorem pxa_o {i : Nat} (ha : PE X e (tVar i)) (hr : PXA X es ra) (hs : starEach (e :: es) X.env = (false, eval e X.env) :: starEach es X.env := by rfl) : PXA X (e :: es) (xaO i ra) := pa_imp (pa_cons ha hr hs) fun σ H Q q => by
  obtain ⟨as, ρ, os, H0, d, os', n, hx, k⟩ := q
  unfold xaO at hx
  split at hx
  · rename_i j hi
    obtain ⟨a, ea, es⟩ := n.ref i j hi
    cases h2 : ra ρ os with
    | none => rw [h2] at hx; cases hx
    | some q =>
      rw [h2] at hx
      cases hx
      exact ⟨_, es, as, ρ, os, H0, q.1, q.2, n, h2, fun vs H2 H2' n2 g2 r2 => k _ H2 H2' n2 g2 ⟨⟨a, ea, rfl⟩, r2⟩⟩
  · cases hx
/-- all are data -/
def datas : List Sl → Option (List PyData)
  | [] => some []
  | .d x :: r => (datas r).map (x :: ·)
  | _ => none
theorem args_datas {K : PySem.W.Frag} {as : List Addr} {H0 : Hp} : ∀ {ss : List Sl} {vs : List V} {ds : List PyData}, ArgsOk K as H0 vs ss → datas ss = some ds → DaAll K H0 vs ds
  | [], [], _, _, e => by cases e; exact .nil
  | [], _ :: _, _, h, _ => h.elim
  | _ :: _, [], _, h, _ => by cases h
  | .d x :: r, v :: vs, ds, h, e => by
    simp only [datas] at e
    cases h2 : datas r with
    | none => rw [h2] at e; cases e
    | some q =>
      rw [h2] at e
      cases e
      exact .cons h.1 (args_datas h.2 h2)
  | .u :: _, _ :: _, _, _, e => by cases e
  | .o _ :: _, _ :: _, _, _, e => by cases e
/-- a built-in of the arguments' data -/
def xCall (f : List PyData → Option PyData) (ra : XA) : XE := fun ρ os => (ra ρ os).bind fun p => (datas p.1).bind fun ds => (f ds).map fun z => (z, p.2)
theorem xCall_some {f : List PyData → Option PyData} {ρ : List Sl} {os os' : Os} {z : PyData} (h : xCall f ra ρ os = some (z, os')) : ∃ ss ds, ra ρ os = some (ss, os') ∧ datas ss = some ds ∧ f ds = some z := by
  unfold xCall at h
  cases h1 : ra ρ os with
  | none => rw [h1] at h; cases h
  | some p =>
    rw [h1, Option.bind_some] at h
    cases h2 : datas p.1 with
    | none => rw [h2] at h; cases h
    | some ds =>
      rw [h2, Option.bind_some] at h
      cases h3 : f ds with
      | none => rw [h3] at h; cases h
      | some w =>
        rw [h3] at h
        cases h
        exact ⟨p.1, ds, rfl, h2, h3⟩
theorem to_call {K : PySem.W.Frag} {f : List PyData → Option PyData} {σ : L2.St} {H : Hp} {Q : VK} (q : teO K (xCall f ra) σ H Q) : tCB (rC K f) (taO K ra) σ H Q := by
  obtain ⟨as, ρ, os, H0, d, os', n, hx, k⟩ := q
  obtain ⟨ss, ds, h1, h2, h3⟩ := xCall_some hx
  exact ⟨as, ρ, os, H0, ss, os', n, h1, fun vs H1 H1' n1 g1 r1 => ⟨H1, ds, d, n1.sub, args_datas r1 h2, h3, fun w H3 H3' g3 r3 => k w H3 H3' (n1.grow g3) (g1.tr0 g3) r3⟩⟩

/-! displays -/
def tupD (ds : List PyData) : Option PyData := if ds.length ≤ sizeLine then some (.tuple ds) else none
def lstD (ds : List PyData) : Option PyData := if ds.length ≤ sizeLine then some (.list ds) else none
theorem px_tup {x1} (h : PXA X es ra) : PX X (.Tuple es x1 pos) (xCall tupD ra) := pe_imp (pe_tup h) fun σ H Q q => by
  obtain ⟨as, ρ, os, H0, d, os', n, hx, k⟩ := q
  obtain ⟨ss, ds, h1, h2, h3⟩ := xCall_some hx
  unfold tupD at h3
  split at h3
  · rename_i hz
    cases h3
    refine ⟨as, ρ, os, H0, ss, os', n, h1, fun vs H1 H1' n1 g1 r1 => ⟨by rw [(args_datas r1 h2).len]; exact hz, fun p hp => ?_⟩⟩
    exact k _ _ _ (n1.grow (Gr.new n1.sub hp)) (g1.tr0 (Gr.new n1.sub hp)) (.tup upd_same ((args_datas r1 h2).mono (Ex.new (fresh_back n1.sub hp))))
  · cases h3
theorem px_lst (h : PXA X es ra) : PX X (.List es pos) (xCall lstD ra) := pe_imp (pe_lst h) fun σ H Q q => by
  obtain ⟨as, ρ, os, H0, d, os', n, hx, k⟩ := q
  obtain ⟨ss, ds, h1, h2, h3⟩ := xCall_some hx
  unfold lstD at h3
  split at h3
  · rename_i hz
    cases h3
    refine ⟨as, ρ, os, H0, ss, os', n, h1, fun vs H1 H1' n1 g1 r1 => ⟨by rw [(args_datas r1 h2).len]; exact hz, fun p hp => ?_⟩⟩
    exact k _ _ _ (n1.grow (Gr.new n1.sub hp)) (g1.tr0 (Gr.new n1.sub hp)) (.lst (SqL.of upd_same) ((args_datas r1 h2).mono (Ex.new (fresh_back n1.sub hp))))
  · cases h3
end
end DL

set_option Elab.async false
set_option linter.all false
set_option maxRecDepth 100000
set_option maxHeartbeats 4000000
namespace DL
open PySem PySem.Spec PyProof.Rows L2 Evl

/-! ### targets: a name, a tuple of targets -/
abbrev XG := PyData → List Sl → Option (List Sl)
def gO (K : PySem.W.Frag) (xg : XG) (js : List Nat) : TG := fun v σ H Q => ∃ as ρ os H0 d ρ', En K as ρ os σ H0 H ∧ Da K H0 v d ∧ xg d ρ = some ρ' ∧ ∀ σ', En K as ρ' os σ' H0 H → (∀ vs, (∀ j ∈ js, j ∈ vs) → wipe σ' vs = wipe σ vs) → Q σ' H
def gsO (K : PySem.W.Frag) (xg : List PyData → List Sl → Option (List Sl)) (js : List Nat) : TGs := fun v σ H Q => ∃ as ρ os H0 d ρ', En K as ρ os σ H0 H ∧ DaAll K H0 v d ∧ xg d ρ = some ρ' ∧ ∀ σ', En K as ρ' os σ' H0 H → (∀ vs, (∀ j ∈ js, j ∈ vs) → wipe σ' vs = wipe σ vs) → Q σ' H
theorem En.set {K : PySem.W.Frag} {as : List Addr} {ρ : List Sl} {os : Os} {σ : L2.St} {H0 H : Hp} {v : V} {d : PyData} (n : En K as ρ os σ H0 H) (i : Nat) (r : Da K H0 v d) : En K as (ρ.set i (.d d)) os (σ.set i (some v)) H0 H := by
  refine ⟨n.sub, by rw [List.length_set, List.length_set]; exact n.len, fun j x h => ?_, fun j k h => ?_, n.ow⟩
  · by_cases e : i = j
    · subst e
      by_cases hl : i < ρ.length
      · rw [List.getElem?_set_self hl] at h
        cases h
        exact ⟨v, List.getElem?_set_self (by rw [n.len]; exact hl), r⟩
      · rw [List.getElem?_eq_none_iff.mpr (by rw [List.length_set]; omega)] at h
        cases h
    · rw [List.getElem?_set_ne e] at h ⊢
      exact n.dat j x h
  · by_cases e : i = j
    · subst e
      by_cases hl : i < ρ.length
      · rw [List.getElem?_set_self hl] at h
        cases h
      · rw [List.getElem?_eq_none_iff.mpr (by rw [List.length_set]; omega)] at h
        cases h
    · rw [List.getElem?_set_ne e] at h ⊢
      exact n.ref j k h
theorem wipe_get : ∀ (vs : List Nat) (σ : L2.St) (i : Nat), (wipe σ vs)[i]? = if i ∈ vs then (if i < σ.length then some none else none) else σ[i]?
  | [], σ, i => by simp [wipe]
  | v :: vs, σ, i => by
    unfold wipe
    by_cases e : v = i
    · subst e
      have hl : (wipe σ vs).length = σ.length := wipe_length σ vs
      by_cases h2 : v < σ.length
      · rw [List.getElem?_set_self (by rw [hl]; exact h2)]
        simp [h2]
      · rw [List.getElem?_eq_none_iff.mpr (by rw [List.length_set, hl]; omega)]
        simp [h2]
    · rw [List.getElem?_set_ne e, wipe_get vs σ i]
      by_cases hm : i ∈ vs
      · simp [hm]
      · have : ¬ i ∈ v :: vs := fun z => by
          rcases List.mem_cons.mp z with z | z
          · exact e z.symm
          · exact hm z
        rw [if_neg hm, if_neg this]
theorem wipe_set {σ : L2.St} {x : Option V} {i : Nat} {vs : List Nat} (h : i ∈ vs) : wipe (σ.set i x) vs = wipe σ vs := by
  refine List.ext_getElem? fun j => ?_
  rw [wipe_get, wipe_get, List.length_set]
  by_cases hj : j ∈ vs
  · rw [if_pos hj, if_pos hj]
  · rw [if_neg hj, if_neg hj, List.getElem?_set_ne (fun e => hj (by rw [← e]; exact h))]
theorem wipe_wipe {σ : L2.St} {vs : List Nat} : wipe (wipe σ vs) vs = wipe σ vs := by
  refine List.ext_getElem? fun j => ?_
  rw [wipe_get, wipe_get, wipe_length]
  by_cases hj : j ∈ vs
  · rw [if_pos hj, if_pos hj]
  · rw [if_neg hj]
def wipeR (ρ : List Sl) : List Nat → List Sl
  | [] => ρ
  | v :: vs => (wipeR ρ vs).set v .u
theorem En.unset {K : PySem.W.Frag} {as : List Addr} {ρ : List Sl} {os : Os} {σ : L2.St} {H0 H : Hp} (n : En K as ρ os σ H0 H) (i : Nat) (x : Option V) : En K as (ρ.set i .u) os (σ.set i x) H0 H := by
  refine ⟨n.sub, by rw [List.length_set, List.length_set]; exact n.len, fun j y h => ?_, fun j k h => ?_, n.ow⟩
  · by_cases e : i = j
    · subst e
      by_cases hl : i < ρ.length
      · rw [List.getElem?_set_self hl] at h
        cases h
      · rw [List.getElem?_eq_none_iff.mpr (by rw [List.length_set]; omega)] at h
        cases h
    · rw [List.getElem?_set_ne e] at h ⊢
      exact n.dat j y h
  · by_cases e : i = j
    · subst e
      by_cases hl : i < ρ.length
      · rw [List.getElem?_set_self hl] at h
        cases h
      · rw [List.getElem?_eq_none_iff.mpr (by rw [List.length_set]; omega)] at h
        cases h
    · rw [List.getElem?_set_ne e] at h ⊢
      exact n.ref j k h
theorem En.wipe {K : PySem.W.Frag} {as : List Addr} {ρ : List Sl} {os : Os} {σ : L2.St} {H0 H : Hp} (n : En K as ρ os σ H0 H) : ∀ vs : List Nat, En K as (wipeR ρ vs) os (L2.wipe σ vs) H0 H
  | [] => n
  | v :: vs => (En.wipe n vs).unset v none
def gNm (i : Nat) : XG := fun d ρ => some (ρ.set i (.d d))
def gTp (n : Nat) (xs : List PyData → List Sl → Option (List Sl)) : XG := fun d ρ => match d with
  | .tuple ds => if ds.length = n then xs ds ρ else none
  | _ => none
def gsNil : List PyData → List Sl → Option (List Sl) := fun ds ρ => match ds with
  | [] => some ρ
  | _ => none
def gsCons (g : XG) (r : List PyData → List Sl → Option (List Sl)) : List PyData → List Sl → Option (List Sl) := fun ds ρ => match ds with
  | d :: ds => (g d ρ).bind (r ds)
  | _ => none
section
variable {X : Cx} {tg e : Expr} {es : List Expr} {pos : Pos}
abbrev PXG (X : Cx) (tg : Expr) (xg : XG) (js : List Nat) : Prop := PG X tg (gO X.K xg js)
abbrev PXGs (X : Cx) (ts : List Expr) (xg : List PyData → List Sl → Option (List Sl)) (js : List Nat) : Prop := PGs X ts (gsO X.K xg js)
theorem pg_imp {t t' : TG} (h : PG X tg t) (k : ∀ v σ H Q, t' v σ H Q → t v σ H Q) : PG X tg t' := ⟨fun pins s σ H v u Q I r q => h.run pins s σ H v u Q I r (k _ _ _ _ q)⟩
theorem pgs_imp {t t' : TGs} (h : PGs X es t) (k : ∀ v σ H Q, t' v σ H Q → t v σ H Q) : PGs X es t' := ⟨fun pins s σ H v u Q I r q => h.run pins s σ H v u Q I r (k _ _ _ _ q)⟩
theorem pxg_nm {i : Nat} (h : PG X tg (gName i)) : PXG X tg (gNm i) [i] := pg_imp h fun v σ H Q q => by
  obtain ⟨as, ρ, os, H0, d, ρ', n, r, hx, k⟩ := q
  cases hx
  exact k _ (n.set i r) fun vs hv => wipe_set (hv i (by simp))
theorem pxgs_nil : PXGs X [] gsNil [] := pgs_imp pgs_nil fun v σ H Q q => by
  obtain ⟨as, ρ, os, H0, d, ρ', n, r, hx, k⟩ := q
  cases r with
  | nil =>
    cases hx
    exact ⟨rfl, k σ n fun _ _ => rfl⟩
  | cons _ _ => cases hx
theorem pxgs_cons {g : XG} {r : List PyData → List Sl → Option (List Sl)} {js ks : List Nat} (h1 : PXG X e g js) (h2 : PXGs X es r ks) (hs : (assignEach (e :: es) X.env).map (·.2) = assign e X.env :: (assignEach es X.env).map (·.2) := by rfl) : PXGs X (e :: es) (gsCons g r) (js ++ ks) :=
  pgs_imp (pgs_cons h1 h2 hs) fun v σ H Q q => by
    obtain ⟨as, ρ, os, H0, d, ρ', n, r, hx, k⟩ := q
    cases r with
    | nil => cases hx
    | cons r1 r2 =>
      unfold gsCons at hx
      rename_i v1 vs1 d1 ds1
      simp only at hx
      cases h3 : g d1 ρ with
      | none => rw [h3] at hx; cases hx
      | some ρ1 =>
        rw [h3, Option.bind_some] at hx
        exact ⟨v1, vs1, rfl, as, ρ, os, H0, d1, ρ1, n, r1, h3, fun σ1 n1 w1 => ⟨as, ρ1, os, H0, ds1, ρ', n1, r2, hx, fun σ2 n2 w2 => k σ2 n2 fun vs hv => (w2 vs fun j hj => hv j (by simp [hj])).trans (w1 vs fun j hj => hv j (by simp [hj]))⟩⟩
theorem pxg_tup {kk : Nat} {xs : List PyData → List Sl → Option (List Sl)} {js : List Nat} {n : Nat} (hc : X.calm = true) (h : PXGs X es xs js) (hn : (assignEach es X.env).length = n := by rfl) (hst : (assignEach es X.env).findIdx? (·.1) = none := by rfl) :
    PXG X (.Tuple es kk pos) (gTp n xs) js := pg_imp (pg_tup hc h hn hst) fun v σ H Q q => by
  obtain ⟨as, ρ, os, H0, d, ρ', en, r, hx, k⟩ := q
  cases r with
  | @tup a vs ds r1 r2 =>
    simp only [gTp] at hx
    split at hx
    · rename_i hl
      exact ⟨a, vs, rfl, SqT.of (en.sub _ _ r1), by rw [r2.len]; exact hl, as, ρ, os, H0, ds, ρ', en, r2, hx, k⟩
    · cases hx
  | _ => cases hx
end

/-! ### what is walked -/
structure WalkD (K : PySem.W.Frag) (J : It) (items : List PyData) (H0 : Hp) : Prop where
  goes : ∀ (i : Nat) (H : Hp), i < items.length → Ex H0 H → J.go i H
  stops : ∀ H, Ex H0 H → J.stop items.length H
  yields : ∀ (i : Nat) (H : Hp) (x : V) (H' H1 : Hp), i < items.length → Ex H0 H1 → Ex H1 H → J.yld i H x H' → ∃ H1' d, Gr [] H1 H H1' H' ∧ items[i]? = some d ∧ Da K H1' x d
abbrev XI := List Sl → Os → Option (List PyData × Os)
def tiO (K : PySem.W.Frag) (xi : XI) : TI := fun σ H R => ∃ as ρ os H0 items os', En K as ρ os σ H0 H ∧ xi ρ os = some (items, os') ∧ ∀ J H0' H', En K as ρ os' σ H0' H' → Gr as H0 H H0' H' → WalkD K J items H0' → R J H'
abbrev PXI (X : Cx) (tg iter : Expr) (xi : XI) : Prop := PI X tg iter (tiO X.K xi)
section
variable {X : Cx} {tg iter l : Expr} {xl : XE} {pos p : Pos} {ra : XA}
theorem pi_imp {t t' : TI} (h : PI X tg iter t) (k : ∀ σ H R, t' σ H R → t σ H R) : PI X tg iter t' := ⟨fun pins s σ H R I q => h.run pins s σ H R I (k _ _ _ q)⟩
def iLst (xl : XE) : XI := fun ρ os => (xl ρ os).bind fun p => match p.1 with
  | .list ds => some (ds, p.2)
  | _ => none
def iTpl (xl : XE) : XI := fun ρ os => (xl ρ os).bind fun p => match p.1 with
  | .tuple ds => some (ds, p.2)
  | _ => none
theorem pxi_list (hl : PX X l xl) : PXI X tg l (iLst xl) := pi_imp (pi_list hl) fun σ H R q => by
  obtain ⟨as, ρ, os, H0, items, os', n, hx, k⟩ := q
  unfold iLst at hx
  cases h1 : xl ρ os with
  | none => rw [h1] at hx; cases hx
  | some p =>
    obtain ⟨x, os1⟩ := p
    rw [h1, Option.bind_some] at hx
    cases x with
    | list ds =>
      cases hx
      refine ⟨as, ρ, os, H0, _, _, n, h1, fun v H0' H' n1 g1 r1 => ?_⟩
      cases r1 with
      | @lst a vs _ ha hs =>
        have hl := hs.len
        refine ⟨a, rfl, ⟨vs, ex_l n1.sub ha⟩, k _ H0' H' n1 g1 ⟨fun i H hi e => ?_, fun H e => ?_, fun i H x H' H1 hi e e1 y => ?_⟩⟩
        · exact walk_list.goes i H (by omega) (ex_l e ha)
        · rw [← hl]
          exact walk_list.stops H (ex_l e ha)
        · obtain ⟨e2, e3⟩ := walk_list.yields i H x H' (by omega) (ex_l (e.trans e1) ha) y
          subst e2
          obtain ⟨d, hd, r⟩ := hs.atV e3
          exact ⟨H1, d, Gr.refl e1, hd, Da.mono e _ _ r⟩
    | _ => cases hx
theorem pxi_tuple (hl : PX X l xl) : PXI X tg l (iTpl xl) := pi_imp (pi_tup hl) fun σ H R q => by
  obtain ⟨as, ρ, os, H0, items, os', n, hx, k⟩ := q
  unfold iTpl at hx
  cases h1 : xl ρ os with
  | none => rw [h1] at hx; cases hx
  | some p =>
    obtain ⟨x, os1⟩ := p
    rw [h1, Option.bind_some] at hx
    cases x with
    | tuple ds =>
      cases hx
      refine ⟨as, ρ, os, H0, _, _, n, h1, fun v H0' H' n1 g1 r1 => ?_⟩
      cases r1 with
      | @tup a vs _ ha0 hs =>
        have ha : SqT X.K H0' a vs := SqT.of ha0
        have hl := hs.len
        refine ⟨a, rfl, ⟨vs, ex_t n1.sub ha⟩, k _ H0' H' n1 g1 ⟨fun i H hi e => ?_, fun H e => ?_, fun i H x H' H1 hi e e1 y => ?_⟩⟩
        · exact walk_tup.goes i H (by omega) (ex_t e ha)
        · rw [← hl]
          exact walk_tup.stops H (ex_t e ha)
        · obtain ⟨e2, e3⟩ := walk_tup.yields i H x H' (by omega) (ex_t (e.trans e1) ha) y
          subst e2
          obtain ⟨d, hd, r⟩ := hs.atV e3
          exact ⟨H1, d, Gr.refl e1, hd, Da.mono e _ _ r⟩
    | _ => cases hx
def rangeD (lo : Int) (n : Nat) : List PyData := (List.range n).map fun (i : Nat) => PyData.int (lo + (i : Int))
theorem walkD_range {K : PySem.W.Frag} {H0 : Hp} {lo : Int} {n : Nat} : WalkD K (Itr lo n) (rangeD lo n) H0 := by
  have hl : (rangeD lo n).length = n := by simp [rangeD]
  refine ⟨fun i H hi _ => ?_, fun H _ => ?_, fun i H x H' H1 hi e e1 y => ?_⟩
  · rw [hl] at hi
    exact hi
  · rw [hl]
    exact Nat.le_refl _
  · obtain ⟨e2, e3⟩ := (show H' = H ∧ x = .int (lo + i) from y)
    subst e2 e3
    rw [hl] at hi
    exact ⟨H1, .int (lo + i), Gr.refl e1, by simp [rangeD, hi], .int _⟩
def iRg (ra : XA) : XI := fun ρ os => (ra ρ os).bind fun p => match p.1 with
  | [.d (.int j)] => if -(2 ^ 62) ≤ j ∧ j < 2 ^ 62 then some (rangeD 0 j.toNat, p.2) else none
  | [.d (.int i), .d (.int j)] => if -(2 ^ 62) ≤ i ∧ i < 2 ^ 62 ∧ -(2 ^ 62) ≤ j ∧ j < 2 ^ 62 then some (rangeD i (j - i).toNat, p.2) else none
  | _ => none
theorem pxi_range1 {a : Expr} (hg : Gl X "range") (hm : X.mg "range" = none) (ha : PXA X [a] ra) (hs : starEach [a] X.env = [(false, eval a X.env)] := by rfl) (h1 : ∀ ρ os ss os', ra ρ os = some (ss, os') → ss.length = 1) : PXI X tg (.Call (.Name "range" p) [a] [] pos) (iRg ra) :=
  pi_imp (pi_range1 hg hm ha hs) fun σ H R q => by
    obtain ⟨as, ρ, os, H0, items, os', n, hx, k⟩ := q
    unfold iRg at hx
    cases h2 : ra ρ os with
    | none => rw [h2] at hx; cases hx
    | some q =>
      obtain ⟨ss, os1⟩ := q
      have hl := h1 _ _ _ _ h2
      rw [h2, Option.bind_some] at hx
      simp only at hx
      split at hx
      · rename_i j
        split at hx
        · rename_i hc
          cases hx
          refine ⟨as, ρ, os, H0, _, _, n, h2, fun vs H1 H1' n1 g1 r1 => ?_⟩
          match vs, r1 with
          | [v], r1 =>
            have e := da_intI r1.1
            subst e
            exact ⟨j, rfl, hc.1, hc.2, k _ H1 H1' n1 g1 walkD_range⟩
        · cases hx
      · cases hl
      · cases hx
theorem pxi_range2 {a b : Expr} (hg : Gl X "range") (hm : X.mg "range" = none) (ha : PXA X [a, b] ra) (hs : starEach [a, b] X.env = [(false, eval a X.env), (false, eval b X.env)] := by rfl) (hs2 : starEach [b] X.env = [(false, eval b X.env)] := by rfl)
    (h1 : ∀ ρ os ss os', ra ρ os = some (ss, os') → ss.length = 2) : PXI X tg (.Call (.Name "range" p) [a, b] [] pos) (iRg ra) :=
  pi_imp (pi_range2 hg hm ha hs hs2) fun σ H R q => by
    obtain ⟨as, ρ, os, H0, items, os', n, hx, k⟩ := q
    unfold iRg at hx
    cases h2 : ra ρ os with
    | none => rw [h2] at hx; cases hx
    | some q =>
      obtain ⟨ss, os1⟩ := q
      have hl := h1 _ _ _ _ h2
      rw [h2, Option.bind_some] at hx
      simp only at hx
      split at hx
      · cases hl
      · rename_i i j
        split at hx
        · rename_i hc
          cases hx
          refine ⟨as, ρ, os, H0, _, _, n, h2, fun vs H1 H1' n1 g1 r1 => ?_⟩
          match vs, r1 with
          | [v, w], r1 =>
            have e := da_intI r1.1
            have e2 := da_intI r1.2.1
            subst e e2
            exact ⟨i, j, rfl, hc, k _ H1 H1' n1 g1 walkD_range⟩
        · cases hx
      · cases hx
def zipD (xs ys : List PyData) : List PyData := (xs.zip ys).map fun p => .tuple [p.1, p.2]
theorem walkD_pair {K : PySem.W.Frag} {H0 : Hp} {J : It} {n : Nat} {G : Hp → Prop} {fx fy : Nat → Option V} {items : List PyData} (w : Walk J n G (YPair fx fy)) (hG : ∀ H, Ex H0 H → G H) (hl : items.length = n)
    (hd : ∀ i x y, i < n → fx i = some x → fy i = some y → ∃ d e, items[i]? = some (.tuple [d, e]) ∧ Da K H0 x d ∧ Da K H0 y e) : WalkD K J items H0 := by
  refine ⟨fun i H hi e => w.goes i H (by omega) (hG H e), fun H e => by rw [hl]; exact w.stops H (hG H e), fun i H v H' H1 hi e e1 y => ?_⟩
  obtain ⟨T, x, z, rfl, hT, rfl, h1, h2⟩ := w.yields i H v H' (by omega) (hG H (e.trans e1)) y
  obtain ⟨d, d2, h3, h4, h5⟩ := hd i x z (by omega) h1 h2
  have e2 := e.trans (Gr.new e1 hT (o := .tup [x, z])).e0
  exact ⟨_, _, Gr.new e1 hT, h3, .tup upd_same (.cons (h4.mono e2) (.cons (h5.mono e2) .nil))⟩
def iZp (ra : XA) : XI := fun ρ os => (ra ρ os).bind fun p => match p.1 with
  | [.d (.list xs), .d (.list ys)] => some (zipD xs ys, p.2)
  | _ => none
theorem pxi_zip {a b : Expr} {elts : List Expr} {kk : Nat} {tpos : Pos} (hg : Gl X "zip") (hm : X.mg "zip" = none) (ha : PXA X [a, b] ra) (hs : starEach [a, b] X.env = (false, eval a X.env) :: starEach [b] X.env := by rfl) (hpl : (backTo pos (starEach [b] X.env)).any (·.1) = false := by rfl) :
    PXI X (.Tuple elts kk tpos) (.Call (.Name "zip" p) [a, b] [] pos) (iZp ra) := pi_imp (pi_zip hg hm ha hs hpl) fun σ H R q => by
  obtain ⟨as, ρ, os, H0, items, os', n, hx, k⟩ := q
  unfold iZp at hx
  cases h2 : ra ρ os with
  | none => rw [h2] at hx; cases hx
  | some q =>
    obtain ⟨ss, os1⟩ := q
    rw [h2, Option.bind_some] at hx
    simp only at hx
    split at hx
    · rename_i xs ys
      cases hx
      refine ⟨as, ρ, os, H0, _, _, n, h2, fun vs H1 H1' n1 g1 r1 => ?_⟩
      match vs, r1 with
      | [v, w], r1 =>
        have q1 : Da X.K H1 v (.list xs) := r1.1
        have q2 : Da X.K H1 w (.list ys) := r1.2.1
        cases q1 with
        | @lst a1 us _ a2 a3 =>
          cases q2 with
          | @lst b1 ws _ b2 b3 =>
            refine ⟨a1, b1, us, ws, rfl, ex_l n1.sub a2, ex_l n1.sub b2, k _ H1 H1' n1 g1 (walkD_pair (walk_zip rfl) (fun H e => ⟨ex_l e a2, ex_l e b2⟩) ?_ fun i x y hi e1 e2 => ?_)⟩
            · rw [a3.len, b3.len]
              simp [zipD]
            · obtain ⟨d, h3, h4⟩ := a3.atV e1
              obtain ⟨e, h5, h6⟩ := b3.atV e2
              exact ⟨d, e, by simp [zipD, List.getElem?_zip_eq_some, h3, h5], h4, h6⟩
    · cases hx
def enumD (xs : List PyData) : List PyData := xs.zipIdx.map fun p => .tuple [.int (p.2 : Int), p.1]
def iEn (ra : XA) : XI := fun ρ os => (ra ρ os).bind fun p => match p.1 with
  | [.d (.list xs)] => some (enumD xs, p.2)
  | _ => none
theorem pxi_enum {a : Expr} {elts : List Expr} {kk : Nat} {tpos : Pos} (hg : Gl X "enumerate") (hm : X.mg "enumerate" = none) (ha : PXA X [a] ra) (hs : starEach [a] X.env = [(false, eval a X.env)] := by rfl) :
    PXI X (.Tuple elts kk tpos) (.Call (.Name "enumerate" p) [a] [] pos) (iEn ra) := pi_imp (pi_enum hg hm ha hs) fun σ H R q => by
  obtain ⟨as, ρ, os, H0, items, os', n, hx, k⟩ := q
  unfold iEn at hx
  cases h2 : ra ρ os with
  | none => rw [h2] at hx; cases hx
  | some q =>
    obtain ⟨ss, os1⟩ := q
    rw [h2, Option.bind_some] at hx
    simp only at hx
    split at hx
    · rename_i xs
      cases hx
      refine ⟨as, ρ, os, H0, _, _, n, h2, fun vs H1 H1' n1 g1 r1 => ?_⟩
      match vs, r1 with
      | [v], r1 =>
        have q1 : Da X.K H1 v (.list xs) := r1.1
        cases q1 with
        | @lst a1 us _ a2 a3 =>
          refine ⟨a1, us, rfl, ex_l n1.sub a2, k _ H1 H1' n1 g1 (walkD_pair walk_enum (fun H e => ex_l e a2) ?_ fun i x y hi e1 e2 => ?_)⟩
          · rw [a3.len]
            simp [enumD]
          · obtain ⟨d, h3, h4⟩ := a3.atV e2
            cases e1
            exact ⟨.int (i : Nat), d, by simp [enumD, List.getElem?_map, List.getElem?_zipIdx, h3], .int _, h4⟩
    · cases hx
end

/-! ### comprehensions of one for -/
abbrev PXTs (X : Cx) (ifs : List Expr) (t : XT) : Prop := PTs X ifs (ttO X.K t)
def xYes : XT := fun _ os => some (true, os)
def lcRun (xg : XG) (tt : XT) (te : XE) (ρ : List Sl) : List PyData → List PyData → Os → Option (List PyData × Os)
  | [], acc, os => some (acc, os)
  | d :: r, acc, os => (xg d ρ).bind fun ρ1 => (tt ρ1 os).bind fun p => if p.1 = true then (te ρ1 p.2).bind fun q => if acc.length < sizeLine then lcRun xg tt te ρ r (acc ++ [q.1]) q.2 else none else lcRun xg tt te ρ r acc p.2
/-- its items -/
def lcD (xi : XI) (xg : XG) (tt : XT) (te : XE) (vs : List Nat) : XI := fun ρ os => (xi ρ os).bind fun p => lcRun xg tt te (wipeR ρ vs) p.1 [] p.2
/-- a new list that nothing else holds -/
def teF (K : PySem.W.Frag) (x : XI) : TE := fun σ H Q => ∃ as ρ os H0 ds os', En K as ρ os σ H0 H ∧ x ρ os = some (ds, os') ∧ ∀ p vs H0' H', H p = none → En K as ρ os' σ H0' H' → Gr as H0 H H0' H' → H0' p = none → p ∉ as → H' p = some (.lst vs) → DaAll K H0' vs ds → Q (.ref p) H'
abbrev PXF (X : Cx) (e : Expr) (x : XI) : Prop := PE X e (teF X.K x)
def xF (x : XI) : XE := fun ρ os => (x ρ os).map fun p => (.list p.1, p.2)
theorem keep_new {as : List Addr} {H0 H H0' H' : Hp} {p : Addr} {o : HO} (s : Ex H0 H) (g : Gr as H0 H H0' H') (hp : H p = none) (hn : H0' p = none) (e : H' p = some o) : Gr as H0 H (upd H0' p o) H' where
  e0 := g.e0.trans (Ex.new hn)
  e1 := g.e1
  nw := fun a u m e n => by
    rw [upd_ne (fun z => n (by rw [z]; exact hp))] at e
    exact g.nw a u m e n
  kp := g.kp
  sub := fun a u e2 => by
    by_cases z : a = p
    · subst z
      rw [upd_same] at e2
      rw [← e2]
      exact e
    · rw [upd_ne z] at e2
      exact g.sub a u e2
theorem Own.keep {K : PySem.W.Frag} {as : List Addr} {os : Os} {H0 H : Hp} {p : Addr} {o : HO} (w : Own K as os H0 H) (hn : H0 p = none) (h : p ∉ as) : Own K as os (upd H0 p o) H := ⟨w.nd, w.len, w.trk, fun k a ds h1 h2 => by
  obtain ⟨n, vs, e, r⟩ := w.at_ k a ds h1 h2
  refine ⟨?_, vs, e, r.mono (Ex.new hn)⟩
  rw [upd_ne (fun z => h (by rw [← z]; exact List.mem_of_getElem? h1))]
  exact n⟩
theorem En.keep {K : PySem.W.Frag} {as : List Addr} {ρ : List Sl} {os : Os} {σ : L2.St} {H0 H : Hp} {p : Addr} {o : HO} (n : En K as ρ os σ H0 H) (hn : H0 p = none) (h : p ∉ as) (e : H p = some o) : En K as ρ os σ (upd H0 p o) H :=
  ⟨fun a u e2 => by
    by_cases z : a = p
    · subst z
      rw [upd_same] at e2
      rw [← e2]
      exact e
    · rw [upd_ne z] at e2
      exact n.sub a u e2, n.len, fun i x h => by
    obtain ⟨v, e1, r⟩ := n.dat i x h
    exact ⟨v, e1, r.mono (Ex.new hn)⟩, n.ref, n.ow.keep hn h⟩
theorem px_of_f {X : Cx} {e : Expr} {x : XI} (h : PXF X e x) : PX X e (xF x) := pe_imp h fun σ H Q q => by
  obtain ⟨as, ρ, os, H0, d, os', n, hx, k⟩ := q
  unfold xF at hx
  cases h1 : x ρ os with
  | none => rw [h1] at hx; cases hx
  | some q =>
    obtain ⟨ds, os1⟩ := q
    rw [h1] at hx
    cases hx
    exact ⟨as, ρ, os, H0, ds, os1, n, h1, fun p vs H0' H' hp n1 g1 h2 h3 h4 r => k _ _ H' (n1.keep h2 h3 h4) (keep_new n.sub g1 hp h2 h4) (.lst (SqL.of upd_same) (r.mono (Ex.new h2)))⟩
/-- what stands between two turns -/
def LcI (K : PySem.W.Frag) (as : List Addr) (Ha Hb : Hp) (D : Addr) (xg : XG) (tt : XT) (te : XE) (ρw : List Sl) (σw : L2.St) (ds : List PyData) (os' : Os) (left : List PyData) (H2 : Hp) : Prop :=
  ∃ acc osi H2' vacc, En K as ρw osi σw H2' H2 ∧ Gr as Ha Hb H2' H2 ∧ H2' D = none ∧ H2 D = some (.lst vacc) ∧ DaAll K H2' vacc acc ∧ lcRun xg tt te ρw left acc osi = some (ds, os')
/-- another place changes -/
theorem En.away {K : PySem.W.Frag} {as : List Addr} {ρ : List Sl} {os : Os} {σ : L2.St} {H0 H H' : Hp} {D : Addr} (n : En K as ρ os σ H0 H) (nD : D ∉ as) (h : ∀ a, a ≠ D → H' a = H a) (hD : H' D ≠ none) (h0 : H0 D = none) : En K as ρ os σ H0 H' := by
  refine ⟨fun a o e => ?_, n.len, n.dat, n.ref, ⟨n.ow.nd, n.ow.len, fun a ha => ?_, fun k a ds h1 h2 => ?_⟩⟩
  · rw [h a (ne_of_none e h0)]
    exact n.sub a o e
  · rw [h a (fun z => nD (by rw [← z]; exact ha))]
    exact n.ow.trk a ha
  · obtain ⟨q1, vs, q2, q3⟩ := n.ow.at_ k a ds h1 h2
    exact ⟨q1, vs, by rw [h a (fun z => nD (by rw [← z]; exact List.mem_of_getElem? h1))]; exact q2, q3⟩
/-- the names as they were, the lists as they are -/
theorem En.back {K : PySem.W.Frag} {as : List Addr} {ρ ρ1 : List Sl} {os os1 : Os} {σ σ1 : L2.St} {H0 H H0' H' : Hp} (n : En K as ρ1 os1 σ1 H0' H') (m : En K as ρ os σ H0 H) (e : Ex H0 H0') : En K as ρ os1 σ H0' H' :=
  ⟨n.sub, m.len, fun i x h => by
    obtain ⟨v, e1, r⟩ := m.dat i x h
    exact ⟨v, e1, Da.mono e _ _ r⟩, m.ref, n.ow⟩
section
variable {X : Cx} {elt tg iter : Expr} {ifs : List Expr} {scope : Scope} {own : List (Str × Nat)} {pos : Pos} {xi : XI} {xg : XG} {js : List Nat} {tt : XT} {te : XE}
theorem pxts_nil : PXTs X [] xYes := ⟨fun pins s σ H Q I q => (pts_nil (X := X)).run pins s σ H Q I (by
  obtain ⟨as, ρ, os, H0, b, os', n, hx, k⟩ := q
  cases hx
  exact k H0 H n (Gr.refl n.sub))⟩
theorem pxts_one {c : Expr} (h : PXT X c tt) : PXTs X [c] tt := pts_one h
theorem to_lc {K : PySem.W.Frag} {vs : List Nat} (hj : ∀ j ∈ js, j ∈ vs) {σ : L2.St} {H : Hp} {Q : VK} (q : teF K (lcD xi xg tt te vs) σ H Q) : tLc (tiO K xi) (gO K xg js) (ttO K tt) (teO K te) vs σ H Q := by
  obtain ⟨as, ρ, os, H0, ds, os', n, hx, k⟩ := q
  unfold lcD at hx
  cases h1 : xi ρ os with
  | none => rw [h1] at hx; cases hx
  | some q =>
    obtain ⟨items, os1⟩ := q
    rw [h1, Option.bind_some] at hx
    refine ⟨as, ρ, os, H0, items, os1, n, h1, fun J Ha Hb n1 g1 w => ?_⟩
    intro D hD
    -- the word: what is made so far, what is left
    have nD : D ∉ as := fun z => n1.ow.trk D z hD
    have gD := fun {H2' H2 : Hp} (g : Gr as Ha Hb H2' H2) => g
    refine ⟨fun i m H2 => m = items.length - i ∧ i ≤ items.length ∧ LcI K as Ha Hb D xg tt te (wipeR ρ vs) (wipe σ vs) ds os' (items.drop i) H2, ⟨items.length, by simp, Nat.zero_le _, [], os1, Ha, [], ?_, ?_, fresh_back n1.sub hD, upd_same, .nil, hx⟩, ?_⟩
    · exact (n1.wipe vs).away nD (fun a h => upd_ne h) (by rw [upd_same]; simp) (fresh_back n1.sub hD)
    · exact ⟨Ex.refl _, fun a o h e => by rw [upd_ne (ne_of_none e hD)]; exact e, fun _ _ _ e _ => e, fun a h => by rw [upd_ne (fun z => h (by rw [z]; exact hD))]; exact h, fun a o e => by rw [upd_ne (ne_of_none (n1.sub a o e) hD)]; exact n1.sub a o e⟩
    rintro i m H2 ⟨rfl, hi, acc, osi, H2', vacc, nI, gI, h2, h3, h4, hr⟩
    by_cases hlt : i < items.length
    · refine .inr ⟨w.goes i H2 hlt (gI.e0.trans nI.sub), LcI K as Ha Hb D xg tt te (wipeR ρ vs) (wipe σ vs) ds os' (items.drop (i + 1)), fun H3 p3 => ⟨items.length - (i + 1), by omega, rfl, hlt, p3⟩, fun x H3 y => ?_⟩
      obtain ⟨H3', d, g3, hd, r3⟩ := w.yields i H2 x H3 H2' hlt gI.e0 nI.sub y
      have n3 := nI.grow g3
      have e3 : items.drop i = d :: items.drop (i + 1) := by
        obtain ⟨_, e⟩ := List.getElem?_eq_some_iff.mp hd
        rw [← e]
        exact List.drop_eq_getElem_cons hlt
      rw [e3] at hr
      simp only [lcRun] at hr
      cases q1 : xg d (wipeR ρ vs) with
      | none => rw [q1] at hr; cases hr
      | some ρ1 =>
        rw [q1, Option.bind_some] at hr
        refine ⟨as, wipeR ρ vs, osi, H3', d, ρ1, n3, r3, q1, fun σ4 n4 w4 => ⟨(w4 vs hj).trans wipe_wipe, ?_⟩⟩
        cases q2 : tt ρ1 osi with
        | none => rw [q2] at hr; cases hr
        | some p =>
          obtain ⟨b, os5⟩ := p
          rw [q2, Option.bind_some] at hr
          simp only at hr
          have D3 : H3 D = some (.lst vacc) := g3.e1 D _ (by simp) h3
          have D3' : H3' D = none := by
            cases z : H3' D with
            | none => rfl
            | some u =>
              have := g3.nw D u (by simp) z (by rw [h3]; simp)
              rw [h2] at this
              cases this
          refine ⟨as, ρ1, osi, H3', b, os5, n4, q2, fun H5' H5 n5 g5 => ?_⟩
          have D5 : H5 D = some (.lst vacc) := g5.e1 D _ nD D3
          have D5' : H5' D = none := by
            cases z : H5' D with
            | none => rfl
            | some u =>
              have := g5.nw D u nD z (by rw [D3]; simp)
              rw [D3'] at this
              cases this
          have gA : Gr as Ha Hb H5' H5 := (gI.tr0 g3).tr g5
          cases b with
          | false =>
            simp only [Bool.false_eq_true, if_false] at hr ⊢
            exact ⟨acc, os5, H5', vacc, n5.back nI (g3.e0.trans g5.e0), gA, D5', D5, DaAll.mono (g3.e0.trans g5.e0) _ _ h4, hr⟩
          | true =>
            simp only [if_true] at hr ⊢
            cases q3 : te ρ1 os5 with
            | none => rw [q3] at hr; cases hr
            | some p =>
              obtain ⟨yv, os6⟩ := p
              rw [q3, Option.bind_some] at hr
              simp only at hr
              split at hr
              · rename_i hz
                refine ⟨as, ρ1, os5, H5', yv, os6, n5, q3, fun v H6' H6 n6 g6 r6 => ?_⟩
                have D6 : H6 D = some (.lst vacc) := g6.e1 D _ nD D5
                have D6' : H6' D = none := by
                  cases z : H6' D with
                  | none => rfl
                  | some u =>
                    have := g6.nw D u nD z (by rw [D5]; simp)
                    rw [D5'] at this
                    cases this
                have h46 : DaAll K H6' vacc acc := DaAll.mono ((g3.e0.trans g5.e0).trans g6.e0) _ _ h4
                refine ⟨vacc, D6, by rw [h46.len]; exact hz, acc ++ [yv], os6, H6', vacc ++ [v], ?_, ?_, D6', upd_same, h46.app (.cons r6 .nil), hr⟩
                · exact (n6.back nI ((g3.e0.trans g5.e0).trans g6.e0)).away nD (fun a h => upd_ne h) (by rw [upd_same]; simp) D6'
                · have gB := gA.tr g6
                  refine ⟨gB.e0, fun a o h e => ?_, gB.nw, fun a h => ?_, fun a o e => ?_⟩
                  · rw [upd_ne (ne_of_none e hD)]
                    exact gB.e1 a o h e
                  · rw [upd_ne (fun z => h (by rw [z]; exact hD))]
                    exact gB.kp a h
                  · rw [upd_ne (ne_of_none e D6')]
                    exact gB.sub a o e
              · cases hr
    · have e : items.drop i = [] := List.drop_eq_nil_of_le (by omega)
      rw [e] at hr
      cases hr
      have ei : i = items.length := by omega
      subst ei
      refine .inl ⟨w.stops H2 (gI.e0.trans nI.sub), k D vacc H2' H2 ?_ ?_ (g1.tr gI) h2 nD h3 h4⟩
      · cases z : H D with
        | none => rfl
        | some u => exact absurd hD (g1.kp D (by rw [z]; simp))
      · exact nI.back n1 gI.e0
theorem pxf_lc (hc : X.calm = true) (hN : X.N.Nodup) (hi : PXI X tg iter xi) (ok : BlkOk X.N X.env.scope scope own)
    (hg : ∀ (s : Shared) (H : Hp) (C : Addr) (cl : List (Str × Addr)) (fp : List Addr), PXG (X.blk s H scope (compEnvC scope cl C X.env) fp) tg xg js)
    (ht : ∀ (s : Shared) (H : Hp) (C : Addr) (cl : List (Str × Addr)) (fp : List Addr), PXTs (X.blk s H scope (compEnvC scope cl C X.env) fp) ifs tt)
    (he : ∀ (s : Shared) (H : Hp) (C : Addr) (cl : List (Str × Addr)) (fp : List Addr), PX (X.blk s H scope (compEnvC scope cl C X.env) fp) elt te)
    (hj : ∀ j ∈ js, j ∈ own.map (·.2)) (hs : ∀ x, foldedSetIterable iter X.env x = pure x := by intro _; rfl) : PXF X (.ListComp elt [⟨tg, iter, ifs, 0⟩] scope pos) (lcD xi xg tt te (own.map (·.2))) :=
  pe_imp (pe_lc hc hN hi ok hg ht he hs) fun _ _ _ q => to_lc hj q
end
end DL

set_option Elab.async false
set_option linter.all false
set_option maxRecDepth 100000
set_option maxHeartbeats 4000000
namespace DL
open PySem PySem.Spec PyProof.Rows L2 Evl

/-! ### statements by what they leave -/
inductive Out where
  | nx (ρ : List Sl) (os : Os)
  | bk (ρ : List Sl) (os : Os)
  | ct (ρ : List Sl) (os : Os)
  | rt (d : PyData) (os : Os)
  | ex (C : Addr) (x : Sl) (ρ : List Sl) (os : Os)
  | rv (s : Sl) (os : Os)
abbrev SE := List Sl → Os → Option Out
def Exs (as : List Addr) (H : Hp) (as' : List Addr) : Prop := ∃ bs, as' = as ++ bs ∧ ∀ b ∈ bs, H b = none
theorem Exs.refl {as : List Addr} {H : Hp} : Exs as H as := ⟨[], by simp, by simp⟩
theorem Exs.trans {as bs cs : List Addr} {H H' : Hp} (p : Exs as H bs) (q : Exs bs H' cs) (k : ∀ a, H a ≠ none → H' a ≠ none) : Exs as H cs := by
  obtain ⟨b1, rfl, h1⟩ := p
  obtain ⟨b2, rfl, h2⟩ := q
  refine ⟨b1 ++ b2, by simp, fun b hb => ?_⟩
  rcases List.mem_append.mp hb with z | z
  · exact h1 b z
  · cases e : H b with
    | none => rfl
    | some o => exact absurd (h2 b z) (k b (by rw [e]; simp))
theorem Exs.mem {as bs : List Addr} {H : Hp} (p : Exs as H bs) : ∀ a ∈ bs, a ∈ as ∨ H a = none := fun a ha => by
  obtain ⟨b1, rfl, h1⟩ := p
  rcases List.mem_append.mp ha with z | z
  · exact .inl z
  · exact .inr (h1 a z)
def NxOk (K : PySem.W.Frag) (as : List Addr) (H0 H : Hp) (nx : L2.St → Hp → Prop) (ρ' : List Sl) (os' : Os) : Prop := ∀ as' σ' H0' H', Exs as H as' → En K as' ρ' os' σ' H0' H' → Gr as H0 H H0' H' → nx σ' H'
/-- where the def began: its lists, its heap -/
structure Bs (fr : Option Nat) (as0 : List Addr) (Hs : Hp) (as : List Addr) (H : Hp) : Prop where
  len : ∀ n, fr = some n → as0.length = n
  ex : Exs as0 Hs as
  kp : ∀ a, Hs a ≠ none → H a ≠ none
theorem Bs.step {fr : Option Nat} {as0 as as1 : List Addr} {Hs H H1 : Hp} (p : Bs fr as0 Hs as H) (e : Exs as H as1) (k : ∀ a, H a ≠ none → H1 a ≠ none) : Bs fr as0 Hs as1 H1 := ⟨p.len, p.ex.trans e p.kp, fun a h => k a (p.kp a h)⟩
def RtOk (fr : Option Nat) (K : PySem.W.Frag) (Hs : Hp) (as : List Addr) (H0 H : Hp) (rt : VK) (d : PyData) (os' : Os) : Prop := match fr with
  | none => ∀ v as' H0' H', Exs as H as' → Own K as' os' H0' H' → Gr as H0 H H0' H' → Da K H0' v d → rt v H'
  | some _ => ∃ ds, d = .list ds ∧ ∀ p vs as' H0' H', Hs p = none → Exs as H as' → Own K as' os' H0' H' → Gr as H0 H H0' H' → H0' p = none → H' p = some (.lst vs) → DaAll K H0' vs ds → rt (.ref p) H'
/-- an error that leaves: its class, its value -/
def ExOk (K : PySem.W.Frag) (W : WX) (as : List Addr) (H0 H : Hp) (C : Addr) (x : Sl) (ρ' : List Sl) (os' : Os) : Prop := ∀ as' σ' H0' H' d v, Exs as H as' → En K as' ρ' os' σ' H0' H' → Gr as H0 H H0' H' → H0' d = some (.xd [("value", v)]) → ArgOk K as' H0' v x → W (.ref C) (some d) σ' H'
/-- an object of one's own, or data, handed back -/
def RvOk (K : PySem.W.Frag) (as : List Addr) (H0 H : Hp) (rt : VK) (s : Sl) (os' : Os) : Prop := ∀ v as' H0' H', Exs as H as' → Own K as' os' H0' H' → Gr as H0 H H0' H' → ArgOk K as' H0' v s → rt v H'
def OutOk (fr : Option Nat) (K : PySem.W.Frag) (W : WX) (Hs : Hp) (as : List Addr) (H0 H : Hp) (D : Ends) : Out → Prop
  | .nx r w => NxOk K as H0 H D.nx r w
  | .bk r w => NxOk K as H0 H D.bk r w
  | .ct r w => NxOk K as H0 H D.ct r w
  | .rt d w => RtOk fr K Hs as H0 H D.rt d w
  | .ex C x r w => ExOk K W as H0 H C x r w
  | .rv s w => RvOk K as H0 H D.rt s w
def tsO (fr : Option Nat) (K : PySem.W.Frag) (W : WX) (s : SE) : TS := fun D σ H => ∃ as0 Hs as ρ os H0 o, Bs fr as0 Hs as H ∧ En K as ρ os σ H0 H ∧ s ρ os = some o ∧ OutOk fr K W Hs as H0 H D o
section
variable {K : PySem.W.Frag} {as as1 : List Addr} {Hs H0 H H1 H1' : Hp} {fr : Option Nat} {W : WX}
theorem NxOk.step {nx : L2.St → Hp → Prop} {r : List Sl} {w : Os} (e : Exs as H as1) (g : Gr as H0 H H1 H1') (h : NxOk K as H0 H nx r w) : NxOk K as1 H1 H1' nx r w := fun as' σ' H0' H' e2 n2 g2 =>
  h as' σ' H0' H' (e.trans e2 g.kp) n2 (g.trans g2 e.mem)
theorem RtOk.step {rt : VK} {d : PyData} {w : Os} (e : Exs as H as1) (g : Gr as H0 H H1 H1') (h : RtOk fr K Hs as H0 H rt d w) : RtOk fr K Hs as1 H1 H1' rt d w := by
  cases fr with
  | none => exact fun v as' H0' H' e2 n2 g2 r => h v as' H0' H' (e.trans e2 g.kp) n2 (g.trans g2 e.mem) r
  | some _ =>
    obtain ⟨ds, rfl, h⟩ := h
    exact ⟨ds, rfl, fun p vs as' H0' H' hp e2 n2 g2 r1 r2 r3 => h p vs as' H0' H' hp (e.trans e2 g.kp) n2 (g.trans g2 e.mem) r1 r2 r3⟩
theorem ExOk.step {C : Addr} {x : Sl} {r : List Sl} {w : Os} (e : Exs as H as1) (g : Gr as H0 H H1 H1') (h : ExOk K W as H0 H C x r w) : ExOk K W as1 H1 H1' C x r w := fun as' σ' H0' H' d v e2 n2 g2 =>
  h as' σ' H0' H' d v (e.trans e2 g.kp) n2 (g.trans g2 e.mem)
theorem RvOk.step {rt : VK} {s : Sl} {w : Os} (e : Exs as H as1) (g : Gr as H0 H H1 H1') (h : RvOk K as H0 H rt s w) : RvOk K as1 H1 H1' rt s w := fun v as' H0' H' e2 n2 g2 r =>
  h v as' H0' H' (e.trans e2 g.kp) n2 (g.trans g2 e.mem) r
theorem OutOk.step {D : Ends} {o : Out} (e : Exs as H as1) (g : Gr as H0 H H1 H1') (h : OutOk fr K W Hs as H0 H D o) : OutOk fr K W Hs as1 H1 H1' D o := by
  cases o with
  | nx r w => exact NxOk.step e g h
  | bk r w => exact NxOk.step e g h
  | ct r w => exact NxOk.step e g h
  | rt d w => exact RtOk.step e g h
  | ex C x r w => exact ExOk.step e g h
  | rv s w => exact RvOk.step e g h
end
abbrev PSX (X : Cx) (W : WX) (fr : Option Nat) (st : Stmt) (s : SE) : Prop := PS X st (tsO fr X.K W s)
abbrev PSXs (X : Cx) (W : WX) (fr : Option Nat) (sts : List Stmt) (s : SE) : Prop := PSs X sts (tsO fr X.K W s)
section
variable {X : Cx} {W : WX} {fr : Option Nat} {st : Stmt} {rest sts bs : List Stmt} {s s2 : SE} {e c i tg iter : Expr} {xe xi' : XE} {xt : XT} {xg : XG} {js : List Nat} {xi : XI} {pos : Pos}
theorem ps_imp {t t' : TS} (h : PS X st t) (k : ∀ D σ H, t' D σ H → t D σ H) : PS X st t' := ⟨fun pins s σ H D I q => h.run pins s σ H D I (k _ _ _ q)⟩
theorem pss_imp {t t' : TS} (h : PSs X sts t) (k : ∀ D σ H, t' D σ H → t D σ H) : PSs X sts t' := ⟨fun pins s σ H D I q => h.run pins s σ H D I (k _ _ _ q)⟩
def sNext : SE := fun ρ os => some (.nx ρ os)
def sBrk : SE := fun ρ os => some (.bk ρ os)
def sCnt : SE := fun ρ os => some (.ct ρ os)
def sNever : SE := fun _ _ => none
def sSeq (s t : SE) : SE := fun ρ os => (s ρ os).bind fun o => match o with
  | .nx r w => t r w
  | o => some o
theorem psx_nil : PSXs X W fr [] sNext := pss_imp pss_nil fun D σ H q => by
  obtain ⟨as0, Hs, as, ρ, os, H0, o, bs0, n, hx, k⟩ := q
  cases hx
  exact k as σ H0 H Exs.refl n (Gr.refl n.sub)
theorem psx_cons (h1 : PSX X W fr st s) (h2 : PSXs X W fr rest s2) : PSXs X W fr (st :: rest) (sSeq s s2) := pss_imp (pss_cons h1 h2) fun D σ H q => by
  obtain ⟨as0, Hs, as, ρ, os, H0, o, bs0, n, hx, k⟩ := q
  unfold sSeq at hx
  cases h : s ρ os with
  | none => rw [h] at hx; cases hx
  | some o1 =>
    rw [h, Option.bind_some] at hx
    refine ⟨as0, Hs, as, ρ, os, H0, o1, bs0, n, h, ?_⟩
    cases o1 with
    | nx r w => exact fun as' σ' H0' H' e2 n2 g2 => ⟨as0, Hs, as', r, w, H0', o, bs0.step e2 g2.kp, n2, hx, k.step e2 g2⟩
    | bk r w => cases hx; exact k
    | ct r w => cases hx; exact k
    | rt d w => cases hx; exact k
    | ex C x r w => cases hx; exact k
    | rv s w => cases hx; exact k
theorem psx_one (h1 : PSX X W fr st s) : PSXs X W fr [st] s := pss_one h1
theorem psx_pass : PSX X W fr (.Pass pos) sNext := ps_imp ps_pass fun D σ H q => by
  obtain ⟨as0, Hs, as, ρ, os, H0, o, bs0, n, hx, k⟩ := q
  cases hx
  exact k as σ H0 H Exs.refl n (Gr.refl n.sub)
theorem psx_break : PSX X W fr (.Break pos) sBrk := ps_imp ps_break fun D σ H q => by
  obtain ⟨as0, Hs, as, ρ, os, H0, o, bs0, n, hx, k⟩ := q
  cases hx
  exact k as σ H0 H Exs.refl n (Gr.refl n.sub)
theorem psx_continue : PSX X W fr (.Continue pos) sCnt := ps_imp ps_continue fun D σ H q => by
  obtain ⟨as0, Hs, as, ρ, os, H0, o, bs0, n, hx, k⟩ := q
  cases hx
  exact k as σ H0 H Exs.refl n (Gr.refl n.sub)
theorem psx_never : PSX X W fr st sNever := ps_imp ps_never fun D σ H q => by
  obtain ⟨as0, Hs, as, ρ, os, H0, o, bs0, n, hx, k⟩ := q
  cases hx
def sIf (t : XT) (a b : SE) : SE := fun ρ os => (t ρ os).bind fun p => if p.1 = true then a ρ p.2 else b ρ p.2
theorem psx_if (hc : PXT X c xt) (ha : PSXs X W fr sts s) (hb : PSXs X W fr bs s2) : PSX X W fr (.If c sts bs pos) (sIf xt s s2) := ps_imp (ps_if hc ha hb) fun D σ H q => by
  obtain ⟨as0, Hs, as, ρ, os, H0, o, bs0, n, hx, k⟩ := q
  unfold sIf at hx
  cases h : xt ρ os with
  | none => rw [h] at hx; cases hx
  | some p =>
    obtain ⟨b, os1⟩ := p
    rw [h, Option.bind_some] at hx
    refine ⟨as, ρ, os, H0, b, os1, n, h, fun H0' H' n1 g1 => ?_⟩
    cases b with
    | true => exact ⟨as0, Hs, as, ρ, os1, H0', o, bs0.step Exs.refl g1.kp, n1, by simpa using hx, k.step Exs.refl g1⟩
    | false => exact ⟨as0, Hs, as, ρ, os1, H0', o, bs0.step Exs.refl g1.kp, n1, by simpa using hx, k.step Exs.refl g1⟩
/-- target = value -/
def sAsg (xe : XE) (xg : XG) : SE := fun ρ os => (xe ρ os).bind fun p => (xg p.1 ρ).map fun r => .nx r p.2
theorem to_asg {K : PySem.W.Frag} {D : Ends} {σ : L2.St} {H : Hp} (q : tsO fr K W (sAsg xe xg) D σ H) : tAsg (teO K xe) (gO K xg js) D σ H := by
  obtain ⟨as0, Hs, as, ρ, os, H0, o, bs0, n, hx, k⟩ := q
  unfold sAsg at hx
  cases h : xe ρ os with
  | none => rw [h] at hx; cases hx
  | some p =>
    obtain ⟨d, os1⟩ := p
    rw [h, Option.bind_some] at hx
    cases h2 : xg d ρ with
    | none => rw [h2] at hx; cases hx
    | some r =>
      rw [h2] at hx
      cases hx
      exact ⟨as, ρ, os, H0, d, os1, n, h, fun v H0' H' n1 g1 r1 => ⟨as, ρ, os1, H0', d, r, n1, r1, h2, fun σ' n2 _ => k as σ' H0' H' Exs.refl n2 g1⟩⟩
theorem psx_asg (he : PX X e xe) (hg : PXG X tg xg js) (hs : swapsWithSole [tg] e pos.line X.env = pure false := by rfl) (hw : swappedStores [tg] e X.env = pure none := by rfl)
    (h1 : (assignEach [tg] X.env).map (·.2) = [assign tg X.env] := by rfl) : PSX X W fr (.Assign [tg] e pos) (sAsg xe xg) := ps_imp (ps_asg he hg hs hw h1) fun _ _ _ q => to_asg q
/-- name = value -/
theorem psx_set {i : Nat} {x : Str} {pos' : Pos} (hN : X.N.Nodup) (hi : X.N[i]? = some x) (hx : Loc X.env.scope x) (he : PX X e xe) (hs : swapsWith e (some (.Name x pos')) pos.line X.env = pure false := by rfl) (hf : X.fn x = true ∨ X.env.scope.names.lookup x = some .local := by first | exact .inl rfl | exact .inr rfl | assumption) :
    PSX X W fr (.Assign [.Name x pos'] e pos) (sAsg xe (gNm i)) := ps_imp (ps_set hN hi hx he hs hf) fun D σ H q => by
  have q2 := to_asg (js := [i]) q
  obtain ⟨as0, Hs, as, ρ, os, H0, o, bs0, n, hx, k⟩ := q
  unfold sAsg gNm at hx
  cases h : xe ρ os with
  | none => rw [h] at hx; cases hx
  | some p =>
    obtain ⟨d, os1⟩ := p
    rw [h] at hx
    cases hx
    exact ⟨as, ρ, os, H0, d, os1, n, h, fun v H0' H' n1 g1 r1 => k as _ H0' H' Exs.refl (n1.set i r1) g1⟩
/-- name = a new list, one's own from now on -/
def sOwn (i : Nat) (x : XI) : SE := fun ρ os => (x ρ os).map fun p => .nx (ρ.set i (.o p.2.length)) (p.2 ++ [some (.l p.1)])
theorem En.own {K : PySem.W.Frag} {as : List Addr} {ρ : List Sl} {os : Os} {σ : L2.St} {H0 H : Hp} {p : Addr} {ho : HO} {ob : Ob} (n : En K as ρ os σ H0 H) (i : Nat) (h0 : H0 p = none) (hp : p ∉ as) (e : H p = some ho) (r : Cont K as H0 ho ob) :
    En K (as ++ [p]) (ρ.set i (.o os.length)) (os ++ [some ob]) (σ.set i (some (.ref p))) H0 H := by
  have hl := n.ow.len
  refine ⟨n.sub, by rw [List.length_set, List.length_set]; exact n.len, fun j x h => ?_, fun j k h => ?_, ⟨?_, by simp [hl], fun a ha => ?_, fun k a ds' h1 h2 => ?_⟩⟩
  · by_cases e : i = j
    · subst e
      by_cases hl : i < ρ.length
      · rw [List.getElem?_set_self hl] at h
        cases h
      · rw [List.getElem?_eq_none_iff.mpr (by rw [List.length_set]; omega)] at h
        cases h
    · rw [List.getElem?_set_ne e] at h ⊢
      exact n.dat j x h
  · by_cases e2 : i = j
    · subst e2
      by_cases hl2 : i < ρ.length
      · rw [List.getElem?_set_self hl2] at h
        cases h
        exact ⟨p, by rw [← hl]; simp, List.getElem?_set_self (by rw [n.len]; exact hl2)⟩
      · rw [List.getElem?_eq_none_iff.mpr (by rw [List.length_set]; omega)] at h
        cases h
    · rw [List.getElem?_set_ne e2] at h ⊢
      obtain ⟨a, h1, h2⟩ := n.ref j k h
      exact ⟨a, by rw [List.getElem?_append_left (List.getElem?_eq_some_iff.mp h1).1]; exact h1, h2⟩
  · rw [List.nodup_append]
    refine ⟨n.ow.nd, by simp, fun a ha b hb => ?_⟩
    have : b = p := by simpa using hb
    rw [this]
    exact fun z => hp (by rw [← z]; exact ha)
  · rcases List.mem_append.mp ha with z | z
    · exact n.ow.trk a z
    · have : a = p := by simpa using z
      rw [this, e]
      simp
  · by_cases hk : k < as.length
    · rw [List.getElem?_append_left hk] at h1
      rw [List.getElem?_append_left (by omega)] at h2
      obtain ⟨q1, o, q2, q3⟩ := n.ow.at_ k a ds' h1 h2
      exact ⟨q1, o, q2, q3.app⟩
    · by_cases hk2 : k = as.length
      · subst hk2
        rw [List.getElem?_append_right (Nat.le_refl _), Nat.sub_self] at h1
        rw [List.getElem?_append_right (by omega), hl, Nat.sub_self] at h2
        cases h1
        cases h2
        exact ⟨h0, ho, e, r.app⟩
      · rw [List.getElem?_eq_none_iff.mpr (by simp; omega)] at h1
        cases h1
theorem to_own {K : PySem.W.Frag} {x : XI} {i : Nat} {D : Ends} {σ : L2.St} {H : Hp} (q : tsO fr K W (sOwn i x) D σ H) : tAsg (teF K x) (gName i) D σ H := by
  obtain ⟨as0, Hs, as, ρ, os, H0, o, bs0, n, hx, k⟩ := q
  unfold sOwn at hx
  cases h : x ρ os with
  | none => rw [h] at hx; cases hx
  | some p =>
    obtain ⟨ds, os1⟩ := p
    rw [h] at hx
    cases hx
    exact ⟨as, ρ, os, H0, ds, os1, n, h, fun p vs H0' H' hp n1 g1 h2 h3 h4 r => k (as ++ [p]) _ H0' H' ⟨[p], rfl, by simpa using hp⟩ (n1.own i h2 h3 h4 r) g1⟩
theorem psx_own {i : Nat} {y : Str} {pos' : Pos} {x : XI} (hN : X.N.Nodup) (hi : X.N[i]? = some y) (hx : Loc X.env.scope y) (he : PXF X e x) (hs : swapsWith e (some (.Name y pos')) pos.line X.env = pure false := by rfl) (hf : X.fn y = true ∨ X.env.scope.names.lookup y = some .local := by first | exact .inl rfl | exact .inr rfl | assumption) :
    PSX X W fr (.Assign [.Name y pos'] e pos) (sOwn i x) := ps_imp (ps_set hN hi hx he hs hf) fun _ _ _ q => to_own q
/-- e; -/
def sDrop (xe : XE) : SE := fun ρ os => (xe ρ os).map fun p => .nx ρ p.2
theorem psx_expr (he : PX X e xe) (hs : swapsWith e none pos.line X.env = pure false := by rfl) : PSX X W fr (.Expr e pos) (sDrop xe) := ps_imp (ps_expr he hs) fun D σ H q => by
  obtain ⟨as0, Hs, as, ρ, os, H0, o, bs0, n, hx, k⟩ := q
  unfold sDrop at hx
  cases h : xe ρ os with
  | none => rw [h] at hx; cases hx
  | some p =>
    obtain ⟨d, os1⟩ := p
    rw [h] at hx
    cases hx
    exact ⟨as, ρ, os, H0, d, os1, n, h, fun v H0' H' n1 g1 r1 => k as σ H0' H' Exs.refl n1 g1⟩
/-- return -/
def sRet (xe : XE) : SE := fun ρ os => (xe ρ os).map fun p => .rt p.1 p.2
theorem psx_ret (he : PX X e xe) : PSX X W none (.Return (some e) pos) (sRet xe) := ps_imp (ps_ret he) fun D σ H q => by
  obtain ⟨as0, Hs, as, ρ, os, H0, o, bs0, n, hx, k⟩ := q
  unfold sRet at hx
  cases h : xe ρ os with
  | none => rw [h] at hx; cases hx
  | some p =>
    obtain ⟨d, os1⟩ := p
    rw [h] at hx
    cases hx
    exact ⟨as, ρ, os, H0, d, os1, n, h, fun v H0' H' n1 g1 r1 => k v as H0' H' Exs.refl n1.ow g1 r1⟩
def sRetF (x : XI) : SE := fun ρ os => (x ρ os).map fun p => .rt (.list p.1) p.2
theorem psx_retF {x : XI} {n0 : Nat} (he : PXF X e x) : PSX X W (some n0) (.Return (some e) pos) (sRetF x) := ps_imp (ps_ret he) fun D σ H q => by
  obtain ⟨as0, Hs, as, ρ, os, H0, o, bs0, n, hx, k⟩ := q
  unfold sRetF at hx
  cases h : x ρ os with
  | none => rw [h] at hx; cases hx
  | some p =>
    obtain ⟨ds, os1⟩ := p
    rw [h] at hx
    cases hx
    obtain ⟨ds', e1, k⟩ := k
    cases e1
    exact ⟨as, ρ, os, H0, ds, os1, n, h, fun p vs H0' H' hp n1 g1 h2 h3 h4 r => k p vs as H0' H' (by
      cases z : Hs p with
      | none => rfl
      | some u => exact absurd hp (bs0.kp p (by rw [z]; simp))) Exs.refl n1.ow g1 h2 h4 r⟩
def sRetN : SE := fun _ os => some (.rt .none os)
theorem psx_retN : PSX X W none (.Return none pos) sRetN := ps_imp ps_retN fun D σ H q => by
  obtain ⟨as0, Hs, as, ρ, os, H0, o, bs0, n, hx, k⟩ := q
  cases hx
  exact k _ as H0 H Exs.refl n.ow (Gr.refl n.sub) .non
/-- for -/
def forRun (xg : XG) (b : SE) : List PyData → List Sl → Os → Option Out
  | [], ρ, os => some (.nx ρ os)
  | d :: r, ρ, os => (xg d ρ).bind fun ρ1 => (b ρ1 os).bind fun o => match o with
    | .nx ρ2 w => forRun xg b r ρ2 w
    | .ct ρ2 w => forRun xg b r ρ2 w
    | .bk ρ2 w => some (.nx ρ2 w)
    | .rt d w => some (.rt d w)
    | .ex C x r w => some (.ex C x r w)
    | .rv s w => some (.rv s w)
def sFor (xi : XI) (xg : XG) (b : SE) : SE := fun ρ os => (xi ρ os).bind fun p => forRun xg b p.1 ρ p.2
theorem psx_for (hp : PassesOwn (model X.prog X.w) X.A X.env X.xe) (hc : X.calm = true) (hi : PXI X tg iter xi) (hg : PXG X tg xg js) (hb : PSXs X W fr sts s) (hs : ∀ x, foldedSetIterable iter X.env x = pure x := by intro _; rfl) :
    PSX X W fr (.For tg iter sts [] pos) (sFor xi xg s) := ps_imp (ps_for hp hc hi hg hb hs) fun D σ H q => by
  obtain ⟨as0, Hs, as, ρ, os, H0, o, bs0, n, hx, k⟩ := q
  unfold sFor at hx
  cases h : xi ρ os with
  | none => rw [h] at hx; cases hx
  | some p =>
    obtain ⟨items, os1⟩ := p
    rw [h, Option.bind_some] at hx
    refine ⟨as, ρ, os, H0, items, os1, n, h, fun J Ha Hb n1 g1 w => ?_⟩
    have kk := k.step Exs.refl g1
    refine ⟨fun i m σ2 H2 => m = items.length - i ∧ i ≤ items.length ∧ ∃ as2 ρ2 os2 H2', Exs as Hb as2 ∧ En X.K as2 ρ2 os2 σ2 H2' H2 ∧ Gr as Ha Hb H2' H2 ∧ forRun xg s (items.drop i) ρ2 os2 = some o,
      ⟨items.length, by simp, Nat.zero_le _, as, ρ, os1, Ha, Exs.refl, n1, Gr.refl n1.sub, hx⟩, ?_⟩
    rintro i m σ2 H2 ⟨rfl, hi, as2, ρ2, os2, H2', e2, n2, g2, hr⟩
    by_cases hlt : i < items.length
    · refine .inr ⟨w.goes i H2 hlt (g2.e0.trans n2.sub), fun σ3 H3 => ∃ as2 ρ2 os2 H2', Exs as Hb as2 ∧ En X.K as2 ρ2 os2 σ3 H2' H3 ∧ Gr as Ha Hb H2' H3 ∧ forRun xg s (items.drop (i + 1)) ρ2 os2 = some o,
        fun σ3 H3 p3 => ⟨items.length - (i + 1), by omega, rfl, hlt, p3⟩, fun x H3 y => ?_⟩
      obtain ⟨H3', d, g3, hd, r3⟩ := w.yields i H2 x H3 H2' hlt g2.e0 n2.sub y
      have n3 := n2.grow g3
      have e3 : items.drop i = d :: items.drop (i + 1) := by
        obtain ⟨_, e⟩ := List.getElem?_eq_some_iff.mp hd
        rw [← e]
        exact List.drop_eq_getElem_cons hlt
      rw [e3] at hr
      simp only [forRun] at hr
      cases q1 : xg d ρ2 with
      | none => rw [q1] at hr; cases hr
      | some ρ3 =>
        rw [q1, Option.bind_some] at hr
        refine ⟨as2, ρ2, os2, H3', d, ρ3, n3, r3, q1, fun σ4 n4 _ => ?_⟩
        cases q2 : s ρ3 os2 with
        | none => rw [q2] at hr; cases hr
        | some ob =>
          rw [q2, Option.bind_some] at hr
          have g23 : Gr as Ha Hb H3' H3 := g2.tr0 g3
          have g23' : Gr as H0 H H3' H3 := g1.tr g23
          have e2' : Exs as H as2 := Exs.refl.trans e2 g1.kp
          refine ⟨as0, Hs, as2, ρ3, os2, H3', ob, bs0.step e2' g23'.kp, n4, q2, ?_⟩
          cases ob with
          | nx r4 w4 => exact fun as5 σ5 H5' H5 e5 n5 g5 => ⟨as5, r4, w4, H5', e2.trans e5 g23.kp, n5, g23.trans g5 e2.mem, hr⟩
          | ct r4 w4 => exact fun as5 σ5 H5' H5 e5 n5 g5 => ⟨as5, r4, w4, H5', e2.trans e5 g23.kp, n5, g23.trans g5 e2.mem, hr⟩
          | bk r4 w4 =>
            cases hr
            exact NxOk.step (H1' := H3) e2 g23 kk
          | rt d4 w4 =>
            cases hr
            exact RtOk.step (H1' := H3) e2 g23 kk
          | ex C x r4 w4 =>
            cases hr
            exact ExOk.step (H1' := H3) e2 g23 kk
          | rv s4 w4 =>
            cases hr
            exact RvOk.step (H1' := H3) e2 g23 kk
    · have e : items.drop i = [] := List.drop_eq_nil_of_le (by omega)
      rw [e] at hr
      cases hr
      have ei : i = items.length := by omega
      subst ei
      exact .inl ⟨w.stops H2 (g2.e0.trans n2.sub), kk as2 σ2 H2' H2 e2 n2 g2⟩
/-- while, with fuel -/
def whRun (t : XT) (b : SE) : Nat → List Sl → Os → Option Out
  | 0, _, _ => none
  | m + 1, ρ, os => (t ρ os).bind fun p => if p.1 = true then (b ρ p.2).bind fun o => match o with
    | .nx ρ2 w => whRun t b m ρ2 w
    | .ct ρ2 w => whRun t b m ρ2 w
    | .bk ρ2 w => some (.nx ρ2 w)
    | .rt d w => some (.rt d w)
    | .ex C x r w => some (.ex C x r w)
    | .rv s w => some (.rv s w)
    else some (.nx ρ p.2)
end
end DL

set_option Elab.async false
set_option linter.all false
set_option maxRecDepth 100000
set_option maxHeartbeats 4000000
namespace DL
open PySem PySem.Spec PyProof.Rows L2 Evl
section
variable {X : Cx} {W : WX} {fr : Option Nat} {sts : List Stmt} {s : SE} {a b e c o : Expr} {es : List Expr} {xe xa xb : XE} {xt : XT} {ra : XA} {pos p apos : Pos} {x : Str}
/-! while -/
def sWhile (fuel : Nat) (t : XT) (b : SE) : SE := fun ρ os => whRun t b fuel ρ os
theorem psx_while {fuel : Nat} (hp : PassesOwn (model X.prog X.w) X.A X.env X.xe) (hc : PXT X c xt) (hb : PSXs X W fr sts s) : PSX X W fr (.While c sts [] pos) (sWhile fuel xt s) := ps_imp (ps_while hp hc hb) fun D σ H q => by
  obtain ⟨as0, Hs, as, ρ, os, H0, o, bs0, n, hx, k⟩ := q
  refine ⟨fun m σ2 H2 => ∃ as2 ρ2 os2 H2', Exs as H as2 ∧ En X.K as2 ρ2 os2 σ2 H2' H2 ∧ Gr as H0 H H2' H2 ∧ whRun xt s m ρ2 os2 = some o, ⟨fuel, as, ρ, os, H0, Exs.refl, n, Gr.refl n.sub, hx⟩, ?_⟩
  rintro m σ2 H2 ⟨as2, ρ2, os2, H2', e2, n2, g2, hr⟩
  cases m with
  | zero => cases hr
  | succ m =>
    simp only [whRun] at hr
    cases q1 : xt ρ2 os2 with
    | none => rw [q1] at hr; cases hr
    | some p =>
      obtain ⟨bb, os3⟩ := p
      rw [q1, Option.bind_some] at hr
      refine ⟨as2, ρ2, os2, H2', bb, os3, n2, q1, fun H3' H3 n3 g3 => ?_⟩
      have g23 : Gr as H0 H H3' H3 := g2.trans g3 e2.mem
      cases bb with
      | false =>
        simp only [Bool.false_eq_true, if_false] at hr ⊢
        cases hr
        exact k as2 σ2 H3' H3 e2 n3 g23
      | true =>
        simp only [if_true] at hr ⊢
        cases q2 : s ρ2 os3 with
        | none => rw [q2] at hr; cases hr
        | some ob =>
          rw [q2, Option.bind_some] at hr
          refine ⟨fun σ3 H4 => ∃ as2 ρ2 os2 H2', Exs as H as2 ∧ En X.K as2 ρ2 os2 σ3 H2' H4 ∧ Gr as H0 H H2' H4 ∧ whRun xt s m ρ2 os2 = some o, fun σ3 H4 p4 => ⟨m, Nat.lt_succ_self m, p4⟩, as0, Hs, as2, ρ2, os3, H3', ob, bs0.step e2 g23.kp, n3, q2, ?_⟩
          cases ob with
          | nx r4 w4 => exact fun as5 σ5 H5' H5 e5 n5 g5 => ⟨as5, r4, w4, H5', e2.trans e5 g23.kp, n5, g23.trans g5 e2.mem, hr⟩
          | ct r4 w4 => exact fun as5 σ5 H5' H5 e5 n5 g5 => ⟨as5, r4, w4, H5', e2.trans e5 g23.kp, n5, g23.trans g5 e2.mem, hr⟩
          | bk r4 w4 =>
            cases hr
            exact NxOk.step e2 g23 k
          | rt d4 w4 =>
            cases hr
            exact RtOk.step e2 g23 k
          | ex C x r4 w4 =>
            cases hr
            exact ExOk.step e2 g23 k
          | rv s4 w4 =>
            cases hr
            exact RvOk.step e2 g23 k

/-! lists of one's own: read, grown, stored -/
/-- a list of one's own changes -/
theorem Gr.mut {as : List Addr} {H0 H : Hp} {a : Addr} {o : HO} (s : Ex H0 H) (h : a ∈ as) (n : H0 a = none) (t : H a ≠ none) : Gr as H0 H H0 (upd H a o) :=
  ⟨Ex.refl _, fun b u hb e => by rw [upd_ne (fun z => hb (by rw [z]; exact h))]; exact e, fun _ _ _ e _ => e, fun b hb => by
    by_cases z : b = a
    · subst z
      rw [upd_same]
      simp
    · rw [upd_ne z]
      exact hb, fun b u e => by rw [upd_ne (ne_of_none e n)]; exact s b u e⟩
theorem Own.mut {K : PySem.W.Frag} {as : List Addr} {os : Os} {H0 H : Hp} {a : Addr} {k : Nat} {ho : HO} {ob ob0 : Ob} (w : Own K as os H0 H) (h : as[k]? = some a) (h0 : os[k]? = some (some ob0)) (r : Cont K as H0 ho ob) : Own K as (os.set k (some ob)) H0 (upd H a ho) := by
  refine ⟨w.nd, by rw [List.length_set]; exact w.len, fun b hb => ?_, fun j b es h1 h2 => ?_⟩
  · by_cases z : b = a
    · subst z
      rw [upd_same]
      simp
    · rw [upd_ne z]
      exact w.trk b hb
  · by_cases e : k = j
    · subst e
      rw [h] at h1
      cases h1
      rw [List.getElem?_set_self (List.getElem?_eq_some_iff.mp h0).1] at h2
      cases h2
      exact ⟨(w.at_ k a ob0 h h0).1, ho, upd_same, r⟩
    · rw [List.getElem?_set_ne e] at h2
      obtain ⟨q1, us, q2, q3⟩ := w.at_ j b es h1 h2
      refine ⟨q1, us, ?_, q3⟩
      rw [upd_ne]
      · exact q2
      · intro z
        subst z
        exact e (nd_ix w.nd h h1)
theorem En.mut {K : PySem.W.Frag} {as : List Addr} {ρ : List Sl} {os : Os} {σ : L2.St} {H0 H : Hp} {a : Addr} {k : Nat} {ho : HO} {ob ob0 : Ob} (n : En K as ρ os σ H0 H) (h : as[k]? = some a) (h0 : os[k]? = some (some ob0)) (r : Cont K as H0 ho ob) : En K as ρ (os.set k (some ob)) σ H0 (upd H a ho) :=
  ⟨fun b u e => by rw [upd_ne (ne_of_none e (n.ow.at_ k a ob0 h h0).1)]; exact n.sub b u e, n.len, n.dat, n.ref, n.ow.mut h h0 r⟩
def ownAt (ρ : List Sl) (os : Os) (i : Nat) : Option (Nat × List PyData) := match ρ[i]? with
  | some (.o k) => match os[k]? with
    | some (some (.l ds)) => some (k, ds)
    | _ => none
  | _ => none
theorem ownAt_some {ρ : List Sl} {os : Os} {i k : Nat} {ds : List PyData} (h : ownAt ρ os i = some (k, ds)) : ρ[i]? = some (.o k) ∧ os[k]? = some (some (.l ds)) := by
  unfold ownAt at h
  split at h
  · rename_i k' h1
    split at h
    · rename_i ds' h2
      cases h
      exact ⟨h1, h2⟩
    · cases h
  · cases h
/-- x.append(e) -/
def sApp (i : Nat) (xe : XE) : SE := fun ρ os => (ownAt ρ os i).bind fun _ => (xe ρ os).bind fun p => (ownAt ρ p.2 i).bind fun q => if q.2.length < sizeLine then some (.nx ρ (p.2.set q.1 (some (.l (q.2 ++ [p.1]))))) else none
theorem psx_app {i : Nat} (h : PS X (.Expr e pos) (tDrop (tBM X.K "list" rAppend (tVar i) (tCons (teO X.K xe) tNil)))) : PSX X W fr (.Expr e pos) (sApp i xe) := ps_imp h fun D σ H q => by
  obtain ⟨as0, Hs, as, ρ, os, H0, o, bs0, n, hx, k⟩ := q
  unfold sApp at hx
  cases h0 : ownAt ρ os i with
  | none => rw [h0] at hx; cases hx
  | some q0 =>
  obtain ⟨j0, ds0⟩ := q0
  rw [h0, Option.bind_some] at hx
  cases h1 : xe ρ os with
  | none => rw [h1] at hx; cases hx
  | some p =>
    obtain ⟨d, os1⟩ := p
    rw [h1, Option.bind_some] at hx
    cases h2 : ownAt ρ os1 i with
    | none => rw [h2] at hx; cases hx
    | some q =>
      obtain ⟨j, ds⟩ := q
      rw [h2, Option.bind_some] at hx
      simp only at hx
      split at hx
      · rename_i hz
        cases hx
        obtain ⟨h3, h4⟩ := ownAt_some h2
        obtain ⟨h5, h6⟩ := ownAt_some h0
        obtain ⟨adr, e1, e2⟩ := n.ref i j h3
        have ej : j0 = j := by
          rw [h3] at h5
          cases h5
          rfl
        subst ej
        have hm : adr ∈ as := List.mem_of_getElem? e1
        obtain ⟨_, vs0, q0, _⟩ := n.ow.l j0 adr ds0 e1 h6
        refine ⟨_, e2, .inl ⟨rfl, vs0, SqL.of q0⟩, as, ρ, os, H0, d, os1, n, h1, fun v H0' H' n1 g1 r1 => ?_⟩
        obtain ⟨q1, vs, q2, q3⟩ := n1.ow.l j0 adr ds e1 h4
        refine ⟨adr, vs, v, rfl, rfl, q2, by rw [q3.len]; exact hz, ?_⟩
        exact k as σ H0' _ Exs.refl (n1.mut e1 h4 (q3.app (.cons r1 .nil))) (g1.tr (Gr.mut n1.sub hm q1 (n1.ow.trk _ hm)))
      · cases hx
/-- x[j] = e -/
def sSet (i : Nat) (xi xe : XE) : SE := fun ρ os => (xe ρ os).bind fun p => (xi ρ p.2).bind fun r => match r.1 with
  | .int k => (ownAt ρ r.2 i).bind fun q => (ixN q.2.length k).map fun m => .nx ρ (r.2.set q.1 (some (.l (q.2.set m p.1))))
  | _ => none
theorem psx_setItem {i : Nat} {xi : XE} {st : Stmt} (h : PS X st (tAsg (teO X.K xe) (gSub (tVar i) (teO X.K xi) rSetL))) : PSX X W fr st (sSet i xi xe) := ps_imp h fun D σ H q => by
  obtain ⟨as0, Hs, as, ρ, os, H0, o, bs0, n, hx, k⟩ := q
  unfold sSet at hx
  cases h1 : xe ρ os with
  | none => rw [h1] at hx; cases hx
  | some p =>
    obtain ⟨d, os1⟩ := p
    rw [h1, Option.bind_some] at hx
    cases h2 : xi ρ os1 with
    | none => rw [h2] at hx; cases hx
    | some r =>
      obtain ⟨y, os2⟩ := r
      rw [h2, Option.bind_some] at hx
      cases y with
      | int kk =>
        simp only at hx
        cases h3 : ownAt ρ os2 i with
        | none => rw [h3] at hx; cases hx
        | some q =>
          obtain ⟨j, ds⟩ := q
          rw [h3, Option.bind_some] at hx
          simp only at hx
          cases h4 : ixN ds.length kk with
          | none => rw [h4] at hx; cases hx
          | some m =>
            rw [h4] at hx
            cases hx
            obtain ⟨h5, h6⟩ := ownAt_some h3
            obtain ⟨adr, e1, e2⟩ := n.ref i j h5
            have hm : adr ∈ as := List.mem_of_getElem? e1
            refine ⟨as, ρ, os, H0, d, os1, n, h1, fun v H0' H' n1 g1 r1 => ⟨_, e2, as, ρ, os1, H0', _, os2, n1, h2, fun w H0'' H'' n2 g2 r2 => ?_⟩⟩
            have ew := da_intI r2
            subst ew
            obtain ⟨q1, vs, q2, q3⟩ := n2.ow.l j adr ds e1 h6
            refine ⟨adr, vs, kk, m, rfl, rfl, q2, by rw [q3.len]; exact h4, ?_⟩
            exact k as σ H0'' _ Exs.refl (n2.mut e1 h6 (q3.set m (Da.mono g2.e0 _ _ r1))) ((g1.tr g2).tr (Gr.mut n2.sub hm q1 (n2.ow.trk _ hm)))
      | _ => cases hx
/-- len(x), x one's own -/
def xLenO (i : Nat) : XE := fun ρ os => (ownAt ρ os i).map fun q => (.int (q.2.length : Int), os)
theorem px_lenO {i : Nat} (h : PE X e (tCB (rLenS X.K) (tCons (tVar i) tNil))) : PX X e (xLenO i) := pe_imp h fun σ H Q q => by
  obtain ⟨as, ρ, os, H0, d, os', n, hx, k⟩ := q
  unfold xLenO at hx
  cases h2 : ownAt ρ os i with
  | none => rw [h2] at hx; cases hx
  | some q =>
    obtain ⟨j, ds⟩ := q
    rw [h2] at hx
    cases hx
    obtain ⟨h3, h4⟩ := ownAt_some h2
    obtain ⟨adr, e1, e2⟩ := n.ref i j h3
    obtain ⟨q1, vs, q2, q3⟩ := n.ow.l j adr ds e1 h4
    refine ⟨_, e2, adr, vs, rfl, .inl (SqL.of q2), ?_⟩
    rw [q3.len]
    exact k _ H0 H n (Gr.refl n.sub) (.int _)
/-- x[j], x one's own -/
def xIxO (i : Nat) (xi : XE) : XE := fun ρ os => (xi ρ os).bind fun r => match r.1 with
  | .int k => (ownAt ρ r.2 i).bind fun q => (atI q.2 k).map fun d => (d, r.2)
  | _ => none
theorem DaAll.atI {K : PySem.W.Frag} {H : Hp} {vs : List V} {ds : List PyData} {k : Int} {d : PyData} (h : DaAll K H vs ds) (e : L2.atI ds k = some d) : ∃ v, L2.atI vs k = some v ∧ Da K H v d := by
  unfold L2.atI at e ⊢
  rw [h.len]
  cases q : ixN ds.length k with
  | none => rw [q] at e; cases e
  | some j =>
    rw [q, Option.bind_some] at e
    obtain ⟨v, h1, h2⟩ := h.at_ e
    exact ⟨v, by rw [Option.bind_some]; exact h1, h2⟩
theorem px_ixO {i : Nat} {xi : XE} (h : PE X e (tOp (rIxL X.K) (tVar i) (teO X.K xi))) : PX X e (xIxO i xi) := pe_imp h fun σ H Q q => by
  obtain ⟨as, ρ, os, H0, d, os', n, hx, k⟩ := q
  unfold xIxO at hx
  cases h1 : xi ρ os with
  | none => rw [h1] at hx; cases hx
  | some r =>
    obtain ⟨y, os1⟩ := r
    rw [h1, Option.bind_some] at hx
    cases y with
    | int kk =>
      simp only at hx
      cases h2 : ownAt ρ os1 i with
      | none => rw [h2] at hx; cases hx
      | some q =>
        obtain ⟨j, ds⟩ := q
        rw [h2, Option.bind_some] at hx
        cases h5 : L2.atI ds kk with
        | none => rw [h5] at hx; cases hx
        | some d1 =>
          rw [h5] at hx
          cases hx
          obtain ⟨h3, h4⟩ := ownAt_some h2
          obtain ⟨adr, e1, e2⟩ := n.ref i j h3
          refine ⟨_, e2, as, ρ, os, H0, _, _, n, h1, fun v H0' H' n1 g1 r1 => ?_⟩
          have ev := da_intI r1
          subst ev
          obtain ⟨q1, vs, q2, q3⟩ := n1.ow.l j adr ds e1 h4
          obtain ⟨w, q4, q5⟩ := q3.atI h5
          exact ⟨adr, vs, kk, w, rfl, rfl, SqL.of q2, q4, k w H0' H' n1 g1 q5⟩
    | _ => cases hx
/-- a list of one's own becomes plain data -/
def sFrz (i : Nat) (s : SE) : SE := fun ρ os => (ownAt ρ os i).bind fun q => s (ρ.set i (.d (.list q.2))) (os.set q.1 none)
theorem to_frz {K : PySem.W.Frag} {i : Nat} {D : Ends} {σ : L2.St} {H : Hp} (q : tsO fr K W (sFrz i s) D σ H) : tsO fr K W s D σ H := by
  obtain ⟨as0, Hs, as, ρ, os, H0, o, bs0, n, hx, k⟩ := q
  unfold sFrz at hx
  cases h2 : ownAt ρ os i with
  | none => rw [h2] at hx; cases hx
  | some q =>
    obtain ⟨j, ds⟩ := q
    rw [h2, Option.bind_some] at hx
    obtain ⟨h3, h4⟩ := ownAt_some h2
    obtain ⟨adr, e1, e2⟩ := n.ref i j h3
    obtain ⟨q1, vs, q2, q3⟩ := n.ow.l j adr ds e1 h4
    have hm : adr ∈ as := List.mem_of_getElem? e1
    have sub : Ex (upd H0 adr (.lst vs)) H := fun a u e => by
      by_cases z : a = adr
      · subst z
        rw [upd_same] at e
        rw [← e]
        exact q2
      · rw [upd_ne z] at e
        exact n.sub a u e
    have g : Gr as H0 H (upd H0 adr (.lst vs)) H := ⟨Ex.new q1, fun _ _ _ e => e, fun a u m e _ => by
      rw [upd_ne (fun z => m (by rw [z]; exact hm))] at e
      exact e, fun _ h => h, sub⟩
    have n2 : En K as ρ (os.set j none) σ (upd H0 adr (.lst vs)) H := ⟨sub, n.len, fun i x h => by
      obtain ⟨v, e1, r⟩ := n.dat i x h
      exact ⟨v, e1, r.mono (Ex.new q1)⟩, n.ref, n.ow.nd, by rw [List.length_set]; exact n.ow.len, n.ow.trk, fun m b es h1 h5 => by
        by_cases z : j = m
        · subst z
          rw [List.getElem?_set_self (List.getElem?_eq_some_iff.mp h4).1] at h5
          cases h5
        · rw [List.getElem?_set_ne z] at h5
          obtain ⟨w1, us, w2, w3⟩ := n.ow.at_ m b es h1 h5
          refine ⟨?_, us, w2, w3.mono (Ex.new q1)⟩
          rw [upd_ne]
          · exact w1
          · intro y
            subst y
            exact z (nd_ix n.ow.nd e1 h1)⟩
    have n3 := n2.set i (v := .ref adr) (d := .list ds) (.lst (SqL.of upd_same) (q3.mono (Ex.new q1)))
    have es : σ.set i (some (.ref adr)) = σ := by
      refine List.ext_getElem? fun m => ?_
      by_cases z : i = m
      · subst z
        rw [List.getElem?_set_self (List.getElem?_eq_some_iff.mp e2).1]
        exact e2.symm
      · rw [List.getElem?_set_ne z]
    rw [es] at n3
    exact ⟨as0, Hs, as, _, _, _, o, bs0, n3, hx, k.step Exs.refl g⟩
theorem psx_frz {st : Stmt} (i : Nat) (h : PSX X W fr st s) : PSX X W fr st (sFrz i s) := ps_imp h fun _ _ _ q => to_frz q
theorem psxs_frz (i : Nat) (h : PSXs X W fr sts s) : PSXs X W fr sts (sFrz i s) := pss_imp h fun _ _ _ q => to_frz q
/-- return x, x one's own -/
def sRetO (n0 i : Nat) : SE := fun ρ os => (ownAt ρ os i).bind fun q => if n0 ≤ q.1 then some (.rt (.list q.2) (os.set q.1 none)) else none
theorem psx_retO {i n0 : Nat} (h : PE X e (tVar i)) : PSX X W (some n0) (.Return (some e) pos) (sRetO n0 i) := ps_imp (ps_ret h) fun D σ H q => by
  obtain ⟨as0, Hs, as, ρ, os, H0, o, bs0, n, hx, k⟩ := q
  unfold sRetO at hx
  cases h2 : ownAt ρ os i with
  | none => rw [h2] at hx; cases hx
  | some q =>
    obtain ⟨j, ds⟩ := q
    rw [h2, Option.bind_some] at hx
    simp only at hx
    split at hx
    · rename_i hj
      cases hx
      obtain ⟨ds', e0, k⟩ := k
      cases e0
      obtain ⟨h3, h4⟩ := ownAt_some h2
      obtain ⟨adr, e1, e2⟩ := n.ref i j h3
      obtain ⟨q1, vs, q2, q3⟩ := n.ow.l j adr ds e1 h4
      refine ⟨_, e2, k adr vs as H0 H ?_ Exs.refl ⟨n.ow.nd, by rw [List.length_set]; exact n.ow.len, n.ow.trk, fun m b es h1 h5 => ?_⟩ (Gr.refl n.sub) q1 q2 q3⟩
      · obtain ⟨bb, rfl, hb⟩ := bs0.ex
        have hl := bs0.len n0 rfl
        rw [List.getElem?_append_right (by omega)] at e1
        exact hb adr (List.mem_of_getElem? e1)
      · by_cases z : j = m
        · subst z
          rw [List.getElem?_set_self (List.getElem?_eq_some_iff.mp h4).1] at h5
          cases h5
        · rw [List.getElem?_set_ne z] at h5
          exact n.ow.at_ m b es h1 h5
    · cases hx
end
end DL

set_option Elab.async false
set_option linter.all false
set_option maxRecDepth 100000
set_option maxHeartbeats 4000000
namespace DL
open PySem PySem.Spec PyProof.Rows L2 Evl
/-! ### built-ins -/
def lenD : List PyData → Option PyData
  | [.list c] => some (.int (c.length : Int))
  | [.tuple c] => some (.int (c.length : Int))
  | [.str x] => if x.length ≤ sizeLine then some (.int (x.length : Int)) else none
  | _ => none
def intD : List PyData → Option PyData
  | [.int i] => some (.int i)
  | [.bool b] => some (.int (if b then 1 else 0))
  | _ => none
def intsOf : List PyData → Option (List Int)
  | [] => some []
  | .int i :: r => (intsOf r).map (i :: ·)
  | _ => none
def boolsOf : List PyData → Option (List Bool)
  | [] => some []
  | .bool i :: r => (boolsOf r).map (i :: ·)
  | _ => none
theorem intsOf_eq : ∀ {ds : List PyData} {ns : List Int}, intsOf ds = some ns → ds = ns.map PyData.int
  | [], _, h => by cases h; rfl
  | d :: r, ns, h => by
    cases d with
    | int i =>
      simp only [intsOf] at h
      cases q : intsOf r with
      | none => rw [q] at h; cases h
      | some ms =>
        rw [q] at h
        cases h
        rw [intsOf_eq q]
        rfl
    | _ => cases h
theorem intsOf_map : ∀ ns : List Int, intsOf (ns.map PyData.int) = some ns
  | [] => rfl
  | n :: r => by
    show (intsOf (r.map PyData.int)).map (n :: ·) = _
    rw [intsOf_map r]
    rfl
theorem boolsOf_eq : ∀ {ds : List PyData} {ns : List Bool}, boolsOf ds = some ns → ds = ns.map PyData.bool
  | [], _, h => by cases h; rfl
  | d :: r, ns, h => by
    cases d with
    | bool i =>
      simp only [boolsOf] at h
      cases q : boolsOf r with
      | none => rw [q] at h; cases h
      | some ms =>
        rw [q] at h
        cases h
        rw [boolsOf_eq q]
        rfl
    | _ => cases h
theorem boolsOf_map : ∀ ns : List Bool, boolsOf (ns.map PyData.bool) = some ns
  | [] => rfl
  | n :: r => by
    show (boolsOf (r.map PyData.bool)).map (n :: ·) = _
    rw [boolsOf_map r]
    rfl
def maxL : List Int → Int
  | [] => 0
  | n :: r => r.foldl (fun a b => if a < b then b else a) n
def minL : List Int → Int
  | [] => 0
  | n :: r => r.foldl (fun a b => if b < a then b else a) n
theorem maxF_spec : ∀ (r : List Int) (n : Int), (r.foldl (fun a b => if a < b then b else a) n ∈ n :: r) ∧ ∀ y ∈ n :: r, y ≤ r.foldl (fun a b => if a < b then b else a) n
  | [], n => ⟨by simp, fun y h => by simp at h; rw [h]; exact Int.le_refl _⟩
  | m :: r, n => by
    have ih := maxF_spec r (if n < m then m else n)
    simp only [List.foldl_cons]
    refine ⟨?_, fun y h => ?_⟩
    · rcases List.mem_cons.mp ih.1 with z | z
      · rw [z]
        split <;> simp
      · exact List.mem_cons_of_mem _ (List.mem_cons_of_mem _ z)
    · have h0 := ih.2 _ (List.mem_cons_self)
      rcases List.mem_cons.mp h with z | z
      · rw [z]
        exact Int.le_trans (by split <;> omega) h0
      · rcases List.mem_cons.mp z with z | z
        · rw [z]
          exact Int.le_trans (by split <;> omega) h0
        · exact ih.2 y (List.mem_cons_of_mem _ z)
theorem minF_spec : ∀ (r : List Int) (n : Int), (r.foldl (fun a b => if b < a then b else a) n ∈ n :: r) ∧ ∀ y ∈ n :: r, r.foldl (fun a b => if b < a then b else a) n ≤ y
  | [], n => ⟨by simp, fun y h => by simp at h; rw [h]; exact Int.le_refl _⟩
  | m :: r, n => by
    have ih := minF_spec r (if m < n then m else n)
    simp only [List.foldl_cons]
    refine ⟨?_, fun y h => ?_⟩
    · rcases List.mem_cons.mp ih.1 with z | z
      · rw [z]
        split <;> simp
      · exact List.mem_cons_of_mem _ (List.mem_cons_of_mem _ z)
    · have h0 := ih.2 _ (List.mem_cons_self)
      rcases List.mem_cons.mp h with z | z
      · rw [z]
        exact Int.le_trans h0 (by split <;> omega)
      · rcases List.mem_cons.mp z with z | z
        · rw [z]
          exact Int.le_trans h0 (by split <;> omega)
        · exact ih.2 y (List.mem_cons_of_mem _ z)
theorem maxL_mem {ns : List Int} (h : 0 < ns.length) : maxL ns ∈ ns := by
  cases ns with
  | nil => cases h
  | cons n r => exact (maxF_spec r n).1
theorem maxL_ge {ns : List Int} {y : Int} (h : y ∈ ns) : y ≤ maxL ns := by
  cases ns with
  | nil => cases h
  | cons n r => exact (maxF_spec r n).2 y h
theorem minL_mem {ns : List Int} (h : 0 < ns.length) : minL ns ∈ ns := by
  cases ns with
  | nil => cases h
  | cons n r => exact (minF_spec r n).1
theorem minL_le {ns : List Int} {y : Int} (h : y ∈ ns) : minL ns ≤ y := by
  cases ns with
  | nil => cases h
  | cons n r => exact (minF_spec r n).2 y h
def maxD : List PyData → Option PyData
  | [.int a, .int b] => some (.int (if b > a then b else a))
  | [.list c] => (intsOf c).bind fun ns => if 0 < ns.length then some (.int (maxL ns)) else none
  | _ => none
def minD : List PyData → Option PyData
  | [.int a, .int b] => some (.int (if b < a then b else a))
  | [.list c] => (intsOf c).bind fun ns => if 0 < ns.length then some (.int (minL ns)) else none
  | _ => none
def sumD : List PyData → Option PyData
  | [.list c] => (intsOf c).map fun ns => .int ns.sum
  | _ => none
def allD : List PyData → Option PyData
  | [.list c] => (boolsOf c).map fun ns => .bool (ns.all id)
  | _ => none
def anyD : List PyData → Option PyData
  | [.list c] => (boolsOf c).map fun ns => .bool (ns.any id)
  | _ => none
def plainRepr (d : PyData) : Bool := match d with
  | .dict [] => true
  | d => !d.hasDict
def reprD : List PyData → Option PyData
  | [d] => if d.showable = true ∧ d.depth ≤ 64 ∧ d.shown.length ≤ sizeLine ∧ plainRepr d = true then some (.str d.shown) else none
  | _ => none
def typeN : PyData → String
  | .none => "NoneType"
  | .bool _ => "bool"
  | .int _ => "int"
  | .str _ => "str"
  | .list _ => "list"
  | .tuple _ => "tuple"
  | .dict _ => "dict"
def isiD (T : String) (d : PyData) : Option PyData := (kitB (typeN d) T).map PyData.bool
section
variable {X : Cx} {fr : Option Nat} {a b e c o : Expr} {es : List Expr} {xe xa xb : XE} {ra : XA} {pos p p2 apos : Pos} {x : Str}
theorem callC {f : Value} {g : List PyData → Option PyData}
    (h : ∀ (pins : List (Addr × Obj)) (s : Shared) (σ : L2.St) (H H0 : Hp) (xs : List V) (us : List Value) (Q : VK) (ds : List PyData) (z : PyData), Inv X pins σ H s → Vals xs us → Ex H0 H → DaAll X.K H0 xs ds → g ds = some z → (∀ w H0' H', Gr [] H0 H H0' H' → Da X.K H0' w z → Q w H') →
      wpAny (model X.prog X.w) X.A (call f us) (EP X pins σ Q) X.xe s) : CallR X f (rC X.K g) := by
  intro pins s σ H xs us Q I r q
  obtain ⟨H0, ds, z, h1, h2, h3, h4⟩ := q
  exact h pins s σ H H0 xs us Q ds z I r h1 h2 h3 h4
theorem da1 {K : PySem.W.Frag} {H : Hp} {xs : List V} {d : PyData} (h : DaAll K H xs [d]) : ∃ x, xs = [x] ∧ Da K H x d := by
  cases h with
  | cons h1 h2 =>
    cases h2
    exact ⟨_, rfl, h1⟩
theorem da2 {K : PySem.W.Frag} {H : Hp} {xs : List V} {d e : PyData} (h : DaAll K H xs [d, e]) : ∃ x y, xs = [x, y] ∧ Da K H x d ∧ Da K H y e := by
  cases h with
  | cons h1 h2 =>
    obtain ⟨y, rfl, h3⟩ := da1 h2
    exact ⟨_, y, rfl, h1, h3⟩
theorem c_len : CallR X (.builtin "len") (rC X.K lenD) := callC fun pins s σ H H0 xs us Q ds z I r s0 ha hf q => by
  unfold lenD at hf
  split at hf
  · cases hf
    obtain ⟨x, rfl, h⟩ := da1 ha
    cases h with
    | lst h1 h2 => exact call_len_seq pins s σ H _ us Q I r ⟨_, _, rfl, .inl (ex_l s0 h1), by rw [h2.len]; exact q _ H0 H (Gr.refl s0) (.int _)⟩
  · cases hf
    obtain ⟨x, rfl, h⟩ := da1 ha
    cases h with
    | tup h1 h2 => exact call_len_seq pins s σ H _ us Q I r ⟨_, _, rfl, .inr (SqT.of (s0 _ _ h1)), by rw [h2.len]; exact q _ H0 H (Gr.refl s0) (.int _)⟩
  · split at hf
    · cases hf
      obtain ⟨x, rfl, h⟩ := da1 ha
      cases h
      exact call_len_str pins s σ H _ us Q I r ⟨_, rfl, by assumption, q _ H0 H (Gr.refl s0) (.int _)⟩
    · cases hf
  · cases hf
theorem c_int : CallR X (.type "int") (rC X.K intD) := callC fun pins s σ H H0 xs us Q ds z I r s0 ha hf q => by
  unfold intD at hf
  split at hf
  · cases hf
    obtain ⟨x, rfl, h⟩ := da1 ha
    cases h
    exact call_int1 pins s σ H _ us Q I r (.inl ⟨_, rfl, q _ H0 H (Gr.refl s0) (.int _)⟩)
  · cases hf
    obtain ⟨x, rfl, h⟩ := da1 ha
    cases h
    exact call_int1 pins s σ H _ us Q I r (.inr ⟨_, rfl, q _ H0 H (Gr.refl s0) (.int _)⟩)
  · cases hf
theorem c_max (hc : X.calm = true) : CallR X (.builtin "max") (rC X.K maxD) := callC fun pins s σ H H0 xs us Q ds z I r s0 ha hf q => by
  unfold maxD at hf
  split at hf
  · cases hf
    obtain ⟨x, y, rfl, h1, h2⟩ := da2 ha
    cases h1
    cases h2
    exact call_max2 hc pins s σ H _ us Q I r ⟨_, _, rfl, q _ H0 H (Gr.refl s0) (.int _)⟩
  · rename_i c
    obtain ⟨x, rfl, h⟩ := da1 ha
    cases h4 : intsOf c with
    | none => rw [h4] at hf; cases hf
    | some ns =>
      rw [h4, Option.bind_some] at hf
      split at hf
      · rename_i hz
        cases hf
        have e := intsOf_eq h4
        subst e
        cases h with
        | lst h1 h2 =>
          have e2 := h2.ints
          subst e2
          refine cr_max hc pins s σ H _ us Q I r ⟨_, ns, rfl, ex_l s0 h1, hz, fun m hm hle => ?_⟩
          have e3 : m = maxL ns := Int.le_antisymm (maxL_ge hm) (hle _ (maxL_mem hz))
          rw [e3]
          exact q _ H0 H (Gr.refl s0) (.int _)
      · cases hf
  · cases hf
theorem c_min (hc : X.calm = true) : CallR X (.builtin "min") (rC X.K minD) := callC fun pins s σ H H0 xs us Q ds z I r s0 ha hf q => by
  unfold minD at hf
  split at hf
  · cases hf
    obtain ⟨x, y, rfl, h1, h2⟩ := da2 ha
    cases h1
    cases h2
    exact call_min2 hc pins s σ H _ us Q I r ⟨_, _, rfl, q _ H0 H (Gr.refl s0) (.int _)⟩
  · rename_i c
    obtain ⟨x, rfl, h⟩ := da1 ha
    cases h4 : intsOf c with
    | none => rw [h4] at hf; cases hf
    | some ns =>
      rw [h4, Option.bind_some] at hf
      split at hf
      · rename_i hz
        cases hf
        have e := intsOf_eq h4
        subst e
        cases h with
        | lst h1 h2 =>
          have e2 := h2.ints
          subst e2
          refine cr_min hc pins s σ H _ us Q I r ⟨_, ns, rfl, ex_l s0 h1, hz, fun m hm hle => ?_⟩
          have e3 : m = minL ns := Int.le_antisymm (hle _ (minL_mem hz)) (minL_le hm)
          rw [e3]
          exact q _ H0 H (Gr.refl s0) (.int _)
      · cases hf
  · cases hf
theorem c_sum (hc : X.calm = true) : CallR X (.builtin "sum") (rC X.K sumD) := callC fun pins s σ H H0 xs us Q ds z I r s0 ha hf q => by
  unfold sumD at hf
  split at hf
  · rename_i c
    obtain ⟨x, rfl, h⟩ := da1 ha
    cases h4 : intsOf c with
    | none => rw [h4] at hf; cases hf
    | some ns =>
      rw [h4] at hf
      cases hf
      have e := intsOf_eq h4
      subst e
      cases h with
      | lst h1 h2 =>
        have e2 := h2.ints
        subst e2
        exact cr_sum hc pins s σ H _ us Q I r ⟨_, ns, rfl, ex_l s0 h1, q _ H0 H (Gr.refl s0) (.int _)⟩
  · cases hf
theorem c_all (hc : X.calm = true) : CallR X (.builtin "all") (rC X.K allD) := callC fun pins s σ H H0 xs us Q ds z I r s0 ha hf q => by
  unfold allD at hf
  split at hf
  · rename_i c
    obtain ⟨x, rfl, h⟩ := da1 ha
    cases h4 : boolsOf c with
    | none => rw [h4] at hf; cases hf
    | some ns =>
      rw [h4] at hf
      cases hf
      have e := boolsOf_eq h4
      subst e
      cases h with
      | lst h1 h2 =>
        have e2 := h2.bools
        subst e2
        exact cr_all hc pins s σ H _ us Q I r ⟨_, ns, rfl, ex_l s0 h1, q _ H0 H (Gr.refl s0) (.bl _)⟩
  · cases hf
theorem c_any (hc : X.calm = true) : CallR X (.builtin "any") (rC X.K anyD) := callC fun pins s σ H H0 xs us Q ds z I r s0 ha hf q => by
  unfold anyD at hf
  split at hf
  · rename_i c
    obtain ⟨x, rfl, h⟩ := da1 ha
    cases h4 : boolsOf c with
    | none => rw [h4] at hf; cases hf
    | some ns =>
      rw [h4] at hf
      cases hf
      have e := boolsOf_eq h4
      subst e
      cases h with
      | lst h1 h2 =>
        have e2 := h2.bools
        subst e2
        exact cr_any hc pins s σ H _ us Q I r ⟨_, ns, rfl, ex_l s0 h1, q _ H0 H (Gr.refl s0) (.bl _)⟩
  · cases hf
theorem c_repr (hg : X.A.guards = some []) (hu : X.A.units + 65 < cLine) : CallR X (.builtin "repr") (rC X.K reprD) := callC fun pins s σ H H0 xs us Q ds z I r s0 ha hf q => by
  unfold reprD at hf
  split at hf
  · rename_i d
    split at hf
    · rename_i hc
      obtain ⟨h1, h2, h3, h4⟩ := hc
      cases hf
      obtain ⟨x, rfl, h⟩ := da1 ha
      obtain ⟨u, rfl, rx⟩ := vals1 r
      have fin : ∀ tk, EP X pins σ Q (.str d.shown tk) { s with toks := s.toks + 1 } := fun tk => ⟨.str d.shown, H, I.tok _, ⟨tk, rfl⟩, q _ H0 H (Gr.refl s0) (.str _)⟩
      have onref : ∀ a, u = Value.ref a → (∃ as, Reads s.heap u d as ∧ (d.hasDict = true → sysModules ∉ as)) → wpAny (model X.prog X.w) X.A (call (.builtin "repr") [u]) (EP X pins σ Q) X.xe s := fun a eu ⟨as, r1, r2⟩ => by
        subst eu
        exact repr_of_reads' r1 h1 r2 hg (by omega) (fun _ _ e => e) (fun h' tk tk2 hk => ⟨.str d.shown, H, I.kept (t' := tk2) hk, ⟨tk, rfl⟩, q _ H0 H (Gr.refl s0) (.str _)⟩) h3
      cases h with
      | non =>
        cases rx
        exact PySem.P.repr_of_none (fin _)
      | bl b =>
        cases rx
        exact PySem.P.repr_of_bool (fin _)
      | int i =>
        obtain ⟨t, rfl⟩ := rx
        exact PySem.P.repr_of_int (of_decide_eq_true h1) (fin _)
      | str y =>
        obtain ⟨t, rfl⟩ := rx
        exact PySem.P.repr_of_str (fin _) h3
      | @lst a vs es h5 h6 =>
        cases rx
        obtain ⟨as, r1⟩ := Da.reads I _ _ _ ((Da.lst h5 h6).mono s0) rfl
        refine onref a rfl ⟨as, r1, fun hd => ?_⟩
        simp [plainRepr] at h4
        rw [h4] at hd
        cases hd
      | @tup a vs es h5 h6 =>
        cases rx
        obtain ⟨as, r1⟩ := Da.reads I _ _ _ ((Da.tup h5 h6).mono s0) rfl
        refine onref a rfl ⟨as, r1, fun hd => ?_⟩
        simp [plainRepr] at h4
        rw [h4] at hd
        cases hd
      | @dct a h5 =>
        cases rx
        obtain ⟨r1, r2⟩ := rd_dict I (s0 _ _ h5)
        exact onref a rfl ⟨_, r1, fun _ => by simpa using r2.symm⟩
    · cases hf
  · cases hf
/-- f(..), f a built-in | a built-in type -/
theorem px_bi {id : String} {g : List PyData → Option PyData} (hc : CallR X (.builtin id) (rC X.K g)) (hg : Gl X x) (hm : X.mg x = none) (hv : bootBuiltins x = some (.builtin id)) (ha : PXA X (e :: es) ra) (hn : x ≠ "__name__" := by decide) (hdb : (x == ("__debug__" : Str)) = false := by decide)
    (he : starEach (e :: es) X.env = (false, eval e X.env) :: starEach es X.env := by rfl) (hpl : (backTo pos (starEach es X.env)).any (·.1) = false := by rfl) : PX X (.Call (.Name x p) (e :: es) [] pos) (xCall g ra) := pe_imp (pe_callB hc hg hm hv ha hn hdb he hpl) fun _ _ _ q => to_call q
theorem px_ty {T : String} {g : List PyData → Option PyData} (hc : CallR X (.type T) (rC X.K g)) (hg : Gl X x) (hm : X.mg x = none) (hv : bootBuiltins x = some (.type T)) (ha : PXA X (e :: es) ra) (hn : x ≠ "__name__" := by decide) (hdb : (x == ("__debug__" : Str)) = false := by decide)
    (he : starEach (e :: es) X.env = (false, eval e X.env) :: starEach es X.env := by rfl) (hpl : (backTo pos (starEach es X.env)).any (·.1) = false := by rfl) : PX X (.Call (.Name x p) (e :: es) [] pos) (xCall g ra) := pe_imp (pe_callTy hc hg hm hv ha hn hdb he hpl) fun _ _ _ q => to_call q
/-- isinstance(e, T) -/
theorem da_ty {K : PySem.W.Frag} {H0 H : Hp} {v : V} {d : PyData} (s : Ex H0 H) (h : Da K H0 v d) : TyX K H v (.type (typeN d)) := by
  cases h with
  | non => exact .base .non
  | bl b => exact .base (.bl b)
  | int i => exact .base (.int i)
  | str x => exact .base (.str x)
  | lst h1 h2 =>
    rcases h1 with (h1 | ⟨o, h1⟩) | ⟨o, its, n, h1, h3, _⟩
    · exact .base (.lst (s _ _ h1))
    · exact .base (.frz (s _ _ h1))
    · exact .kList h1 h3
  | tup h1 h2 => exact .base (.tup (s _ _ h1))
  | dct h1 => exact .base (.dK (s _ _ h1))
theorem px_isi {T : Str} {t : String} (hg : Gl X "isinstance") (hm : X.mg "isinstance" = none) (ha : PX X e xe) (hgT : Gl X T) (hmT : X.mg T = none) (hvT : bootBuiltins T = some (.type t)) (hnT : T ≠ "__name__" := by decide) (hdT : (T == ("__debug__" : Str)) = false := by decide)
    (he : starEach [e, .Name T p2] X.env = (false, eval e X.env) :: starEach [.Name T p2] X.env := by rfl) (hs2 : starEach [.Name T p2] X.env = (false, eval (.Name T p2) X.env) :: starEach [] X.env := by rfl) (hpl : (backTo pos (starEach [.Name T p2] X.env)).any (·.1) = false := by rfl) :
    PX X (.Call (.Name "isinstance" p) [e, .Name T p2] [] pos) (xUn (isiD t) xe) :=
  pe_imp (pe_callB call_isi hg hm (by decide +kernel) (pa_cons ha (pa_cons (pe_bltn (v := .ty t) hgT hmT hvT rfl hnT hdT) pa_nil hs2) he) (by decide) (by decide) he hpl) fun σ H Q q => by
    obtain ⟨as, ρ, os, H0, d, os', n, hx, k⟩ := q
    obtain ⟨x, h1, h3⟩ := xUn_some hx
    refine ⟨as, ρ, os, H0, x, os', n, h1, fun v H0' H' n1 g1 r1 => ?_⟩
    unfold isiD at h3
    cases h4 : kitB (typeN x) t with
    | none => rw [h4] at h3; cases h3
    | some b =>
      rw [h4] at h3
      cases h3
      exact ⟨v, .ty t, _, _, b, rfl, .ty t, da_ty n1.sub r1, kit_ty h4, k _ H0' H' n1 g1 (.bl b)⟩
/-- e.bit_length() -/
def bitsD : PyData → Option PyData
  | .int i => some (.int (Builtin.Int.intBits i : Nat))
  | _ => none
theorem px_bits (h : PE X e (tBits (teO X.K xe))) : PX X e (xUn bitsD xe) := pe_imp h fun σ H Q q => by
  obtain ⟨as, ρ, os, H0, d, os', n, hx, k⟩ := q
  obtain ⟨x, h1, h3⟩ := xUn_some hx
  refine ⟨as, ρ, os, H0, x, os', n, h1, fun v H0' H' n1 g1 r1 => ?_⟩
  cases r1 with
  | int i =>
    cases h3
    exact ⟨i, rfl, k _ H0' H' n1 g1 (.int _)⟩
  | _ => cases h3
/-- e[i] -/
def ixD : PyData → PyData → Option PyData
  | .list c, .int i => atI c i
  | .tuple c, .int i => atI c i
  | .str z, .int i => if z.length ≤ sizeLine then (atI z.cps.toList i).map fun c => .str ⟨#[c]⟩ else none
  | _, _ => none
theorem ixr_D : IxR X (rD X.K ixD) := by
  intro value slice pins s σ H x y v u Q I rx ry q hs
  obtain ⟨H0, d, e, z, s0, hd, he, hf, q⟩ := q
  refine ix_seq value slice pins s σ H x y v u Q I rx ry ?_ hs
  cases he with
  | int i =>
    cases hd with
    | lst h1 h2 =>
      obtain ⟨w, h3, h4⟩ := h2.atI hf
      exact .inl ⟨_, _, i, w, rfl, rfl, ex_l s0 h1, h3, q w H0 H (Gr.refl s0) h4⟩
    | tup h1 h2 =>
      obtain ⟨w, h3, h4⟩ := h2.atI hf
      exact .inr (.inl ⟨_, _, i, w, rfl, rfl, SqT.of (s0 _ _ h1), h3, q w H0 H (Gr.refl s0) h4⟩)
    | str z =>
      simp only [ixD] at hf
      split at hf
      · rename_i hz
        cases h5 : atI z.cps.toList i with
        | none => rw [h5] at hf; cases hf
        | some c =>
          rw [h5] at hf
          cases hf
          exact .inr (.inr ⟨z, i, c, rfl, rfl, hz, h5, q _ H0 H (Gr.refl s0) (.str _)⟩)
      · cases hf
    | _ => cases hf
  | _ => cases hd <;> cases hf
theorem px_ix (ha : PX X a xa) (hb : PX X b xb) (hs : PlainIx b) : PX X (.Subscript a b pos) (xOp ixD xa xb) := pe_imp (pe_ix ixr_D ha hb hs) fun _ _ _ q => to_op q
/-- e[lo:hi] of a list -/
abbrev XO := List Sl → Os → Option (Option Int × Os)
def toO (K : PySem.W.Frag) (x : XO) : TO := fun σ H Q => ∃ as ρ os H0 r os', En K as ρ os σ H0 H ∧ x ρ os = some (r, os') ∧ ∀ H0' H', En K as ρ os' σ H0' H' → Gr as H0 H H0' H' → Q r H'
abbrev PXO (X : Cx) (e : Option Expr) (x : XO) : Prop := PO X e (toO X.K x)
def oNone : XO := fun _ os => some (none, os)
def oSome (xe : XE) : XO := fun ρ os => (xe ρ os).bind fun p => match p.1 with
  | .int i => some (some i, p.2)
  | _ => none
theorem po_imp {e : Option Expr} {t t' : TO} (h : PO X e t) (k : ∀ σ H Q, t' σ H Q → t σ H Q) : PO X e t' := ⟨fun pins s σ H Q I q => h.run pins s σ H Q I (k _ _ _ q)⟩
theorem pxo_none : PXO X none oNone := po_imp po_none fun σ H Q q => by
  obtain ⟨as, ρ, os, H0, r, os', n, hx, k⟩ := q
  cases hx
  exact k H0 H n (Gr.refl n.sub)
theorem pxo_some (h : PX X e xe) : PXO X (some e) (oSome xe) := po_imp (po_some h) fun σ H Q q => by
  obtain ⟨as, ρ, os, H0, r, os', n, hx, k⟩ := q
  unfold oSome at hx
  cases h1 : xe ρ os with
  | none => rw [h1] at hx; cases hx
  | some p =>
    obtain ⟨d, os1⟩ := p
    rw [h1, Option.bind_some] at hx
    cases d with
    | int i =>
      cases hx
      refine ⟨as, ρ, os, H0, _, _, n, h1, fun v H0' H' n1 g1 r1 => ?_⟩
      cases r1
      exact ⟨i, rfl, k H0' H' n1 g1⟩
    | _ => cases hx
def cutD {α : Type} (xs : List α) (lo hi : Option Int) : List α := (xs.drop (HT.sIx xs.length 0 lo)).take (HT.sIx xs.length xs.length hi - HT.sIx xs.length 0 lo)
theorem DaAll.cut {K : PySem.W.Frag} {H : Hp} {vs : List V} {ds : List PyData} (h : DaAll K H vs ds) (lo hi : Option Int) : DaAll K H (cutV vs lo hi) (cutD ds lo hi) := by
  unfold cutV cutD
  rw [h.len]
  exact (h.drop _).take _
def xSl (xe : XE) (lo hi : XO) : XI := fun ρ os => (xe ρ os).bind fun p => (lo ρ p.2).bind fun l => (hi ρ l.2).bind fun u => match p.1 with
  | .list ds => some (cutD ds l.1 u.1, u.2)
  | _ => none
theorem pxf_slice {lo hi : Option Expr} {xl xh : XO} (he : PX X e xe) (hl : PXO X lo xl) (hu : PXO X hi xh) : PXF X (.Subscript e (.Slice lo hi none p2) pos) (xSl xe xl xh) := pe_imp (pe_slice sl_list he hl hu) fun σ H Q q => by
  obtain ⟨as, ρ, os, H0, ds, os', n, hx, k⟩ := q
  unfold xSl at hx
  cases h1 : xe ρ os with
  | none => rw [h1] at hx; cases hx
  | some p =>
    obtain ⟨d, os1⟩ := p
    rw [h1, Option.bind_some] at hx
    cases h2 : xl ρ os1 with
    | none => simp only [h2] at hx; cases hx
    | some l =>
      simp only [h2, Option.bind_some] at hx
      cases h3 : xh ρ l.2 with
      | none => rw [h3] at hx; cases hx
      | some u =>
        rw [h3, Option.bind_some] at hx
        cases d with
        | list cs =>
          cases hx
          refine ⟨as, ρ, os, H0, _, os1, n, h1, fun v H0' H' n1 g1 r1 => ⟨as, ρ, os1, H0', l.1, l.2, n1, h2, fun H2' H2 n2 g2 => ⟨as, ρ, l.2, H2', u.1, u.2, n2, h3, fun H3' H3 n3 g3 => ?_⟩⟩⟩
          have r3 := Da.mono (g2.e0.trans g3.e0) _ _ r1
          cases r3 with
          | lst h4 h5 =>
            refine ⟨_, _, rfl, ex_l n3.sub h4, fun p hp => ?_⟩
            have h0 : H3' p = none := fresh_back n3.sub hp
            have nD : p ∉ as := fun z => n3.ow.trk p z hp
            have gg := (g1.tr g2).tr g3
            refine k p _ H3' _ ?_ (n3.away nD (fun a h => upd_ne h) (by rw [upd_same]; simp) h0) ⟨gg.e0, fun a o h e => ?_, gg.nw, fun a h => ?_, fun a o e => ?_⟩ h0 nD upd_same (h5.cut _ _)
            · cases z : H p with
              | none => rfl
              | some u => exact absurd hp (gg.kp p (by rw [z]; simp))
            · have e2 := gg.e1 a o h e
              rw [upd_ne (ne_of_none e2 hp)]
              exact e2
            · have e2 := gg.kp a h
              rw [upd_ne (fun z => e2 (by rw [z]; exact hp))]
              exact e2
            · have e2 := gg.sub a o e
              rw [upd_ne (ne_of_none e2 hp)]
              exact e2
        | _ => cases hx
/-- a new list from a display, from + -/
theorem fresh_up {as : List Addr} {H0 H H3' H3 : Hp} {p : Addr} {o : HO} (gg : Gr as H0 H H3' H3) (hp : H3 p = none) : Gr as H0 H H3' (upd H3 p o) ∧ H p = none := by
  refine ⟨⟨gg.e0, fun a o h e => ?_, gg.nw, fun a h => ?_, fun a o e => ?_⟩, ?_⟩
  · have e2 := gg.e1 a o h e
    rw [upd_ne (ne_of_none e2 hp)]
    exact e2
  · have e2 := gg.kp a h
    rw [upd_ne (fun z => e2 (by rw [z]; exact hp))]
    exact e2
  · have e2 := gg.sub a o e
    rw [upd_ne (ne_of_none e2 hp)]
    exact e2
  · cases z : H p with
    | none => rfl
    | some u => exact absurd hp (gg.kp p (by rw [z]; simp))
def fLst (ra : XA) : XI := fun ρ os => (ra ρ os).bind fun p => (datas p.1).bind fun ds => if ds.length ≤ sizeLine then some (ds, p.2) else none
theorem pxf_lst (h : PXA X es ra) : PXF X (.List es pos) (fLst ra) := pe_imp (pe_lst h) fun σ H Q q => by
  obtain ⟨as, ρ, os, H0, ds, os', n, hx, k⟩ := q
  unfold fLst at hx
  cases h1 : ra ρ os with
  | none => rw [h1] at hx; cases hx
  | some p =>
    obtain ⟨ss, os1⟩ := p
    rw [h1, Option.bind_some] at hx
    cases h2 : datas ss with
    | none => simp only [h2] at hx; cases hx
    | some es =>
      simp only [h2, Option.bind_some] at hx
      split at hx
      · rename_i hz
        cases hx
        refine ⟨as, ρ, os, H0, ss, os', n, h1, fun vs H1 H1' n1 g1 r1 => ?_⟩
        have r2 := args_datas r1 h2
        refine ⟨by rw [r2.len]; exact hz, fun p hp => ?_⟩
        have h0 : H1 p = none := fresh_back n1.sub hp
        have nD : p ∉ as := fun z => n1.ow.trk p z hp
        obtain ⟨g2, e2⟩ := fresh_up (o := .lst vs) g1 hp
        exact k p _ H1 _ e2 (n1.away nD (fun a h => upd_ne h) (by rw [upd_same]; simp) h0) g2 h0 nD upd_same r2
      · cases hx
end
end DL

set_option Elab.async false
set_option linter.all false
set_option maxRecDepth 100000
set_option maxHeartbeats 4000000
namespace DL
open PySem PySem.Spec PyProof.Rows L2 Evl

/-! ### defs: the promise "hands back what the mirror gives", where no builtin of the guarded kind runs around -/
structure Rm (k : Nat) (A : Around) : Prop where
  room : Room k A
  gd : A.guards = some []
theorem Rm.mono {j k : Nat} {A : Around} (r : Rm k A) (h : j ≤ k) : Rm j A := ⟨r.room.mono h, r.gd⟩
structure FnG (P : Program) (w : World) (K : PySem.W.Frag) (mg : Str → Option Value) (base : Heap) (k : Nat) (f : Addr) (fd : FuncData) (n : Nat) (ps : List Str) (sp : Sp) : Prop where
  pl : ps.length = n
  len : ∀ vs H Q E, sp vs H Q E → vs.length = n
  run : ∀ (A : Around) (outer : List Env) (s : Shared) (H : Hp) (args : Args) (us : List Value) (vs : List V) (Q : VK) (E : XK), Rm k A → Env0 P w K mg base A outer s H → BindsTo s fd args (ps.zip us) → Vals vs us → sp vs H Q E →
    codeAny (model P w) A (.call (.ref f) args) (CR (L2.CX P w) outer P w H s Q E) s
theorem FnG.mono {P : Program} {w : World} {K : PySem.W.Frag} {mg : Str → Option Value} {base : Heap} {j k n : Nat} {f : Addr} {fd : FuncData} {ps : List Str} {sp : Sp} (F : FnG P w K mg base j f fd n ps sp) (h : j ≤ k) : FnG P w K mg base k f fd n ps sp :=
  ⟨F.pl, F.len, fun A outer s H args us vs Q E hr => F.run A outer s H args us vs Q E (hr.mono h)⟩

abbrev XM := List Sl → Os → Option (PyData × Os)
abbrev XMF := List Sl → Os → Option (List PyData × Os)
def spM (K : PySem.W.Frag) (n : Nat) (M : XM) : Sp := fun vs H Q _ => vs.length = n ∧ ∃ as ss os H0 d os', Ex H0 H ∧ Own K as os H0 H ∧ ArgsOk K as H0 vs ss ∧ M ss os = some (d, os') ∧
  ∀ v H0' H', Own K as os' H0' H' → Gr as H0 H H0' H' → Da K H0' v d → Q v H'
def spF (K : PySem.W.Frag) (n : Nat) (M : XMF) : Sp := fun vs H Q _ => vs.length = n ∧ ∃ as ss os H0 ds os', Ex H0 H ∧ Own K as os H0 H ∧ ArgsOk K as H0 vs ss ∧ M ss os = some (ds, os') ∧
  ∀ p vs H0' H', H p = none → Own K as os' H0' H' → Gr as H0 H H0' H' → H0' p = none → H' p = some (.lst vs) → DaAll K H0' vs ds → Q (.ref p) H'
def slLt (n : Nat) : Sl → Bool
  | .o k => decide (k < n)
  | _ => true
def obLt (n : Nat) : Ob → Bool
  | .r xs => xs.all (slLt n)
  | .t xs => xs.all (slLt n)
  | .i _ fs => fs.all fun p => slLt n p.2
  | _ => true
def oLt (n : Nat) : Option Ob → Bool
  | some ob => obLt n ob
  | none => true
/-- what is left of the objects when a def ends: the caller's, if they lean on no newer one -/
def cutW (n : Nat) (w : Os) : Option Os := if (w.take n).all (oLt n) = true then some (w.take n) else none
def mOf (n N : Nat) (s : SE) : XM := fun ss os => if ss.length = n then (s (ss ++ List.replicate (N - n) .u) os).bind fun o => match o with
  | .rt d w => (cutW os.length w).map fun w' => (d, w')
  | .nx _ w => (cutW os.length w).map fun w' => (.none, w')
  | _ => none
  else none
def mOfF (n N : Nat) (s : Nat → SE) : XMF := fun ss os => if ss.length = n then (s os.length (ss ++ List.replicate (N - n) .u) os).bind fun o => match o with
  | .rt (.list ds) w => (cutW os.length w).map fun w' => (ds, w')
  | _ => none
  else none
/-- a def that may let an error out -/
inductive Rs where
  | rt (d : PyData)
  | ex (C : Addr) (x : Sl)
abbrev XMX := List Sl → Os → Option (Rs × Os)
def spX (K : PySem.W.Frag) (n : Nat) (M : XMX) : Sp := fun vs H Q E => vs.length = n ∧ ∃ as ss os H0 r os', Ex H0 H ∧ Own K as os H0 H ∧ ArgsOk K as H0 vs ss ∧ M ss os = some (r, os') ∧ match r with
  | .rt d => ∀ v H0' H', Own K as os' H0' H' → Gr as H0 H H0' H' → Da K H0' v d → Q v H'
  | .ex C x => ∀ d v H0' H', Own K as os' H0' H' → Gr as H0 H H0' H' → H0' d = some (.xd [("value", v)]) → ArgOk K as H0' v x → E (.ref C) (some d) H'
def mOfX (n N : Nat) (s : SE) : XMX := fun ss os => if ss.length = n then (s (ss ++ List.replicate (N - n) .u) os).bind fun o => match o with
  | .rt d w => (cutW os.length w).map fun w' => (.rt d, w')
  | .nx _ w => (cutW os.length w).map fun w' => (.rt .none, w')
  | .ex C x _ w => if slLt os.length x = true then (cutW os.length w).map fun w' => (.ex C x, w') else none
  | _ => none
  else none
/-- a def that makes objects, held by those that it was given: nothing is left out -/
def spN (K : PySem.W.Frag) (n : Nat) (M : XM) : Sp := fun vs H Q _ => vs.length = n ∧ ∃ as ss os H0 d os', Ex H0 H ∧ Own K as os H0 H ∧ ArgsOk K as H0 vs ss ∧ M ss os = some (d, os') ∧
  ∀ v as' H0' H', Exs as H as' → Own K as' os' H0' H' → Gr as H0 H H0' H' → Da K H0' v d → Q v H'
def mOfN (n N : Nat) (s : SE) : XM := fun ss os => if ss.length = n then (s (ss ++ List.replicate (N - n) .u) os).bind fun o => match o with
  | .rt d w => some (d, w)
  | .nx _ w => some (.none, w)
  | _ => none
  else none
section
variable {P : Program} {w : World} {K : PySem.W.Frag} {mg : Str → Option Value} {base : Heap}
theorem args_len {as : List Addr} {H0 : Hp} : ∀ {vs : List V} {ss : List Sl}, ArgsOk K as H0 vs ss → vs.length = ss.length
  | [], [], _ => rfl
  | _ :: _, [], h => h.elim
  | [], _ :: _, h => h.elim
  | _ :: vs, _ :: ss, h => by rw [List.length_cons, List.length_cons, args_len h.2]
theorem args_at {as : List Addr} {H0 : Hp} : ∀ {vs : List V} {ss : List Sl} {i : Nat} {s : Sl}, ArgsOk K as H0 vs ss → ss[i]? = some s → ∃ v, vs[i]? = some v ∧ ArgOk K as H0 v s
  | [], [], _, _, _, h => by simp at h
  | _ :: _, [], _, _, h, _ => h.elim
  | [], _ :: _, _, _, h, _ => h.elim
  | v :: vs, s :: ss, 0, _, h, e => by
    simp at e
    subst e
    exact ⟨v, rfl, h.1⟩
  | v :: vs, s :: ss, i + 1, _, h, e => by
    obtain ⟨u, h1, h2⟩ := args_at (i := i) h.2 (by simpa using e)
    exact ⟨u, by simpa using h1, h2⟩
/-- the names at the entry -/
theorem en_start {as : List Addr} {H0 H : Hp} {vs : List V} {ss : List Sl} {os : Os} {N : List Str} {n : Nat} (hs : Ex H0 H) (ow : Own K as os H0 H) (ha : ArgsOk K as H0 vs ss) (hn : ss.length = n) (hN : n ≤ N.length) :
    En K as (ss ++ List.replicate (N.length - n) .u) os (L2.start N vs) H0 H := by
  have hl := args_len ha
  refine ⟨hs, ?_, fun i x h => ?_, fun i k h => ?_, ow⟩
  · unfold L2.start
    simp
    omega
  · by_cases hi : i < ss.length
    · rw [List.getElem?_append_left hi] at h
      obtain ⟨v, h1, h2⟩ := args_at ha h
      refine ⟨v, ?_, h2⟩
      unfold L2.start
      rw [List.getElem?_append_left (by simp; omega), List.getElem?_map, h1]
      rfl
    · rw [List.getElem?_append_right (by omega), List.getElem?_replicate] at h
      split at h <;> cases h
  · by_cases hi : i < ss.length
    · rw [List.getElem?_append_left hi] at h
      obtain ⟨v, h1, a, h2, h3⟩ := args_at ha h
      subst h3
      refine ⟨a, h2, ?_⟩
      unfold L2.start
      rw [List.getElem?_append_left (by simp; omega), List.getElem?_map, h1]
      rfl
    · rw [List.getElem?_append_right (by omega), List.getElem?_replicate] at h
      split at h <;> cases h
theorem argOk_cut {as bs : List Addr} {H0 : Hp} {v : V} {s : Sl} (h : ArgOk K (as ++ bs) H0 v s) (l : slLt as.length s = true) : ArgOk K as H0 v s := by
  cases s with
  | u => exact h
  | d x => exact h
  | o k =>
    obtain ⟨a, h1, h2⟩ := h
    have hk : k < as.length := by simpa [slLt] using l
    exact ⟨a, by rw [List.getElem?_append_left hk] at h1; exact h1, h2⟩
theorem argsOk_cut {as bs : List Addr} {H0 : Hp} : ∀ {vs : List V} {ss : List Sl}, ArgsOk K (as ++ bs) H0 vs ss → ss.all (slLt as.length) = true → ArgsOk K as H0 vs ss
  | [], [], h, _ => h
  | _ :: _, _ :: _, h, l => by
    rw [List.all_cons, Bool.and_eq_true] at l
    exact ⟨argOk_cut h.1 l.1, argsOk_cut h.2 l.2⟩
  | [], _ :: _, h, _ => h.elim
  | _ :: _, [], h, _ => h.elim
theorem fsOk_cut {as bs : List Addr} {H0 : Hp} : ∀ {vs : List (Str × V)} {ss : List (Str × Sl)}, FsOk K (as ++ bs) H0 vs ss → (ss.all fun p => slLt as.length p.2) = true → FsOk K as H0 vs ss
  | [], [], h, _ => h
  | _ :: _, _ :: _, h, l => by
    rw [List.all_cons, Bool.and_eq_true] at l
    exact ⟨h.1, argOk_cut h.2.1 l.1, fsOk_cut h.2.2 l.2⟩
  | [], _ :: _, h, _ => h.elim
  | _ :: _, [], h, _ => h.elim
theorem cont_cut {as bs : List Addr} {H0 : Hp} {o : HO} {b : Ob} (h : Cont K (as ++ bs) H0 o b) (l : obLt as.length b = true) : Cont K as H0 o b := by
  cases b with
  | l ds => obtain ⟨vs, rfl, r⟩ := h.l_of; exact r
  | r xs => obtain ⟨vs, rfl, r⟩ := h.r_of; exact argsOk_cut r l
  | k ps => obtain ⟨vs, rfl, r⟩ := h.k_of; exact r
  | T ps => obtain ⟨vs, rfl, r⟩ := h.T_of; exact r
  | i C fs => obtain ⟨dx, gs, rfl, r⟩ := h.i_of; exact ⟨rfl, fsOk_cut r l⟩
  | g a b => obtain rfl := h.g_of; exact ⟨rfl, rfl⟩
  | t xs => obtain ⟨vs, rfl, r⟩ := h.t_of; exact argsOk_cut r l
theorem Own.cut {as as' : List Addr} {os' os2 : Os} {H H0' H' : Hp} (e : Exs as H as') (w : Own K as' os' H0' H') (c : cutW as.length os' = some os2) : Own K as os2 H0' H' := by
  obtain ⟨bs, rfl, _⟩ := e
  unfold cutW at c
  split at c
  · rename_i hc
    cases c
    have hl := w.len
    have hnd := w.nd
    rw [List.nodup_append] at hnd
    refine ⟨hnd.1, ?_, fun a ha => w.trk a (List.mem_append_left _ ha), fun k a ds h1 h2 => ?_⟩
    · rw [List.length_take]
      simp at hl
      omega
    · have hk := (List.getElem?_eq_some_iff.mp h1).1
      have hm := List.all_eq_true.mp hc _ (List.mem_of_getElem? h2)
      rw [List.getElem?_take_of_lt hk] at h2
      obtain ⟨q1, o, q2, q3⟩ := w.at_ k a ds (by rw [List.getElem?_append_left hk]; exact h1) h2
      exact ⟨q1, o, q2, cont_cut q3 hm⟩
  · cases c
/-- THE RULE for a def, by its body -/
theorem fn_g {x qual : Str} {st : Stmt} {f : Addr} {fd : FuncData} {N ps : List Str} {k n : Nat} {sp : Sp} (F : Fun K x qual st f fd) (S : FnScope N ps (defScope st)) (pl : ps.length = n) (len : ∀ vs H Q E, sp vs H Q E → vs.length = n)
    (hbody : ∀ (cdv : Value) (A : Around) (outer : List Env) (s : Shared) (H : Hp) (vs : List V) (Q : VK) (E : XK), Rm k (A.deeper (envOfC qual (defScope st) s.heap.objs.size f cdv)) → sp vs H Q E →
      ∃ t, PSs (cxOf (L2.CX P w) P w K mg base N qual (defScope st) f cdv A outer s H E).nox (defBody st) t ∧ t { nx := fun _ H' => Q .non H', rt := Q } (L2.start N vs) H) : FnG P w K mg base (k + 1) f fd n ps sp := by
  obtain ⟨oc, od, kV, doc, pm, an, cdv, ct, osl, rfl, lk, hcd⟩ := F.ex
  refine ⟨pl, len, fun A outer s H args us vs Q E hr e0 hb r hsp => ?_⟩
  have hl := len _ _ _ _ hsp
  have KX : K.In s.heap := e0.mod.kin.keeps fun b o e => (e0.bs b o e).1
  have lim : s.heap.NoLimit := e0.mod.nolimit.keeps fun b o e => (e0.bs b o e).1
  have hkind : ∀ y ∈ ps.zip us, (defScope st).names.lookup y.1 = some .local ∨ ((defScope st).names.lookup y.1 = some .cell ∧ ((cellsFrom (s.heap.objs.size + 1) (defScope st).names []).lookup y.1).isSome = true) := fun ⟨n, v⟩ hy =>
    (S.par n (List.of_mem_zip hy).1).imp id fun q => ⟨q, PySem.W.cellsFrom_some _ _ _ (.inl q)⟩
  refine codeAny_call_function hr.room.depth (KX _ _ lk) rfl S.co S.gen rfl (PySem.W.codeRec_of KX hcd) (hb _ _ _ _ ?_)
  refine wpAny_newFunctionEnv_cells S.kind hkind fun env he s1 x => ?_
  subst he
  refine ⟨lim.keeps x.toInCall.keep, codeAny_func ?_⟩
  obtain ⟨t, ht, hq⟩ := hbody cdv A outer s H vs Q E ⟨hr.room.deeper _, hr.gd⟩ hsp
  have I := inv_start (CX := L2.CX P w) (qual := qual) (E := E) S hr.room.hd e0 (by rw [pl]; exact hl) r x
  refine wpAny_mono (ht.nox.run [] s1 (L2.start N vs) H _ I hq) (fun fl s' hs => ?_) fun e s' hs => hs
  cases fl with
  | ret u =>
    obtain ⟨v, σ', H', J, rv, q⟩ := hs
    exact ⟨v, H', J.os, J.bare, J.base, J.hok, rv, q⟩
  | next =>
    obtain ⟨σ', H', J, q⟩ := hs
    exact ⟨.non, H', J.os, J.bare, J.base, J.hok, rfl, q⟩
  | brk => exact hs.elim fun _ h => h.elim fun _ h => h.2.elim
  | cont => exact hs.elim fun _ h => h.elim fun _ h => h.2.elim
/-- .. that may let an error out -/
theorem fn_gX {x qual : Str} {st : Stmt} {f : Addr} {fd : FuncData} {N ps : List Str} {k n : Nat} {sp : Sp} (F : Fun K x qual st f fd) (S : FnScope N ps (defScope st)) (pl : ps.length = n) (len : ∀ vs H Q E, sp vs H Q E → vs.length = n)
    (hbody : ∀ (cdv : Value) (A : Around) (outer : List Env) (s : Shared) (H : Hp) (vs : List V) (Q : VK) (E : XK), Rm k (A.deeper (envOfC qual (defScope st) s.heap.objs.size f cdv)) → sp vs H Q E →
      ∃ t, PSs (cxOf (L2.CX P w) P w K mg base N qual (defScope st) f cdv A outer s H E) (defBody st) t ∧ t { nx := fun _ H' => Q .non H', rt := Q } (L2.start N vs) H) : FnG P w K mg base (k + 1) f fd n ps sp := by
  obtain ⟨oc, od, kV, doc, pm, an, cdv, ct, osl, rfl, lk, hcd⟩ := F.ex
  refine ⟨pl, len, fun A outer s H args us vs Q E hr e0 hb r hsp => ?_⟩
  have hl := len _ _ _ _ hsp
  have KX : K.In s.heap := e0.mod.kin.keeps fun b o e => (e0.bs b o e).1
  have lim : s.heap.NoLimit := e0.mod.nolimit.keeps fun b o e => (e0.bs b o e).1
  have hkind : ∀ y ∈ ps.zip us, (defScope st).names.lookup y.1 = some .local ∨ ((defScope st).names.lookup y.1 = some .cell ∧ ((cellsFrom (s.heap.objs.size + 1) (defScope st).names []).lookup y.1).isSome = true) := fun ⟨n, v⟩ hy =>
    (S.par n (List.of_mem_zip hy).1).imp id fun q => ⟨q, PySem.W.cellsFrom_some _ _ _ (.inl q)⟩
  refine codeAny_call_function hr.room.depth (KX _ _ lk) rfl S.co S.gen rfl (PySem.W.codeRec_of KX hcd) (hb _ _ _ _ ?_)
  refine wpAny_newFunctionEnv_cells S.kind hkind fun env he s1 x => ?_
  subst he
  refine ⟨lim.keeps x.toInCall.keep, codeAny_func ?_⟩
  obtain ⟨t, ht, hq⟩ := hbody cdv A outer s H vs Q E ⟨hr.room.deeper _, hr.gd⟩ hsp
  have I := inv_start (CX := L2.CX P w) (qual := qual) (E := E) S hr.room.hd e0 (by rw [pl]; exact hl) r x
  refine wpAny_mono (ht.run [] s1 (L2.start N vs) H _ I hq) (fun fl s' hs => ?_) fun e s' hs => hs
  cases fl with
  | ret u =>
    obtain ⟨v, σ', H', J, rv, q⟩ := hs
    exact ⟨v, H', J.os, J.bare, J.base, J.hok, rv, q⟩
  | next =>
    obtain ⟨σ', H', J, q⟩ := hs
    exact ⟨.non, H', J.os, J.bare, J.base, J.hok, rfl, q⟩
  | brk => exact hs.elim fun _ h => h.elim fun _ h => h.2.elim
  | cont => exact hs.elim fun _ h => h.elim fun _ h => h.2.elim
theorem bs_start {as : List Addr} {H : Hp} : Bs none as H as H := ⟨fun n h => (nomatch h), Exs.refl, fun _ h => h⟩
theorem fn_m {x qual : Str} {st : Stmt} {f : Addr} {fd : FuncData} {N ps : List Str} {k : Nat} {sM : SE} (F : Fun K x qual st f fd) (S : FnScope N ps (defScope st))
    (hbody : ∀ (W : WX) (cdv : Value) (A : Around) (outer : List Env) (s : Shared) (H : Hp) (E : XK), Rm k (A.deeper (envOfC qual (defScope st) s.heap.objs.size f cdv)) →
      PSXs (cxOf (L2.CX P w) P w K mg base N qual (defScope st) f cdv A outer s H E).nox W none (defBody st) sM) : FnG P w K mg base (k + 1) f fd ps.length ps (spM K ps.length (mOf ps.length N.length sM)) := by
  refine fn_g F S rfl (fun vs H Q E h => h.1) fun cdv A outer s H vs Q E hr h => ⟨_, hbody (fun _ _ _ _ => True) cdv A outer s H E hr, ?_⟩
  obtain ⟨hlen, as, ss, os, H0, d, os', h1, h2, h3, h4, h5⟩ := h
  have hpl : ps.length ≤ N.length := by have := congrArg List.length S.pre; rw [List.length_take] at this; omega
  unfold mOf at h4
  split at h4
  · rename_i hn
    cases q : sM (ss ++ List.replicate (N.length - ps.length) .u) os with
    | none => rw [q] at h4; cases h4
    | some o =>
      rw [q, Option.bind_some] at h4
      refine ⟨as, H, as, _, os, H0, o, bs_start, en_start h1 h2 h3 hn hpl, q, ?_⟩
      cases o with
      | rt d2 w2 =>
        cases hc : cutW os.length w2 with
        | none => simp only [hc] at h4; cases h4
        | some w3 =>
          simp only [hc] at h4
          cases h4
          exact fun v as' H0' H' e2 n2 g2 r2 => h5 v H0' H' (Own.cut e2 n2 (by rw [h2.len]; exact hc)) g2 r2
      | nx r2 w2 =>
        cases hc : cutW os.length w2 with
        | none => simp only [hc] at h4; cases h4
        | some w3 =>
          simp only [hc] at h4
          cases h4
          exact fun as' σ' H0' H' e2 n2 g2 => h5 .non H0' H' (Own.cut e2 n2.ow (by rw [h2.len]; exact hc)) g2 .non
      | _ => cases h4
  · cases h4
/-- nothing is left out -/
theorem fn_n {x qual : Str} {st : Stmt} {f : Addr} {fd : FuncData} {N ps : List Str} {k : Nat} {sM : SE} (F : Fun K x qual st f fd) (S : FnScope N ps (defScope st))
    (hbody : ∀ (W : WX) (cdv : Value) (A : Around) (outer : List Env) (s : Shared) (H : Hp) (E : XK), Rm k (A.deeper (envOfC qual (defScope st) s.heap.objs.size f cdv)) →
      PSXs (cxOf (L2.CX P w) P w K mg base N qual (defScope st) f cdv A outer s H E).nox W none (defBody st) sM) : FnG P w K mg base (k + 1) f fd ps.length ps (spN K ps.length (mOfN ps.length N.length sM)) := by
  refine fn_g F S rfl (fun vs H Q E h => h.1) fun cdv A outer s H vs Q E hr h => ⟨_, hbody (fun _ _ _ _ => True) cdv A outer s H E hr, ?_⟩
  obtain ⟨hlen, as, ss, os, H0, d, os', h1, h2, h3, h4, h5⟩ := h
  have hpl : ps.length ≤ N.length := by have := congrArg List.length S.pre; rw [List.length_take] at this; omega
  unfold mOfN at h4
  split at h4
  · rename_i hn
    cases q : sM (ss ++ List.replicate (N.length - ps.length) .u) os with
    | none => rw [q] at h4; cases h4
    | some o =>
      rw [q, Option.bind_some] at h4
      refine ⟨as, H, as, _, os, H0, o, bs_start, en_start h1 h2 h3 hn hpl, q, ?_⟩
      cases o with
      | rt d2 w2 =>
        cases h4
        exact fun v as' H0' H' e2 n2 g2 r2 => h5 v as' H0' H' e2 n2 g2 r2
      | nx r2 w2 =>
        cases h4
        exact fun as' σ' H0' H' e2 n2 g2 => h5 .non as' H0' H' e2 n2.ow g2 .non
      | _ => cases h4
  · cases h4
/-- an error may leave -/
theorem fn_x {x qual : Str} {st : Stmt} {f : Addr} {fd : FuncData} {N ps : List Str} {k : Nat} {sM : SE} (F : Fun K x qual st f fd) (S : FnScope N ps (defScope st))
    (hbody : ∀ (cdv : Value) (A : Around) (outer : List Env) (s : Shared) (H : Hp) (E : XK), Rm k (A.deeper (envOfC qual (defScope st) s.heap.objs.size f cdv)) →
      PSXs (cxOf (L2.CX P w) P w K mg base N qual (defScope st) f cdv A outer s H E) (fun c d _ H => E c d H) none (defBody st) sM) : FnG P w K mg base (k + 1) f fd ps.length ps (spX K ps.length (mOfX ps.length N.length sM)) := by
  refine fn_gX F S rfl (fun vs H Q E h => h.1) fun cdv A outer s H vs Q E hr h => ⟨_, hbody cdv A outer s H E hr, ?_⟩
  obtain ⟨hlen, as, ss, os, H0, r, os', h1, h2, h3, h4, h5⟩ := h
  have hpl : ps.length ≤ N.length := by have := congrArg List.length S.pre; rw [List.length_take] at this; omega
  unfold mOfX at h4
  split at h4
  · rename_i hn
    cases q : sM (ss ++ List.replicate (N.length - ps.length) .u) os with
    | none => rw [q] at h4; cases h4
    | some o =>
      rw [q, Option.bind_some] at h4
      refine ⟨as, H, as, _, os, H0, o, bs_start, en_start h1 h2 h3 hn hpl, q, ?_⟩
      cases o with
      | rt d2 w2 =>
        cases hc : cutW os.length w2 with
        | none => simp only [hc] at h4; cases h4
        | some w3 =>
          simp only [hc] at h4
          cases h4
          exact fun v as' H0' H' e2 n2 g2 r2 => h5 v H0' H' (Own.cut e2 n2 (by rw [h2.len]; exact hc)) g2 r2
      | nx r2 w2 =>
        cases hc : cutW os.length w2 with
        | none => simp only [hc] at h4; cases h4
        | some w3 =>
          simp only [hc] at h4
          cases h4
          exact fun as' σ' H0' H' e2 n2 g2 => h5 .non H0' H' (Own.cut e2 n2.ow (by rw [h2.len]; exact hc)) g2 .non
      | ex C x r2 w2 =>
        simp only at h4
        split at h4
        · rename_i hx
          cases hc : cutW os.length w2 with
          | none => rw [hc] at h4; cases h4
          | some w3 =>
            rw [hc] at h4
            cases h4
            intro as' σ' H0' H' d v e2 n2 g2 hd ha
            refine h5 d v H0' H' (Own.cut e2 n2.ow (by rw [h2.len]; exact hc)) g2 hd ?_
            obtain ⟨bs, rfl, _⟩ := e2
            exact argOk_cut ha (by rw [h2.len]; exact hx)
        · cases h4
      | _ => cases h4
  · cases h4
theorem fn_f {x qual : Str} {st : Stmt} {f : Addr} {fd : FuncData} {N ps : List Str} {k : Nat} {sM : Nat → SE} (F : Fun K x qual st f fd) (S : FnScope N ps (defScope st))
    (hbody : ∀ (n0 : Nat) (W : WX) (cdv : Value) (A : Around) (outer : List Env) (s : Shared) (H : Hp) (E : XK), Rm k (A.deeper (envOfC qual (defScope st) s.heap.objs.size f cdv)) →
      PSXs (cxOf (L2.CX P w) P w K mg base N qual (defScope st) f cdv A outer s H E).nox W (some n0) (defBody st) (sM n0)) : FnG P w K mg base (k + 1) f fd ps.length ps (spF K ps.length (mOfF ps.length N.length sM)) := by
  refine fn_g F S rfl (fun vs H Q E h => h.1) fun cdv A outer s H vs Q E hr h => ?_
  obtain ⟨hlen, as, ss, os, H0, ds, os', h1, h2, h3, h4, h5⟩ := h
  refine ⟨_, hbody os.length (fun _ _ _ _ => True) cdv A outer s H E hr, ?_⟩
  have hpl : ps.length ≤ N.length := by have := congrArg List.length S.pre; rw [List.length_take] at this; omega
  unfold mOfF at h4
  split at h4
  · rename_i hn
    cases q : sM os.length (ss ++ List.replicate (N.length - ps.length) .u) os with
    | none => rw [q] at h4; cases h4
    | some o =>
      rw [q, Option.bind_some] at h4
      refine ⟨as, H, as, _, os, H0, o, ⟨fun n hn => by cases hn; exact h2.len, Exs.refl, fun _ h => h⟩, en_start h1 h2 h3 hn hpl, q, ?_⟩
      cases o with
      | rt d2 w2 =>
        cases d2 with
        | list es =>
          cases hc : cutW os.length w2 with
          | none => simp only [hc] at h4; cases h4
          | some w3 =>
            simp only [hc] at h4
            cases h4
            exact ⟨_, rfl, fun p vs as' H0' H' hp e2 n2 g2 r1 r2 r3 => h5 p vs H0' H' hp (Own.cut e2 n2 (by rw [h2.len]; exact hc)) g2 r1 r2 r3⟩
        | _ => cases h4
      | _ => cases h4
  · cases h4
end

/-! ### calls of defs -/
def xFn (M : XM) (ra : XA) : XE := fun ρ os => (ra ρ os).bind fun p => M p.1 p.2
def fFn (M : XMF) (ra : XA) : XI := fun ρ os => (ra ρ os).bind fun p => M p.1 p.2
theorem En.call {K : PySem.W.Frag} {as : List Addr} {ρ : List Sl} {os os' : Os} {σ : L2.St} {H0 H H0' H' : Hp} (n : En K as ρ os σ H0 H) (w : Own K as os' H0' H') (g : Gr as H0 H H0' H') : En K as ρ os' σ H0' H' :=
  ⟨g.sub, n.len, fun i x h => by
    obtain ⟨v, e1, r⟩ := n.dat i x h
    exact ⟨v, e1, Da.mono g.e0 _ _ r⟩, n.ref, w⟩
section
variable {X : Cx} {k n : Nat} {f : Addr} {fd : FuncData} {ps ks : List Str} {M : XM} {MF : XMF} {x : Str} {p pos : Pos} {e : Expr} {es : List Expr} {ra : XA} {kws : List Keyword} {sp : Sp}
theorem run_g {pins : List (Addr × Obj)} {σ : L2.St} {H : Hp} {s : Shared} {Q : VK} {us : List Value} {vs : List V} {args : Args} (F : FnG X.prog X.w X.K X.mg X.base k f fd n ps sp) (hr : Rm k X.A) (hb : BindsTo s fd args (ps.zip us))
    (I : Inv X pins σ H s) (r : Vals vs us) (h : sp vs H Q E0) : wpAny (model X.prog X.w) X.A (call (.ref f) args.pos args.kw) (EP X pins σ Q) X.xe s := by
  refine wpAny_call (codeAny_mono (F.run X.A X.stack s H args us vs Q E0 hr I.env0 hb r h) fun r s' hq => ?_)
  cases r with
  | error e => exact passL pins σ H s e s' I hq
  | ok fl =>
    cases fl with
    | ret u => exact I.after hq
    | _ => exact hq.elim
def tCallG (sp : Sp) (t : TA) : TE := fun σ H Q => t σ H fun vs H1 => sp vs H1 Q E0
theorem pe_callG (F : FnG X.prog X.w X.K X.mg X.base k f fd n ps sp) (hr : Rm k X.A) (hg : Gl X x) (hm : X.mg x = some (.ref f)) (hk : PySem.W.keepIn X.K (.ref f) = true) (hb : Binds X.K fd ps []) {t : TA}
    (ha : PA X (e :: es) t) (hdb : (x == ("__debug__" : Str)) = false := by decide) (he : starEach (e :: es) X.env = (false, eval e X.env) :: starEach es X.env := by rfl) (hpl : (backTo pos (starEach es X.env)).any (·.1) = false := by rfl) :
    PE X (.Call (.Name x p) (e :: es) [] pos) (tCallG sp t) := by
  refine ⟨fun pins s σ H Q I h => ?_⟩
  refine wpAny_Call_Name_kw (ld_glob I hg hm ?_ hdb)
  refine PySem.W.callWith_K (h₀ := X.base) I.ok.mod.kin hk (thn (ha.run pos pins s σ H _ I h) fun us s1 ⟨vs, H1, I1, r, q⟩ => ⟨I1.kIn, ?_⟩) he hpl
  have hl : us.length = ps.length := by rw [← r.length, F.pl]; exact F.len _ _ _ _ q
  refine run_g (args := ⟨us, []⟩) F hr ?_ I1 r q
  have := hb s1 us I1.kIn (by rw [List.append_nil]; exact hl)
  rw [List.append_nil] at this
  exact this
theorem pe_callG0 (F : FnG X.prog X.w X.K X.mg X.base k f fd n ps sp) (hr : Rm k X.A) (hg : Gl X x) (hm : X.mg x = some (.ref f)) (hk : PySem.W.keepIn X.K (.ref f) = true) (hb : Binds X.K fd ps []) (hdb : (x == ("__debug__" : Str)) = false := by decide) :
    PE X (.Call (.Name x p) [] [] pos) (tCallG sp tNil) := by
  refine ⟨fun pins s σ H Q I h => ?_⟩
  refine wpAny_Call_Name_kw (ld_glob I hg hm ?_ hdb)
  have hl : ([] : List Value).length = ps.length := by rw [F.pl]; exact F.len _ _ _ _ h
  refine PySem.W.callWith_K0 I.kIn hk (run_g (args := ⟨[], []⟩) F hr ?_ I .nil h)
  have := hb s [] I.kIn (by simpa using hl)
  simpa using this
/-- all by keywords, in the order ks; pm puts them in the parameters' order -/
structure KwBinds (fd : FuncData) (ps ks : List Str) (pm : {α : Type} → List α → List α) : Prop where
  to : ∀ (s : Shared) (ws : List Value), ws.length = ks.length → BindsTo s fd ⟨[], ks.zip ws⟩ (ps.zip (pm ws))
  rel : ∀ {zs : List V} {ws : List Value}, Vals zs ws → Vals (pm zs) (pm ws)
  arg : ∀ {K : PySem.W.Frag} {as : List Addr} {H0 : Hp} {zs : List V} {ss : List Sl}, ArgsOk K as H0 zs ss → ArgsOk K as H0 (pm zs) (pm ss)
def tCallKG (sp : Sp) (m : Nat) (pm : List V → List V) (t : TA) : TE := fun σ H Q => t σ H fun vs H1 => vs.length = m ∧ sp (pm vs) H1 Q E0
theorem pe_callKG {pm : {α : Type} → List α → List α} {m : Nat} (F : FnG X.prog X.w X.K X.mg X.base k f fd n ps sp) (hr : Rm k X.A) (hg : Gl X x) (hm : X.mg x = some (.ref f)) (hk : PySem.W.keepIn X.K (.ref f) = true) (hb : KwBinds fd ps ks pm) {t : TA} (hkm : ks.length = m)
    (hkw : PK X kws t) (hall : (backToKw pos (keywordEach kws X.env)).all (·.1.isSome) = true := by rfl) (hks : (backToKw pos (keywordEach kws X.env)).filterMap (·.1) = ks := by rfl) (hdb : (x == ("__debug__" : Str)) = false := by decide)
    (hpl : ((backTo pos (starEach [] X.env)).any (·.1) || (backToKw pos (keywordEach kws X.env)).any (·.1.isNone)) = false := by rfl) : PE X (.Call (.Name x p) [] kws pos) (tCallKG sp m pm t) := by
  refine ⟨fun pins s σ H Q I h => ?_⟩
  refine wpAny_Call_Name_kw (ld_glob I hg hm ?_ hdb)
  refine PySem.W.callWith_KW0 (h₀ := X.base) I.ok.mod.kin hk hall (thn (hkw.run pos pins s σ H _ I h) fun ws s1 ⟨zs, H1, I1, rz, hz, q⟩ => ⟨I1.kIn, ?_⟩) hpl
  rw [hks]
  exact run_g (args := ⟨[], ks.zip ws⟩) F hr (hb.to s1 ws (by rw [← rz.length, hz, hkm])) I1 (hb.rel rz) q
theorem to_fn {K : PySem.W.Frag} {σ : L2.St} {H : Hp} {Q : VK} (hl : ∀ ρ os ss os', ra ρ os = some (ss, os') → ss.length = n) (q : teO K (xFn M ra) σ H Q) : tCallG (spM K n M) (taO K ra) σ H Q := by
  obtain ⟨as, ρ, os, H0, d, os', n0, hx, k⟩ := q
  unfold xFn at hx
  cases h1 : ra ρ os with
  | none => rw [h1] at hx; cases hx
  | some p =>
    obtain ⟨ss, os1⟩ := p
    rw [h1, Option.bind_some] at hx
    exact ⟨as, ρ, os, H0, ss, os1, n0, h1, fun vs H1 H1' n1 g1 r1 => ⟨by rw [args_len r1]; exact hl _ _ _ _ h1, as, ss, os1, H1, d, os', n1.sub, n1.ow, r1, hx, fun v H2 H2' w2 g2 r2 => k v H2 H2' (n1.call w2 g2) (g1.tr g2) r2⟩⟩
theorem to_fnf {K : PySem.W.Frag} {σ : L2.St} {H : Hp} {Q : VK} (hl : ∀ ρ os ss os', ra ρ os = some (ss, os') → ss.length = n) (q : teF K (fFn MF ra) σ H Q) : tCallG (spF K n MF) (taO K ra) σ H Q := by
  obtain ⟨as, ρ, os, H0, d, os', n0, hx, k⟩ := q
  unfold fFn at hx
  cases h1 : ra ρ os with
  | none => rw [h1] at hx; cases hx
  | some p =>
    obtain ⟨ss, os1⟩ := p
    rw [h1, Option.bind_some] at hx
    refine ⟨as, ρ, os, H0, ss, os1, n0, h1, fun vs H1 H1' n1 g1 r1 => ⟨by rw [args_len r1]; exact hl _ _ _ _ h1, as, ss, os1, H1, d, os', n1.sub, n1.ow, r1, hx, fun p vs H2 H2' hp w2 g2 r2 r3 r4 => ?_⟩⟩
    refine k p vs H2 H2' ?_ (n1.call w2 g2) (g1.tr g2) r2 (fun z => n1.ow.trk p z hp) r3 r4
    cases z : H p with
    | none => rfl
    | some u => exact absurd hp (g1.kp p (by rw [z]; simp))
theorem to_fnk {K : PySem.W.Frag} {σ : L2.St} {H : Hp} {Q : VK} {m : Nat} {pm : {α : Type} → List α → List α} (hb : KwBinds fd ps ks pm) (hl : ∀ ρ os ss os', ra ρ os = some (ss, os') → ss.length = m ∧ (pm ss).length = n) (q : teO K (xFn (fun ss => M (pm ss)) ra) σ H Q) : tCallKG (spM K n M) m pm (taO K ra) σ H Q := by
  obtain ⟨as, ρ, os, H0, d, os', n0, hx, k⟩ := q
  unfold xFn at hx
  cases h1 : ra ρ os with
  | none => rw [h1] at hx; cases hx
  | some p =>
    obtain ⟨ss, os1⟩ := p
    rw [h1, Option.bind_some] at hx
    obtain ⟨l1, l2⟩ := hl _ _ _ _ h1
    exact ⟨as, ρ, os, H0, ss, os1, n0, h1, fun vs H1 H1' n1 g1 r1 => ⟨by rw [args_len r1]; exact l1, by rw [args_len (hb.arg r1)]; exact l2, as, pm ss, os1, H1, d, os', n1.sub, n1.ow, hb.arg r1, hx, fun v H2 H2' w2 g2 r2 => k v H2 H2' (n1.call w2 g2) (g1.tr g2) r2⟩⟩
theorem px_fn (F : FnG X.prog X.w X.K X.mg X.base k f fd n ps (spM X.K n M)) (hr : Rm k X.A) (hg : Gl X x) (hm : X.mg x = some (.ref f)) (hk : PySem.W.keepIn X.K (.ref f) = true) (hb : Binds X.K fd ps []) (ha : PXA X (e :: es) ra)
    (hl : ∀ ρ os ss os', ra ρ os = some (ss, os') → ss.length = n) (hdb : (x == ("__debug__" : Str)) = false := by decide) (he : starEach (e :: es) X.env = (false, eval e X.env) :: starEach es X.env := by rfl) (hpl : (backTo pos (starEach es X.env)).any (·.1) = false := by rfl) :
    PX X (.Call (.Name x p) (e :: es) [] pos) (xFn M ra) := pe_imp (pe_callG F hr hg hm hk hb ha hdb he hpl) fun _ _ _ q => to_fn hl q
theorem pxf_fn (F : FnG X.prog X.w X.K X.mg X.base k f fd n ps (spF X.K n MF)) (hr : Rm k X.A) (hg : Gl X x) (hm : X.mg x = some (.ref f)) (hk : PySem.W.keepIn X.K (.ref f) = true) (hb : Binds X.K fd ps []) (ha : PXA X (e :: es) ra)
    (hl : ∀ ρ os ss os', ra ρ os = some (ss, os') → ss.length = n) (hdb : (x == ("__debug__" : Str)) = false := by decide) (he : starEach (e :: es) X.env = (false, eval e X.env) :: starEach es X.env := by rfl) (hpl : (backTo pos (starEach es X.env)).any (·.1) = false := by rfl) :
    PXF X (.Call (.Name x p) (e :: es) [] pos) (fFn MF ra) := pe_imp (pe_callG F hr hg hm hk hb ha hdb he hpl) fun _ _ _ q => to_fnf hl q
theorem px_fnk {m : Nat} {pm : {α : Type} → List α → List α} (F : FnG X.prog X.w X.K X.mg X.base k f fd n ps (spM X.K n M)) (hr : Rm k X.A) (hg : Gl X x) (hm : X.mg x = some (.ref f)) (hk : PySem.W.keepIn X.K (.ref f) = true) (hb : KwBinds fd ps ks pm) (hkm : ks.length = m)
    (hkw : PK X kws (taO X.K ra)) (hl : ∀ ρ os ss os', ra ρ os = some (ss, os') → ss.length = m ∧ (pm ss).length = n) (hall : (backToKw pos (keywordEach kws X.env)).all (·.1.isSome) = true := by rfl) (hks : (backToKw pos (keywordEach kws X.env)).filterMap (·.1) = ks := by rfl) (hdb : (x == ("__debug__" : Str)) = false := by decide)
    (hpl : ((backTo pos (starEach [] X.env)).any (·.1) || (backToKw pos (keywordEach kws X.env)).any (·.1.isNone)) = false := by rfl) : PX X (.Call (.Name x p) [] kws pos) (xFn (fun ss => M (pm ss)) ra) :=
  pe_imp (pe_callKG F hr hg hm hk hb hkm hkw hall hks hdb hpl) fun _ _ _ q => to_fnk hb hl q
/-- a fresh one is data, too -/
theorem px_fnf (F : FnG X.prog X.w X.K X.mg X.base k f fd n ps (spF X.K n MF)) (hr : Rm k X.A) (hg : Gl X x) (hm : X.mg x = some (.ref f)) (hk : PySem.W.keepIn X.K (.ref f) = true) (hb : Binds X.K fd ps []) (ha : PXA X (e :: es) ra)
    (hl : ∀ ρ os ss os', ra ρ os = some (ss, os') → ss.length = n) (hdb : (x == ("__debug__" : Str)) = false := by decide) (he : starEach (e :: es) X.env = (false, eval e X.env) :: starEach es X.env := by rfl) (hpl : (backTo pos (starEach es X.env)).any (·.1) = false := by rfl) :
    PX X (.Call (.Name x p) (e :: es) [] pos) (xF (fFn MF ra)) := px_of_f (pxf_fn F hr hg hm hk hb ha hl hdb he hpl)
/-- keyword values -/
theorem pk_imp {t t' : TA} (h : PK X kws t) (k : ∀ σ H Q, t' σ H Q → t σ H Q) : PK X kws t' := ⟨fun pos pins s σ H Q I q => h.run pos pins s σ H Q I (k _ _ _ q)⟩
theorem pxk_nil : PK X [] (taO X.K xaNil) := pk_imp pk_nil fun σ H Q q => by
  obtain ⟨as, ρ, os, H0, d, os', n, hx, k⟩ := q
  cases hx
  exact k [] H0 H n (Gr.refl n.sub) True.intro
theorem pxk_d {nm : Option Str} {kpos : Pos} {xa : XE} (ha : PX X e xa) (hr : PK X kws (taO X.K ra)) : PK X (⟨nm, e, kpos⟩ :: kws) (taO X.K (xaD xa ra)) := pk_imp (pk_cons ha hr) fun σ H Q q => by
  obtain ⟨as, ρ, os, H0, d, os', n, hx, k⟩ := q
  unfold xaD at hx
  cases h1 : xa ρ os with
  | none => rw [h1] at hx; cases hx
  | some p =>
    rw [h1, Option.bind_some] at hx
    cases h2 : ra ρ p.2 with
    | none => rw [h2] at hx; cases hx
    | some q =>
      rw [h2] at hx
      cases hx
      refine ⟨as, ρ, os, H0, p.1, p.2, n, h1, fun v H0' H' n1 g1 r1 => ⟨as, ρ, p.2, H0', q.1, q.2, n1, h2, fun vs H2 H2' n2 g2 r2 => ?_⟩⟩
      exact k (v :: vs) H2 H2' n2 (g1.tr g2) ⟨Da.mono g2.e0 _ _ r1, r2⟩
end
/-- the number of arguments -/
theorem xaNil_len {ρ : List Sl} {os os' : Os} {ss : List Sl} (h : xaNil ρ os = some (ss, os')) : ss.length = 0 := by cases h; rfl
theorem xaD_len {xa : XE} {ra : XA} {m : Nat} (hr : ∀ ρ os ss os', ra ρ os = some (ss, os') → ss.length = m) (ρ : List Sl) (os : Os) (ss : List Sl) (os' : Os) (h : xaD xa ra ρ os = some (ss, os')) : ss.length = m + 1 := by
  unfold xaD at h
  cases h1 : xa ρ os with
  | none => rw [h1] at h; cases h
  | some p =>
    rw [h1, Option.bind_some] at h
    cases h2 : ra ρ p.2 with
    | none => rw [h2] at h; cases h
    | some q =>
      rw [h2] at h
      cases h
      rw [List.length_cons, hr _ _ _ _ h2]
theorem xaO_len {i : Nat} {ra : XA} {m : Nat} (hr : ∀ ρ os ss os', ra ρ os = some (ss, os') → ss.length = m) (ρ : List Sl) (os : Os) (ss : List Sl) (os' : Os) (h : xaO i ra ρ os = some (ss, os')) : ss.length = m + 1 := by
  unfold xaO at h
  split at h
  · cases h2 : ra ρ os with
    | none => rw [h2] at h; cases h
    | some q =>
      rw [h2] at h
      cases h
      rw [List.length_cons, hr _ _ _ _ h2]
  · cases h
end DL
namespace DL
open PySem PySem.Spec PyProof.Rows L2 Evl
/-! ### the law's own end -/
theorem end_g {P : Program} {w : World} {K : PySem.W.Frag} {mg mb : Str → Option Value} {k : Nat} {fa a : Addr} {fd : FuncData} {x : Str} {M : XM} {s1 : Shared} {vs : List Value} {ns : List Int}
    (KX : K.In s1.heap) (hns : s1.heap.Ns mainGlobals mg) (hb : s1.heap.Ns builtinsNs mb) (hbb : ∀ x : Str, x ≠ "__name__" → mb x = bootBuiltins x) (hlim : s1.heap.NoLimit) (hg : s1.gens = #[])
    (ha : s1.heap.get? a = some { cls := .type "list", data := .seq vs.toArray }) (hi : IntsAre vs ns) (hl : ns.length ≤ sizeLine) (hr : Rm k callerA)
    (F : ∀ base : Heap, K.In base → base.Ns mainGlobals mg → FnG P w K mg base k fa fd 1 [x] (spM K 1 M)) (hbind : ∀ (s : Shared) (u : Value), BindsTo s fd ⟨[u], []⟩ [(x, u)])
    (hM : ∃ w', M [.d (.list (ns.map PyData.int))] [] = some (.bool true, w')) :
    codeAny (model P w) callerA (.call (.ref fa) ⟨[.ref a], []⟩) (fun r s' => r = .ok (.ret (.bool true)) ∧ OldK s1.heap s'.heap ∧ s'.os = s1.os ∧ AllBare s'.gens) s1 := by
  have rv := vals_ints hi
  have lenV := hi.length
  have core : ∀ H : Hp, Only H → SqL K H a (ns.map V.int) → HOk P w H s1.heap → (∀ b, H b ≠ none → b = a) → (H a ≠ none → K.lookup a = none) →
      codeAny (model P w) callerA (.call (.ref fa) ⟨[.ref a], []⟩) (fun r s' => r = .ok (.ret (.bool true)) ∧ OldK s1.heap s'.heap ∧ s'.os = s1.os ∧ AllBare s'.gens) s1 := by
    intro H hO hS hok hA hK
    have other : ∀ {b : Addr} {o : Obj}, s1.heap.get? b = some o → (b = a → H a ≠ none → False) → H b = none := fun {b o} e n => by
      cases q : H b with
      | none => rfl
      | some u =>
        have e' := hA b (by rw [q]; simp)
        exact (n e' (by rw [← e', q]; simp)).elim
    have noA : ∀ {b : Addr} {o : Obj} {es : Array DictEntry} {ep : Nat}, s1.heap.get? b = some o → o.data = .dict es ep → H b = none := fun {b o es ep} e d => other e fun e' _ => by
      subst e'
      rw [ha] at e
      cases e
      have d' : Data.seq vs.toArray _ = Data.dict es ep := d
      cases d'
    have nsK : ∀ {b : Addr} {m : Str → Option Value}, s1.heap.Ns b m → (hidT s1.heap H).Ns b m := fun {b m} ⟨o, es, ep, e, d, r⟩ => ⟨o, es, ep, hidT_get e (noA e d), d, r⟩
    have hKb : K.In (hidT s1.heap H) := fun b o e => hidT_get (KX b o e) (other (KX b o e) fun e' hn => by
      subst e'
      rw [hK hn] at e
      cases e)
    obtain ⟨mc, l1, l2⟩ := hlim
    have hM1 : Mod K mg (hidT s1.heap H) := ⟨hKb, nsK hns, ⟨mb, nsK hb, hbb⟩, ⟨mc, nsK l1, l2⟩⟩
    have e0 : Env0 P w K mg (hidT s1.heap H) callerA [] s1 H := ⟨rfl, hM1, fun b o e => of_hidT e, Nat.le_of_eq (hidT_size _ _), trivial, fun b hb => absurd (show b ∈ ([] : List Addr) from hb) (by simp), hok, .of_eq hg⟩
    obtain ⟨w', hw⟩ := hM
    have hsp : spM K 1 M [.ref a] H (fun v _ => v = .bl true) E0 :=
      ⟨rfl, [], [.d (.list (ns.map PyData.int))], [], H, _, w', Ex.refl H, ⟨List.nodup_nil, rfl, fun _ h => absurd h (by simp), fun _ _ _ h => by simp at h⟩, ⟨.lst hS (DaAll.of_ints ns), True.intro⟩, hw, fun v H0' H' _ _ r => by cases r; rfl⟩
    refine codeAny_mono ((F _ hKb (nsK hns)).run callerA [] s1 H ⟨[.ref a], []⟩ [.ref a] [.ref a] _ _ hr e0 (hbind s1 (.ref a)) (.cons rfl .nil) hsp) fun r s' h => ?_
    cases r with
    | error e =>
      obtain ⟨_, _, _, _, _, _, _, _, _, _, _, _, z⟩ := h
      exact z.elim
    | ok fl =>
      cases fl with
      | ret u =>
        obtain ⟨v, H', os, bare, un, hok', r', q⟩ := h
        subst q
        obtain rfl : u = Value.bool true := r'
        refine ⟨rfl, OldK.of_keep fun b o e => ?_, os, bare⟩
        cases q : H b with
        | none => exact un.keep b o e q (fun z => absurd (show b ∈ ([] : List Addr) from z) (by simp)) (by simp)
        | some u =>
          rcases hO b with z | ⟨ob, xs, z⟩
          · rw [q] at z
            cases z
          · obtain ⟨e1, _⟩ := hok b _ z
            obtain ⟨e2, _⟩ := hok' b _ (un.frzs b ob _ z)
            rw [e] at e1
            cases e1
            exact e2
      | _ => exact h.elim
  cases hk : K.lookup a with
  | some o =>
    have e := KX a o hk
    rw [ha] at e
    cases e
    exact core (fun _ => none) (fun _ => .inl rfl) (.inr ⟨_, vs.toArray, _, hk, rfl, rfl, rfl, by rw [List.size_toArray, lenV]; exact hl, by simpa using rv⟩) (fun b u z => nomatch z) (fun b z => absurd rfl z) fun z => absurd rfl z
  | none =>
    have at_ : ∀ {b : Addr} {u : HO}, (if b = a then some (HO.frz { cls := .type "list", data := .seq vs.toArray } (.lst (ns.map V.int))) else none) = some u → b = a ∧ u = .frz { cls := .type "list", data := .seq vs.toArray } (.lst (ns.map V.int)) := fun {b u} z => by
      split at z
      · cases z
        exact ⟨by assumption, rfl⟩
      · cases z
    refine core (fun b => if b = a then some (.frz { cls := .type "list", data := .seq vs.toArray } (.lst (ns.map V.int))) else none) (fun b => ?_) (.inl (.inr ⟨_, if_pos rfl⟩)) (fun b u z => ?_) (fun b z => ?_) fun _ => hk
    · by_cases hb : b = a
      · exact .inr ⟨_, _, if_pos hb⟩
      · exact .inl (if_neg hb)
    · obtain ⟨rfl, rfl⟩ := at_ z
      exact ⟨ha, by rw [List.length_map]; exact hl, vs, _, rv, ha⟩
    · by_cases hb : b = a
      · exact hb
      · exact absurd (if_neg hb) z
theorem walk_g {l : PySem.W.OpenLaw} {n k : Nat} {q : Program} {loose : List Str} {XP : (Str → Option Value) → Heap → Prop} {YP : World → Heap → Prop} {d : DefRec} {K : Params → PySem.W.Frag} {M : XM} {x : Str}
    (hn : l.most = some n) (hn2 : n ≤ sizeLine) (hdf : d.params.defaults = []) (hr : Rm k callerA) (hY : ∀ (w : World) (h : Heap), YP w h → (K w.params).In h)
    (F : ∀ (w : World) (mg : Str → Option Value) (fa : Addr) (h : Heap), (K w.params).In h → h.Ns mainGlobals mg → mg d.name = some (.ref fa) →
      ∃ fd : FuncData, (∀ (s : Shared) (u : Value), BindsTo s fd ⟨[u], []⟩ [(x, u)]) ∧ ∀ base : Heap, (K w.params).In base → base.Ns mainGlobals mg → FnG l.prog w (K w.params) mg base k fa fd 1 [x] (spM (K w.params) 1 M))
    (hM : ∀ ns : List Int, ns.length ≤ n → ∃ w', M [.d (.list (ns.map PyData.int))] [] = some (.bool true, w')) :
    PySem.W.WalkO q loose XP YP l.row.toRowW d [] (fun f vs => PySem.call f vs) := by
  refine Att.attach_call hn hdf fun w s0 s1 mg mb fa o pm cd doc a vs ns G Y ho hd hcd hmg hobj hints hlen hg => ?_
  have KX := hY w _ Y
  obtain ⟨fd, hb, hF⟩ := F w mg fa _ KX G.T.g hmg
  exact end_g KX G.T.g G.T.b G.T.builtins G.T.nolimit hg hobj hints (Nat.le_trans hlen hn2) hr hF hb (hM ns hlen)
end DL

set_option Elab.async false
set_option linter.all false
set_option maxRecDepth 100000
set_option maxHeartbeats 4000000
namespace DL
open PySem PySem.Spec PyProof.Rows L2 Evl
section
variable {X : Cx} {W : WX} {fr : Option Nat} {e a b : Expr} {xe xa xb : XE} {ra : XA} {pos : Pos} {st : Stmt} {i j l : Nat}
/-- {} -/
theorem px_dct : PX X (.Dict [] [] pos) (xC (.dict [])) := pe_imp pe_dnewK fun σ H Q q => by
  obtain ⟨as, ρ, os, H0, d, os', n, hx, k⟩ := q
  cases hx
  intro p hp
  exact k _ _ _ (n.grow (Gr.new n.sub hp)) (Gr.mono (Gr.new n.sub hp) (fun _ h => absurd h (by simp))) (.dct upd_same)
/-- y = [..] on one line -/
theorem psx_asgN {i : Nat} (h : PS X st (tAsg (teO X.K xe) (gName i))) : PSX X W fr st (sAsg xe (gNm i)) := ps_imp h fun D σ H q => by
  obtain ⟨as0, Hs, as, ρ, os, H0, o, bs0, n, hx, k⟩ := q
  unfold sAsg gNm at hx
  cases h : xe ρ os with
  | none => rw [h] at hx; cases hx
  | some p =>
    obtain ⟨d, os1⟩ := p
    rw [h] at hx
    cases hx
    exact ⟨as, ρ, os, H0, d, os1, n, h, fun v H0' H' n1 g1 r1 => k as _ H0' H' Exs.refl (n1.set i r1) g1⟩
theorem ps_impE {te te' : TE} {g : TG} (h : PS X st (tAsg te g)) (k : ∀ σ H Q, te' σ H Q → te σ H Q) : PS X st (tAsg te' g) := ps_imp h fun D σ H q => k _ _ _ q
/-- a list's making as a value, from its making as a new one -/
theorem teO_of_F {K : PySem.W.Frag} {x : XI} (σ : L2.St) (H : Hp) (Q : VK) (q : teO K (xF x) σ H Q) : teF K x σ H Q := by
  obtain ⟨as, ρ, os, H0, d, os', n, hx, k⟩ := q
  unfold xF at hx
  cases h1 : x ρ os with
  | none => rw [h1] at hx; cases hx
  | some q =>
    obtain ⟨ds, os1⟩ := q
    rw [h1] at hx
    cases hx
    exact ⟨as, ρ, os, H0, ds, os1, n, h1, fun p vs H0' H' hp n1 g1 h2 h3 h4 r => k _ _ H' (n1.keep h2 h3 h4) (keep_new n.sub g1 hp h2 h4) (.lst (SqL.of upd_same) (r.mono (Ex.new h2)))⟩
theorem psx_setLc {x : XI} {i : Nat} (h : PS X st (tAsg (teF X.K x) (gName i))) : PSX X W fr st (sAsg (xF x) (gNm i)) := psx_asgN (ps_impE h teO_of_F)
theorem psx_ownLc {x : XI} {i : Nat} (h : PS X st (tAsg (teF X.K x) (gName i))) : PSX X W fr st (sOwn i x) := ps_imp h fun _ _ _ q => to_own q
theorem ps_lcF {own : List (Str × Nat)} {xi : XI} {xg : XG} {js : List Nat} {tt : XT} {te : XE} {g : TG} (hj : ∀ j ∈ js, j ∈ own.map (·.2))
    (h : PS X st (tAsg (tLc (tiO X.K xi) (gO X.K xg js) (ttO X.K tt) (teO X.K te) (own.map (·.2))) g)) : PS X st (tAsg (teF X.K (lcD xi xg tt te (own.map (·.2)))) g) := ps_impE h fun _ _ _ q => to_lc hj q
/-- a, b = e, f -/
def sPar (i j : Nat) (xa xb : XE) : SE := fun ρ os => (xa ρ os).bind fun p => (xb ρ p.2).map fun q => .nx ((ρ.set i (.d p.1)).set j (.d q.1)) q.2
theorem psx_par (h : PS X st (tPar i j (tCons (teO X.K xa) (tCons (teO X.K xb) tNil)))) : PSX X W fr st (sPar i j xa xb) := ps_imp h fun D σ H q => by
  obtain ⟨as0, Hs, as, ρ, os, H0, o, bs0, n, hx, k⟩ := q
  unfold sPar at hx
  cases h1 : xa ρ os with
  | none => rw [h1] at hx; cases hx
  | some p =>
    obtain ⟨d, os1⟩ := p
    rw [h1, Option.bind_some] at hx
    cases h2 : xb ρ os1 with
    | none => simp only [h2] at hx; cases hx
    | some q =>
      simp only [h2] at hx
      cases hx
      exact ⟨as, ρ, os, H0, d, os1, n, h1, fun v H1 H1' n1 g1 r1 => ⟨as, ρ, os1, H1, q.1, q.2, n1, h2, fun u H2 H2' n2 g2 r2 => ⟨v, u, rfl, k as _ H2 H2' Exs.refl ((n2.set i (r1.mono g2.e0)).set j r2) (g1.tr g2)⟩⟩⟩
/-- a, b = [..], f with a one's own -/
def sParO (i j : Nat) (xa : XI) (xb : XE) : SE := fun ρ os => (xa ρ os).bind fun p => (xb ρ p.2).map fun q => .nx ((ρ.set i (.o q.2.length)).set j (.d q.1)) (q.2 ++ [some (.l p.1)])
/-- three at once -/
def sPar3 (i j l : Nat) (xa xb xc : XE) : SE := fun ρ os => (xa ρ os).bind fun p => (xb ρ p.2).bind fun q => (xc ρ q.2).map fun r => .nx (((ρ.set i (.d p.1)).set j (.d q.1)).set l (.d r.1)) r.2
theorem psx_par3 {xc : XE} (h : PS X st (tPar3 i j l (tCons (teO X.K xa) (tCons (teO X.K xb) (tCons (teO X.K xc) tNil))))) : PSX X W fr st (sPar3 i j l xa xb xc) := ps_imp h fun D σ H q => by
  obtain ⟨as0, Hs, as, ρ, os, H0, o, bs0, n, hx, k⟩ := q
  unfold sPar3 at hx
  cases h1 : xa ρ os with
  | none => rw [h1] at hx; cases hx
  | some p =>
    rw [h1, Option.bind_some] at hx
    cases h2 : xb ρ p.2 with
    | none => rw [h2] at hx; cases hx
    | some q =>
      rw [h2, Option.bind_some] at hx
      cases h3 : xc ρ q.2 with
      | none => rw [h3] at hx; cases hx
      | some r =>
        rw [h3] at hx
        cases hx
        exact ⟨as, ρ, os, H0, p.1, p.2, n, h1, fun v H1 H1' n1 g1 r1 => ⟨as, ρ, p.2, H1, q.1, q.2, n1, h2, fun u H2 H2' n2 g2 r2 => ⟨as, ρ, q.2, H2, r.1, r.2, n2, h3, fun w H3 H3' n3 g3 r3 =>
          ⟨v, u, w, rfl, k as _ H3 H3' Exs.refl (((n3.set i (r1.mono (g2.e0.trans g3.e0))).set j (r2.mono g3.e0)).set l r3) ((g1.tr g2).tr g3)⟩⟩⟩⟩
/-- the first a list of one's own -/
theorem psx_parO {xa : XI} (hij : i ≠ j) (h : PS X st (tPar i j (tCons (teF X.K xa) (tCons (teO X.K xb) tNil)))) : PSX X W fr st (sParO i j xa xb) := ps_imp h fun D σ H q => by
  obtain ⟨as0, Hs, as, ρ, os, H0, o, bs0, n, hx, k⟩ := q
  unfold sParO at hx
  cases h1 : xa ρ os with
  | none => rw [h1] at hx; cases hx
  | some p =>
    obtain ⟨ds, os1⟩ := p
    rw [h1, Option.bind_some] at hx
    cases h2 : xb ρ os1 with
    | none => simp only [h2] at hx; cases hx
    | some q =>
      simp only [h2] at hx
      cases hx
      refine ⟨as, ρ, os, H0, ds, os1, n, h1, fun p vs H1 H1' hp n1 g1 z1 z2 z3 r1 => ⟨as, ρ, os1, H1, q.1, q.2, n1, h2, fun u H2 H2' n2 g2 r2 => ⟨_, u, rfl, ?_⟩⟩⟩
      have p2 : H2' p = some (.lst vs) := g2.e1 p _ z2 z3
      have p0 : H2 p = none := by
        cases z : H2 p with
        | none => rfl
        | some u =>
          have := g2.nw p u z2 z (by rw [z3]; simp)
          rw [z1] at this
          cases this
      refine k (as ++ [p]) _ H2 H2' ⟨[p], rfl, by simpa using hp⟩ ?_ (g1.tr g2)
      exact (n2.own (ob := .l ds) i p0 z2 p2 (DaAll.mono g2.e0 _ _ r1)).set j r2
/-- x += e, of whole numbers -/
def sAug (i : Nat) (f : Int → Int → Int) (xe : XE) : SE := fun ρ os => match ρ[i]? with
  | some (.d (.int v)) => (xe ρ os).bind fun p => match p.1 with
    | .int w => some (.nx (ρ.set i (.d (.int (f v w)))) p.2)
    | _ => none
  | _ => none
theorem psx_aug {f : Int → Int → Int} (h : PS X st (tAug i (teO X.K xe) (ipI f))) : PSX X W fr st (sAug i f xe) := ps_imp h fun D σ H q => by
  obtain ⟨as0, Hs, as, ρ, os, H0, o, bs0, n, hx, k⟩ := q
  unfold sAug at hx
  split at hx
  · rename_i v hv
    obtain ⟨u, e1, r⟩ := n.dat i _ hv
    have eu := da_intI r
    subst eu
    cases h1 : xe ρ os with
    | none => rw [h1] at hx; cases hx
    | some p =>
      obtain ⟨d, os1⟩ := p
      rw [h1, Option.bind_some] at hx
      cases d with
      | int w =>
        cases hx
        refine ⟨_, e1, as, ρ, os, H0, _, os1, n, h1, fun y H1 H1' n1 g1 r1 => ?_⟩
        have ey := da_intI r1
        subst ey
        exact ⟨v, w, rfl, rfl, k as _ H1 H1' Exs.refl (n1.set i (.int _)) g1⟩
      | _ => cases hx
  · cases hx
end
/-! an expression that reads lists of one's own as data, and gives something flat -/
def viewS (os : Os) : Sl → Sl
  | .o k => match os[k]? with
    | some (some (.l ds)) => .d (.list ds)
    | _ => .u
  | s => s
def flatD : PyData → Bool
  | .list _ => false
  | .tuple _ => false
  | .dict _ => false
  | _ => true
def xView (x : XE) : XE := fun ρ os => (x (ρ.map (viewS os)) []).bind fun p => if flatD p.1 = true then some (p.1, os) else none
theorem da_flat {K : PySem.W.Frag} {H H' : Hp} {v : V} {d : PyData} (h : flatD d = true) (r : Da K H v d) : Da K H' v d := by
  cases r with
  | non => exact .non
  | bl b => exact .bl b
  | int i => exact .int i
  | str x => exact .str x
  | _ => cases h
theorem en_view {K : PySem.W.Frag} {as : List Addr} {ρ : List Sl} {os : Os} {σ : L2.St} {H0 H : Hp} (n : En K as ρ os σ H0 H) : ∃ Hv, Ex H0 Hv ∧ En K [] (ρ.map (viewS os)) [] σ Hv H := by
  have key : ∀ a, a ∈ as → H0 a = none → ∃ o, H a = some o := fun a ha _ => by
    cases q : H a with
    | none => exact absurd q (n.ow.trk a ha)
    | some o => exact ⟨o, rfl⟩
  refine ⟨fun a => if a ∈ as ∧ H0 a = none then H a else H0 a, fun a o e => by show (if a ∈ as ∧ H0 a = none then H a else H0 a) = some o; rw [if_neg (by rw [e]; simp)]; exact e, fun a o e => ?_, by rw [List.length_map]; exact n.len, fun i x h => ?_, fun i k h => ?_, List.nodup_nil, rfl, fun _ h => absurd h (by simp), fun _ _ _ h => by simp at h⟩
  · have e : (if a ∈ as ∧ H0 a = none then H a else H0 a) = some o := e
    by_cases c : a ∈ as ∧ H0 a = none
    · rw [if_pos c] at e
      exact e
    · rw [if_neg c] at e
      exact n.sub a o e
  · have up : Ex H0 fun a => if a ∈ as ∧ H0 a = none then H a else H0 a := fun a o e => by show (if a ∈ as ∧ H0 a = none then H a else H0 a) = some o; rw [if_neg (by rw [e]; simp)]; exact e
    rw [List.getElem?_map] at h
    cases q : ρ[i]? with
    | none => rw [q] at h; cases h
    | some s =>
      rw [q] at h
      cases s with
      | u => cases h
      | d y =>
        cases h
        obtain ⟨v, e1, r⟩ := n.dat i _ q
        exact ⟨v, e1, r.mono up⟩
      | o k =>
        obtain ⟨a, e1, e2⟩ := n.ref i k q
        simp only [Option.map_some, viewS] at h
        split at h
        · rename_i ds hds
          cases h
          obtain ⟨q1, vs, q2, q3⟩ := n.ow.l k a ds e1 hds
          exact ⟨_, e2, .lst (SqL.of (by show (if a ∈ as ∧ H0 a = none then H a else H0 a) = _; rw [if_pos ⟨List.mem_of_getElem? e1, q1⟩]; exact q2)) (q3.mono up)⟩
        · cases h
  · rw [List.getElem?_map] at h
    cases q : ρ[i]? with
    | none => rw [q] at h; cases h
    | some s =>
      rw [q] at h
      cases s with
      | u => cases h
      | d y => cases h
      | o k =>
        simp only [Option.map_some, viewS] at h
        split at h <;> cases h
theorem px_view {X : Cx} {e : Expr} {x : XE} (h : PX X e x) : PX X e (xView x) := pe_imp h fun σ H Q q => by
  obtain ⟨as, ρ, os, H0, d, os', n, hx, k⟩ := q
  unfold xView at hx
  cases h1 : x (ρ.map (viewS os)) [] with
  | none => rw [h1] at hx; cases hx
  | some p =>
    obtain ⟨y, os1⟩ := p
    rw [h1, Option.bind_some] at hx
    simp only at hx
    split at hx
    · rename_i hf
      cases hx
      obtain ⟨Hv, up, nv⟩ := en_view n
      refine ⟨[], _, [], Hv, d, os1, nv, h1, fun v H1 H1' n1 g1 r1 => ?_⟩
      have ex : Ex H0 H1' := (up.trans g1.e0).trans g1.sub
      refine k v H0 H1' ⟨ex, n.len, n.dat, n.ref, n.ow.nd, n.ow.len, fun a ha => g1.kp a (n.ow.trk a ha), fun j a ds e1 e2 => ?_⟩ ⟨Ex.refl _, fun a o _ e => g1.e1 a o (by simp) e, fun _ _ _ e _ => e, g1.kp, ex⟩ (da_flat hf r1)
      obtain ⟨q1, vs, q2, q3⟩ := n.ow.at_ j a ds e1 e2
      exact ⟨q1, vs, g1.e1 a _ (by simp) q2, q3⟩
    · cases hx
def tView (t : XT) : XT := fun ρ os => (t (ρ.map (viewS os)) []).map fun p => (p.1, os)
theorem pxt_view {X : Cx} {e : Expr} {x : XT} (h : PXT X e x) : PXT X e (tView x) := pt_imp h fun σ H Q q => by
  obtain ⟨as, ρ, os, H0, d, os', n, hx, k⟩ := q
  unfold tView at hx
  cases h1 : x (ρ.map (viewS os)) [] with
  | none => rw [h1] at hx; cases hx
  | some p =>
    obtain ⟨y, os1⟩ := p
    rw [h1] at hx
    cases hx
    obtain ⟨Hv, up, nv⟩ := en_view n
    refine ⟨[], _, [], Hv, _, os1, nv, h1, fun H1 H1' n1 g1 => ?_⟩
    have ex : Ex H0 H1' := (up.trans g1.e0).trans g1.sub
    refine k H0 H1' ⟨ex, n.len, n.dat, n.ref, n.ow.nd, n.ow.len, fun a ha => g1.kp a (n.ow.trk a ha), fun j a ds e1 e2 => ?_⟩ ⟨Ex.refl _, fun a o _ e => g1.e1 a o (by simp) e, fun _ _ _ e _ => e, g1.kp, ex⟩
    obtain ⟨q1, vs, q2, q3⟩ := n.ow.at_ j a ds e1 e2
    exact ⟨q1, vs, g1.e1 a _ (by simp) q2, q3⟩
/-- a comparison as a test -/
theorem pxt_cmp {X : Cx} {op : CmpOp} {f : PyData → PyData → Option PyData} {a b : Expr} {xa xb : XE} {pos : Pos} (ho : OpR X (compareOp op) (rD X.K f)) (ha : PX X a xa) (hb : PX X b xb) (hm : behindInMarks op b = false) : PXT X (.Compare a [op] [b] pos) (xBool (xOp f xa xb)) :=
  pt_imp (pt_cmpR ho ha hb hm) fun σ H Q q => by
    obtain ⟨as, ρ, os, H0, d, os', n, hx, k⟩ := q
    unfold xBool at hx
    cases h1 : xOp f xa xb ρ os with
    | none => rw [h1] at hx; cases hx
    | some p =>
      obtain ⟨y, os1⟩ := p
      rw [h1, Option.bind_some] at hx
      cases y with
      | bool c =>
        cases hx
        exact to_op ⟨as, ρ, os, H0, _, _, n, h1, fun v H1 H1' n1 g1 r1 => by
          cases r1
          exact ⟨_, rfl, k H1 H1' n1 g1⟩⟩
      | _ => cases hx
/-! keywords: the parameters' values picked from the written ones -/
def pmI (js : List Nat) {α : Type} (l : List α) : List α := js.filterMap fun j => l[j]?
theorem pmI_rel : ∀ (js : List Nat) {zs : List V} {ws : List Value}, Vals zs ws → Vals (pmI js zs) (pmI js ws)
  | [], _, _, _ => .nil
  | j :: js, zs, ws, h => by
    unfold pmI
    simp only [List.filterMap_cons]
    cases q : zs[j]? with
    | none =>
      rw [Vals.none_of h q]
      exact pmI_rel js h
    | some x =>
      obtain ⟨u, h1, h2⟩ := h.get q
      rw [h1]
      exact .cons h2 (pmI_rel js h)
theorem args_none {K : PySem.W.Frag} {as : List Addr} {H0 : Hp} {zs : List V} {ss : List Sl} {j : Nat} (h : ArgsOk K as H0 zs ss) (e : ss[j]? = none) : zs[j]? = none := by
  have := args_len h
  have h2 := List.getElem?_eq_none_iff.mp e
  exact List.getElem?_eq_none_iff.mpr (by omega)
theorem pmI_arg {K : PySem.W.Frag} {as : List Addr} {H0 : Hp} : ∀ (js : List Nat) {zs : List V} {ss : List Sl}, ArgsOk K as H0 zs ss → ArgsOk K as H0 (pmI js zs) (pmI js ss)
  | [], _, _, _ => True.intro
  | j :: js, zs, ss, h => by
    unfold pmI
    simp only [List.filterMap_cons]
    cases q : ss[j]? with
    | none =>
      rw [args_none h q]
      exact pmI_arg js h
    | some x =>
      obtain ⟨u, h1, h2⟩ := args_at h q
      rw [h1]
      exact ⟨h2, pmI_arg js h⟩
theorem kwb {K : PySem.W.Frag} {x qual : Str} {st : Stmt} {f : Addr} {fd : FuncData} {ps ks : List Str} {js : List Nat} (F : Fun K x qual st f fd)
    (h : ∀ (kV doc pm : Value) (an : Option Addr) (cdv ct : Value) (ws : List Value), ws.length = ks.length → bindArgs (PySem.W.fnOf x qual (defArgs st) (defBody st) (defScope st) .none kV doc pm an cdv ct) ⟨[], ks.zip ws⟩ = pure (ps.zip (pmI js ws))) : KwBinds fd ps ks (pmI js) := by
  obtain ⟨oc, od, kV, doc, pm, an, cdv, ct, osl, rfl, lk, hcd⟩ := F.ex
  exact ⟨fun s ws hl => .of_eq (h kV doc pm an cdv ct ws hl), pmI_rel js, pmI_arg js⟩
theorem pmI_len : ∀ {js : List Nat} {α : Type} {l : List α} {m : Nat}, (∀ j ∈ js, j < m) → l.length = m → l.length = m ∧ (pmI js l).length = js.length
  | [], _, _, _, _, h => ⟨h, rfl⟩
  | j :: js, _, l, m, hj, h => by
    refine ⟨h, ?_⟩
    have ih := (pmI_len (js := js) (fun i hi => hj i (List.mem_cons_of_mem _ hi)) h).2
    unfold pmI at ih ⊢
    simp only [List.filterMap_cons]
    have h1 : j < l.length := by rw [h]; exact hj j List.mem_cons_self
    rw [List.getElem?_eq_getElem h1, List.length_cons, List.length_cons, ih]
/-- a def that hands back a new list, taken as data -/
def asM (M : XMF) : XM := fun ss os => (M ss os).map fun p => (.list p.1, p.2)
theorem asM_ok {P : Program} {w : World} {K : PySem.W.Frag} {mg : Str → Option Value} {base : Heap} {k n : Nat} {f : Addr} {fd : FuncData} {ps : List Str} {M : XMF} (F : FnG P w K mg base k f fd n ps (spF K n M)) : FnG P w K mg base k f fd n ps (spM K n (asM M)) := by
  refine ⟨F.pl, fun vs H Q E h => h.1, fun A outer s H args us vs Q E hr e0 hb r h => F.run A outer s H args us vs Q E hr e0 hb r ?_⟩
  obtain ⟨hlen, as, ss, os, H0, d, os', h1, h2, h3, h4, h5⟩ := h
  unfold asM at h4
  cases q : M ss os with
  | none => rw [q] at h4; cases h4
  | some p =>
    obtain ⟨ds, os1⟩ := p
    rw [q] at h4
    cases h4
    refine ⟨hlen, as, ss, os, H0, ds, _, h1, h2, h3, q, fun p vs H0' H' hp w2 g2 r1 r2 r3 => ?_⟩
    exact h5 _ _ H' (w2.keep r1 fun z => h2.trk p z hp) (keep_new h1 g2 hp r1 r2) (.lst (SqL.of upd_same) (r3.mono (Ex.new r1)))
theorem bt_len : bootBuiltins "len" = some (.builtin "len") := by decide +kernel
theorem bt_max : bootBuiltins "max" = some (.builtin "max") := by decide +kernel
theorem bt_min : bootBuiltins "min" = some (.builtin "min") := by decide +kernel
theorem bt_sum : bootBuiltins "sum" = some (.builtin "sum") := by decide +kernel
theorem bt_all : bootBuiltins "all" = some (.builtin "all") := by decide +kernel
theorem bt_any : bootBuiltins "any" = some (.builtin "any") := by decide +kernel
theorem bt_repr : bootBuiltins "repr" = some (.builtin "repr") := by decide +kernel
theorem bt_int : bootBuiltins "int" = some (.type "int") := by decide +kernel
theorem bt_bool : bootBuiltins "bool" = some (.type "bool") := by decide +kernel
theorem bt_str : bootBuiltins "str" = some (.type "str") := by decide +kernel
theorem bt_list : bootBuiltins "list" = some (.type "list") := by decide +kernel
theorem bt_tuple : bootBuiltins "tuple" = some (.type "tuple") := by decide +kernel
theorem Rm.u64 {k : Nat} {A : Around} (r : Rm k A) : A.units + 64 < cLine := r.room.units
theorem Rm.u65 {k : Nat} {A : Around} (r : Rm k A) : A.units + 65 < cLine := by have := r.room.un; omega
abbrev ltD := cmpD fun i j => decide (i < j)
abbrev leD := cmpD fun i j => decide (i ≤ j)
abbrev gtD := cmpD fun i j => decide (j < i)
abbrev geD := cmpD fun i j => decide (j ≤ i)
end DL

set_option Elab.async false
set_option linter.all false
set_option maxRecDepth 100000
set_option maxHeartbeats 4000000
namespace DL
open PySem PySem.Spec PyProof.Rows L2 Evl
section
variable {X : Cx} {e : Expr} {es : List Expr} {xe : XE} {ra : XA} {pos p : Pos}
/-- x[::-1] -/
def fRev (xe : XE) : XI := fun ρ os => (xe ρ os).bind fun p => match p.1 with
  | .list c => some (c.reverse, p.2)
  | _ => none
theorem DaAll.app2 {K : PySem.W.Frag} {H : Hp} {vs ws : List V} {ds es : List PyData} (h : DaAll K H vs ds) (g : DaAll K H ws es) : DaAll K H (vs ++ ws) (ds ++ es) := h.app g
theorem DaAll.rev {K : PySem.W.Frag} {H : Hp} : ∀ {vs : List V} {ds : List PyData}, DaAll K H vs ds → DaAll K H vs.reverse ds.reverse
  | _, _, .nil => .nil
  | _, _, .cons a t => by
    rw [List.reverse_cons, List.reverse_cons]
    exact (DaAll.rev t).app (.cons a .nil)
theorem pxf_rev {k : Nat} {p1 p2 p3 : Pos} (he : PX X e xe) : PXF X (.Subscript e (.Slice none none (some (.UnaryOp .USub (.Constant (.int 1) k p1) p2)) p3) pos) (fRev xe) := pe_imp (pe_revL he) fun σ H Q q => by
  obtain ⟨as, ρ, os, H0, ds, os', n, hx, k⟩ := q
  unfold fRev at hx
  cases h1 : xe ρ os with
  | none => rw [h1] at hx; cases hx
  | some p =>
    obtain ⟨d, os1⟩ := p
    rw [h1, Option.bind_some] at hx
    cases d with
    | list cs =>
      cases hx
      refine ⟨as, ρ, os, H0, _, os1, n, h1, fun v H3' H3 n3 g3 r3 => ?_⟩
      cases r3 with
      | lst h4 h5 =>
        refine ⟨_, _, rfl, ex_l n3.sub h4, fun p hp => ?_⟩
        have h0 : H3' p = none := fresh_back n3.sub hp
        have nD : p ∉ as := fun z => n3.ow.trk p z hp
        rename_i a0 xs0
        have gg := fresh_up (o := .lst xs0.reverse) g3 hp
        exact k p _ H3' _ gg.2 (n3.away nD (fun a h => upd_ne h) (by rw [upd_same]; simp) h0) gg.1 h0 nD upd_same h5.rev
    | _ => cases hx
/-- range(i, j, -1) -/
def downD (i : Int) (n : Nat) : List PyData := (List.range n).map fun (k : Nat) => PyData.int (i + (k : Int) * (-1))
theorem walkD_down {K : PySem.W.Frag} {H0 : Hp} {lo : Int} {n : Nat} : WalkD K (Itc lo (-1) n) (downD lo n) H0 := by
  have hl : (downD lo n).length = n := by simp [downD]
  refine ⟨fun i H hi _ => ?_, fun H _ => ?_, fun i H x H' H1 hi e e1 y => ?_⟩
  · rw [hl] at hi
    exact hi
  · rw [hl]
    exact Nat.le_refl _
  · obtain ⟨e2, e3⟩ := (show H' = H ∧ x = .int (lo + (i : Nat) * (-1)) from y)
    subst e2 e3
    rw [hl] at hi
    exact ⟨H1, .int (lo + (i : Nat) * (-1)), Gr.refl e1, by simp [downD, hi], .int _⟩
def iRgN (ra : XA) : XI := fun ρ os => (ra ρ os).bind fun p => match p.1 with
  | [.d (.int i), .d (.int j), .d (.int c)] => if c = -1 ∧ -(2 ^ 62) ≤ i ∧ i < 2 ^ 62 ∧ -(2 ^ 62) ≤ j ∧ j < 2 ^ 62 then some (downD i (i - j).toNat, p.2) else none
  | _ => none
theorem pxi_range3 {a b c : Expr} {tg : Expr} (hg : Gl X "range") (hm : X.mg "range" = none) (ha : PXA X [a, b, c] ra) (hs : starEach [a, b, c] X.env = (false, eval a X.env) :: starEach [b, c] X.env := by rfl) (hpl : (backTo pos (starEach [b, c] X.env)).any (·.1) = false := by rfl) :
    PXI X tg (.Call (.Name "range" p) [a, b, c] [] pos) (iRgN ra) := pi_imp (pi_range3 hg hm ha hs hpl) fun σ H R q => by
  obtain ⟨as, ρ, os, H0, items, os', n, hx, k⟩ := q
  unfold iRgN at hx
  cases h2 : ra ρ os with
  | none => rw [h2] at hx; cases hx
  | some q =>
    obtain ⟨ss, os1⟩ := q
    rw [h2, Option.bind_some] at hx
    simp only at hx
    split at hx
    · rename_i i j c
      split at hx
      · rename_i hc
        obtain ⟨hc, b1, b2, b3, b4⟩ := hc
        cases hx
        refine ⟨as, ρ, os, H0, _, _, n, h2, fun vs H1 H1' n1 g1 r1 => ?_⟩
        match vs, r1 with
        | [v, w, u], r1 =>
          have q1 : Da X.K H1 v (.int i) := r1.1
          have q2 : Da X.K H1 w (.int j) := r1.2.1
          have q3 : Da X.K H1 u (.int c) := r1.2.2.1
          cases q1
          cases q2
          cases q3
          subst hc
          exact ⟨i, j, -1, (i - j).toNat, rfl, RgC.neg b1 b2 b3 b4, k _ H1 H1' n1 g1 walkD_down⟩
      · cases hx
    · cases hx
/-- f(g(..), ..): a new list handed on directly, as one's own -/
def xFnN (M : XM) (xi : XI) (ra : XA) : XE := fun ρ os => (xi ρ os).bind fun p => (ra ρ (p.2 ++ [some (.l p.1)])).bind fun q => (M (.o p.2.length :: q.1) q.2).bind fun z => (cutW p.2.length z.2).map fun w => (z.1, w)
theorem px_fnN {k n : Nat} {f : Addr} {fd : FuncData} {ps : List Str} {M : XM} {xi : XI} {x : Str} (F : FnG X.prog X.w X.K X.mg X.base k f fd n ps (spM X.K n M)) (hr : Rm k X.A) (hg : Gl X x) (hm : X.mg x = some (.ref f)) (hk : PySem.W.keepIn X.K (.ref f) = true) (hb : Binds X.K fd ps [])
    (he0 : PXF X e xi) (ha : PXA X es ra) (hl : ∀ ρ os ss os', ra ρ os = some (ss, os') → ss.length + 1 = n) (hdb : (x == ("__debug__" : Str)) = false := by decide) (he : starEach (e :: es) X.env = (false, eval e X.env) :: starEach es X.env := by rfl) (hpl : (backTo pos (starEach es X.env)).any (·.1) = false := by rfl) :
    PX X (.Call (.Name x p) (e :: es) [] pos) (xFnN M xi ra) := pe_imp (pe_callG F hr hg hm hk hb (pa_cons he0 ha he) hdb he hpl) fun σ H Q q => by
  obtain ⟨as, ρ, os, H0, d, os', n0, hx, k⟩ := q
  unfold xFnN at hx
  cases h1 : xi ρ os with
  | none => rw [h1] at hx; cases hx
  | some pp =>
    obtain ⟨ds, os1⟩ := pp
    rw [h1, Option.bind_some] at hx
    simp only at hx
    cases h5 : ra ρ (os1 ++ [some (.l ds)]) with
    | none => rw [h5] at hx; cases hx
    | some qq =>
      obtain ⟨ss, os2⟩ := qq
      rw [h5, Option.bind_some] at hx
      simp only at hx
      cases h6 : M (.o os1.length :: ss) os2 with
      | none => rw [h6] at hx; cases hx
      | some z =>
        obtain ⟨z, os3⟩ := z
        rw [h6, Option.bind_some] at hx
        simp only at hx
        cases h7 : cutW os1.length os3 with
        | none => rw [h7] at hx; cases hx
        | some os4 =>
        rw [h7] at hx
        cases hx
        refine ⟨as, ρ, os, H0, ds, os1, n0, h1, fun p vs H0' H' hp n1 g1 h2 h3 h4 r => ⟨as ++ [p], ρ, os1 ++ [some (.l ds)], H0', ss, os2, ?_, h5, fun ws H2' H2 n2 g2 r2 => ?_⟩⟩
        · have n5 := n1.own (ob := .l ds) ρ.length h2 h3 h4 r
          rw [List.set_eq_of_length_le (Nat.le_refl _), List.set_eq_of_length_le (by rw [n1.len]; exact Nat.le_refl _)] at n5
          exact n5
        · have lo := n1.ow.len
          have e1 : (as ++ [p])[os1.length]? = some p := by
            rw [← lo, List.getElem?_append_right (Nat.le_refl _)]
            simp
          refine ⟨by rw [List.length_cons, args_len r2]; exact hl _ _ _ _ h5, as ++ [p], .o os1.length :: ss, os2, H2', _, os3, n2.sub, n2.ow, ⟨⟨p, e1, rfl⟩, r2⟩, h6, fun v H3' H3 w3 g3 r3 => ?_⟩
          have gg : Gr as H0 H H3' H3 := g1.trans (g2.tr g3) fun a ha => by
            rcases List.mem_append.mp ha with z | z
            · exact .inl z
            · have : a = p := by simpa using z
              exact .inr (by rw [this]; exact hp)
          have w4 := w3.cut (as := as) (H := H) ⟨[p], rfl, by simpa using hp⟩ (by rw [lo]; exact h7)
          exact k v H3' H3 (n0.call w4 gg) gg r3
end
end DL

set_option Elab.async false
set_option linter.all false
set_option maxRecDepth 100000
set_option maxHeartbeats 4000000
namespace DL
open PySem PySem.Spec PyProof.Rows L2 Evl
section
variable {X : Cx} {a b c e : Expr} {xa xb xc : XE} {pos p p2 : Pos} {op op' : CmpOp} {f f' : PyData → PyData → Option PyData}
/-- a < b < c -/
def xChain (f f' : PyData → PyData → Option PyData) (xa xb xc : XE) : XE := fun ρ os => (xa ρ os).bind fun p => (xb ρ p.2).bind fun q => (f p.1 q.1).bind fun z => match z with
  | .bool true => (xc ρ q.2).bind fun r => (f' q.1 r.1).map fun z => (z, r.2)
  | .bool false => some (.bool false, q.2)
  | _ => none
theorem to_chain {K : PySem.W.Frag} {σ : L2.St} {H : Hp} {Q : VK} (q : teO K (xChain f f' xa xb xc) σ H Q) : tChain (rD K f) (rD K f') (teO K xa) (teO K xb) (teO K xc) σ H Q := by
  obtain ⟨as, ρ, os, H0, d, os', n, hx, k⟩ := q
  unfold xChain at hx
  cases h1 : xa ρ os with
  | none => rw [h1] at hx; cases hx
  | some p =>
    obtain ⟨x, os1⟩ := p
    rw [h1, Option.bind_some] at hx
    simp only at hx
    cases h2 : xb ρ os1 with
    | none => rw [h2] at hx; cases hx
    | some q =>
      obtain ⟨y, os2⟩ := q
      rw [h2, Option.bind_some] at hx
      simp only at hx
      cases h3 : f x y with
      | none => rw [h3] at hx; cases hx
      | some z =>
        rw [h3, Option.bind_some] at hx
        refine ⟨as, ρ, os, H0, x, os1, n, h1, fun v H0' H' n1 g1 r1 => ⟨as, ρ, os1, H0', y, os2, n1, h2, fun u H0'' H'' n2 g2 r2 => ⟨H0'', x, y, z, n2.sub, r1.mono g2.e0, r2, h3, fun w H3' H3 g3 r3 => ?_⟩⟩⟩
        have n3 := n2.grow g3
        have gg := (g1.tr g2).tr0 g3
        cases z with
        | bool b =>
          cases r3
          cases b with
          | false =>
            cases hx
            exact ⟨false, rfl, by
              simp only [Bool.false_eq_true, if_false]
              exact k _ H3' H3 n3 gg (.bl false)⟩
          | true =>
            cases h4 : xc ρ os2 with
            | none => simp only [h4] at hx; cases hx
            | some r =>
              obtain ⟨w, os3⟩ := r
              simp only [h4, Option.bind_some] at hx
              cases h5 : f' y w with
              | none => rw [h5] at hx; cases hx
              | some z2 =>
                rw [h5] at hx
                cases hx
                refine ⟨true, rfl, ?_⟩
                simp only [if_true]
                exact ⟨as, ρ, os2, H3', w, _, n3, h4, fun w2 H4' H4 n4 g4 r4 => ⟨H4', y, w, _, n4.sub, (r2.mono g3.e0).mono g4.e0, r4, h5, fun w5 H5' H5 g5 r5 => k w5 H5' H5 (n4.grow g5) ((gg.tr g4).tr0 g5) r5⟩⟩
        | _ => cases hx
theorem px_chain (ho : OpR X (compareOp op) (rD X.K f)) (ho' : OpR X (compareOp op') (rD X.K f')) (ha : PX X a xa) (hb : PX X b xb) (hc : PX X c xc) (hm : lastMarks [op, op'] [b, c] = false := by with_unfolding_all rfl) : PX X (.Compare a [op, op'] [b, c] pos) (xChain f f' xa xb xc) :=
  pe_imp (pe_chain ho ho' ha hb hc hm) fun _ _ _ q => to_chain q
theorem pxt_chain (ho : OpR X (compareOp op) (rD X.K f)) (ho' : OpR X (compareOp op') (rD X.K f')) (ha : PX X a xa) (hb : PX X b xb) (hc : PX X c xc) (hm : lastMarks [op, op'] [b, c] = false := by with_unfolding_all rfl) : PXT X (.Compare a [op, op'] [b, c] pos) (xBool (xChain f f' xa xb xc)) :=
  pt_imp (pt_chain ho ho' ha hb hc hm) fun σ H Q q => by
    obtain ⟨as, ρ, os, H0, d, os', n, hx, k⟩ := q
    unfold xBool at hx
    cases h1 : xChain f f' xa xb xc ρ os with
    | none => rw [h1] at hx; cases hx
    | some p =>
      obtain ⟨y, os1⟩ := p
      rw [h1, Option.bind_some] at hx
      cases y with
      | bool c =>
        cases hx
        exact to_chain ⟨as, ρ, os, H0, _, _, n, h1, fun v H1 H1' n1 g1 r1 => by
          cases r1
          exact ⟨_, rfl, k H1 H1' n1 g1⟩⟩
      | _ => cases hx
/-- reversed(range(..)) -/
abbrev XR := List Sl → Os → Option ((Int × Int) × Os)
def trO (K : PySem.W.Frag) (x : XR) : L2.St → Hp → (Int → Int → Hp → Prop) → Prop := fun σ H Q => ∃ as ρ os H0 r os', En K as ρ os σ H0 H ∧ x ρ os = some (r, os') ∧ ∀ H0' H', En K as ρ os' σ H0' H' → Gr as H0 H H0' H' → Q r.1 r.2 H'
abbrev PXR (X : Cx) (e : Expr) (x : XR) : Prop := PRg X e (trO X.K x)
theorem prg_imp {t t' : L2.St → Hp → (Int → Int → Hp → Prop) → Prop} (h : PRg X e t) (k : ∀ σ H Q, t' σ H Q → t σ H Q) : PRg X e t' := fun pins s σ H Q I q => h pins s σ H Q I (k _ _ _ q)
def rg1 (xa : XE) : XR := fun ρ os => (xa ρ os).bind fun p => match p.1 with
  | .int n => some ((0, n), p.2)
  | _ => none
def rg2 (xa xb : XE) : XR := fun ρ os => (xa ρ os).bind fun p => (xb ρ p.2).bind fun q => match p.1, q.1 with
  | .int i, .int j => some ((i, j), q.2)
  | _, _ => none
theorem pxr_1 (hg : Gl X "range") (hm : X.mg "range" = none) (ha : PX X a xa) (na : starEach [a] X.env = (false, eval a X.env) :: starEach [] X.env := by rfl) : PXR X (.Call (.Name "range" p) [a] [] pos) (rg1 xa) := prg_imp (prg_1 hg hm ha na) fun σ H Q q => by
  obtain ⟨as, ρ, os, H0, r, os', n, hx, k⟩ := q
  unfold rg1 at hx
  cases h1 : xa ρ os with
  | none => rw [h1] at hx; cases hx
  | some p =>
    obtain ⟨x, os1⟩ := p
    rw [h1, Option.bind_some] at hx
    cases x with
    | int i =>
      cases hx
      refine ⟨as, ρ, os, H0, _, _, n, h1, fun v H0' H' n1 g1 r1 => ?_⟩
      cases r1
      exact ⟨i, rfl, k H0' H' n1 g1⟩
    | _ => cases hx
theorem pxr_2 (hg : Gl X "range") (hm : X.mg "range" = none) (ha : PX X a xa) (hb : PX X b xb) (na : starEach [a, b] X.env = (false, eval a X.env) :: starEach [b] X.env := by rfl) (nb : starEach [b] X.env = (false, eval b X.env) :: starEach [] X.env := by rfl) (hp : (backTo pos (starEach [b] X.env)).any (·.1) = false := by rfl) : PXR X (.Call (.Name "range" p) [a, b] [] pos) (rg2 xa xb) := prg_imp (prg_2 hg hm ha hb na nb hp) fun σ H Q q => by
  obtain ⟨as, ρ, os, H0, r, os', n, hx, k⟩ := q
  unfold rg2 at hx
  cases h1 : xa ρ os with
  | none => rw [h1] at hx; cases hx
  | some p =>
    obtain ⟨x, os1⟩ := p
    rw [h1, Option.bind_some] at hx
    simp only at hx
    cases h2 : xb ρ os1 with
    | none => rw [h2] at hx; cases hx
    | some q =>
      obtain ⟨y, os2⟩ := q
      rw [h2, Option.bind_some] at hx
      simp only at hx
      split at hx
      · rename_i i j
        cases hx
        refine ⟨as, ρ, os, H0, _, _, n, h1, fun v H0' H' n1 g1 r1 => ⟨as, ρ, os1, H0', _, _, n1, h2, fun u H2' H2 n2 g2 r2 => ?_⟩⟩
        cases r1
        cases r2
        exact ⟨i, j, rfl, rfl, k H2' H2 n2 (g1.tr g2)⟩
      · cases hx
def iRgR (xr : XR) : XI := fun ρ os => (xr ρ os).bind fun p => if -(2 ^ 62) ≤ p.1.1 ∧ p.1.1 < 2 ^ 62 ∧ -(2 ^ 62) ≤ p.1.2 ∧ p.1.2 < 2 ^ 62 then some (downD (p.1.1 + (((p.1.2 - p.1.1).toNat : Nat) : Int) - 1) (p.1.2 - p.1.1).toNat, p.2) else none
theorem pxi_revR {tg : Expr} {xr : XR} (h : ∀ t, PRg X e t → PI X tg (.Call (.Name "reversed" p) [e] [] pos) (iRevR t)) (he : PXR X e xr) : PXI X tg (.Call (.Name "reversed" p) [e] [] pos) (iRgR xr) := pi_imp (h _ he) fun σ H R q => by
  obtain ⟨as, ρ, os, H0, items, os', n, hx, k⟩ := q
  unfold iRgR at hx
  cases h2 : xr ρ os with
  | none => rw [h2] at hx; cases hx
  | some q =>
    obtain ⟨⟨i, j⟩, os1⟩ := q
    rw [h2, Option.bind_some] at hx
    simp only at hx
    split at hx
    · rename_i hc
      cases hx
      exact ⟨as, ρ, os, H0, (i, j), _, n, h2, fun H1 H1' n1 g1 => ⟨hc.1, hc.2.1, hc.2.2.1, hc.2.2.2, k _ H1 H1' n1 g1 walkD_down⟩⟩
    · cases hx
/-- list(range(..)) -/
def fRng (xr : XR) : XI := fun ρ os => (xr ρ os).bind fun p => if -(2 ^ 62) ≤ p.1.1 ∧ p.1.1 < 2 ^ 62 ∧ -(2 ^ 62) ≤ p.1.2 ∧ p.1.2 < 2 ^ 62 ∧ (p.1.2 - p.1.1).toNat ≤ 2 ^ 24 then some (rangeD p.1.1 (p.1.2 - p.1.1).toNat, p.2) else none
theorem da_rg {K : PySem.W.Frag} {H : Hp} {a b : Int} : DaAll K H (rgV a b) (rangeD a (b - a).toNat) := by
  unfold rgV rangeD
  generalize List.range (b - a).toNat = l
  induction l with
  | nil => exact .nil
  | cons x r ih => exact .cons (.int _) ih
theorem pxf_rng {xr : XR} (hc : X.calm = true) (hg : Gl X "list") (hm : X.mg "list" = none) (he : PXR X e xr) (na : starEach [e] X.env = (false, eval e X.env) :: starEach [] X.env := by rfl) : PXF X (.Call (.Name "list" p) [e] [] pos) (fRng xr) := pe_imp (pe_listRg hc hg hm he na) fun σ H Q q => by
  obtain ⟨as, ρ, os, H0, ds, os', n, hx, k⟩ := q
  unfold fRng at hx
  cases h2 : xr ρ os with
  | none => rw [h2] at hx; cases hx
  | some q =>
    obtain ⟨⟨i, j⟩, os1⟩ := q
    rw [h2, Option.bind_some] at hx
    simp only at hx
    split at hx
    · rename_i hc
      cases hx
      refine ⟨as, ρ, os, H0, (i, j), _, n, h2, fun H3' H3 n3 g3 => ⟨hc, fun p hp => ?_⟩⟩
      have h0 : H3' p = none := fresh_back n3.sub hp
      have nD : p ∉ as := fun z => n3.ow.trk p z hp
      have gg := fresh_up (o := .lst (rgV i j)) g3 hp
      exact k p _ H3' _ gg.2 (n3.away nD (fun a h => upd_ne h) (by rw [upd_same]; simp) h0) gg.1 h0 nD upd_same da_rg
    · cases hx
end
end DL

set_option Elab.async false
set_option linter.all false
set_option maxRecDepth 100000
set_option maxHeartbeats 4000000
namespace DL
open PySem PySem.Spec PyProof.Rows L2 Evl
/-! ### comprehensions of two fors -/
def lc2Run (xg : XG) (tt : XT) (xi1 : XI) (xg1 : XG) (tt1 : XT) (te : XE) (vs1 : List Nat) (ρ : List Sl) : List PyData → List PyData → Os → Option (List PyData × Os)
  | [], acc, os => some (acc, os)
  | d :: r, acc, os => (xg d ρ).bind fun ρ1 => (tt ρ1 os).bind fun p => if p.1 = true then (xi1 ρ1 p.2).bind fun it => (lcRun xg1 tt1 te (wipeR ρ1 vs1) it.1 acc it.2).bind fun q => lc2Run xg tt xi1 xg1 tt1 te vs1 ρ r q.1 q.2 else lc2Run xg tt xi1 xg1 tt1 te vs1 ρ r acc p.2
def lc2D (xi : XI) (xg : XG) (tt : XT) (xi1 : XI) (xg1 : XG) (tt1 : XT) (te : XE) (vs vs1 : List Nat) : XI := fun ρ os => (xi ρ os).bind fun p => lc2Run xg tt xi1 xg1 tt1 te vs1 (wipeR ρ vs) p.1 [] p.2
/-- what stands between two turns, over a list D that grows; R tells what is to come -/
def LcW (K : PySem.W.Frag) (as : List Addr) (Ha Hb Hw : Hp) (D : Addr) (ρw : List Sl) (σw : L2.St) (R : List PyData → Os → Prop) (H2 : Hp) : Prop :=
  ∃ acc osi H2' vacc, En K as ρw osi σw H2' H2 ∧ Gr as Ha Hb H2' H2 ∧ Ex Hw H2' ∧ H2' D = none ∧ H2 D = some (.lst vacc) ∧ DaAll K H2' vacc acc ∧ R acc osi
theorem keep_none {as : List Addr} {D : Addr} {H0 H H0' H' : Hp} (g : Gr as H0 H H0' H') (nD : D ∉ as) (h0 : H0 D = none) (h1 : H D ≠ none) : H0' D = none := by
  cases z : H0' D with
  | none => rfl
  | some u =>
    have := g.nw D u nD z h1
    rw [h0] at this
    cases this
theorem gr_upd {as : List Addr} {D : Addr} {Ha Hb H' H : Hp} {o : HO} (g : Gr as Ha Hb H' H) (hD : Hb D = none) (h0 : H' D = none) : Gr as Ha Hb H' (upd H D o) := by
  refine ⟨g.e0, fun a o h e => ?_, g.nw, fun a h => ?_, fun a o e => ?_⟩
  · rw [upd_ne (ne_of_none e hD)]
    exact g.e1 a o h e
  · rw [upd_ne (fun z => h (by rw [z]; exact hD))]
    exact g.kp a h
  · rw [upd_ne (ne_of_none e h0)]
    exact g.sub a o e
/-- one turn of the inner walk -/
theorem lc_turn {K : PySem.W.Frag} {as : List Addr} {Ha Hb Hw : Hp} {D : Addr} {xg : XG} {tt : XT} {te : XE} {ρw : List Sl} {σw : L2.St} {vs js : List Nat} {fin : List PyData × Os} {J : It} {items : List PyData}
    (hj : ∀ j ∈ js, j ∈ vs) (nD : D ∉ as) (hD : Hb D = none) (w : WalkD K J items Hw) {i : Nat} {H2 : Hp} (hi : i ≤ items.length) (L : LcW K as Ha Hb Hw D ρw σw (fun acc osi => lcRun xg tt te ρw (items.drop i) acc osi = some fin) H2) :
    (J.stop i H2 ∧ i = items.length ∧ LcW K as Ha Hb Hw D ρw σw (fun acc osi => (acc, osi) = fin) H2) ∨
    (i < items.length ∧ J.go i H2 ∧ ∀ x H3, J.yld i H2 x H3 → gO K xg js x σw H3 fun σ4 H4 => wipe σ4 vs = wipe σw vs ∧ ttO K tt σ4 H4 fun b H5 =>
      if b = true then teO K te σ4 H5 fun y H6 => ∃ acc, H6 D = some (.lst acc) ∧ acc.length < sizeLine ∧ LcW K as Ha Hb Hw D ρw σw (fun acc osi => lcRun xg tt te ρw (items.drop (i + 1)) acc osi = some fin) (upd H6 D (.lst (acc ++ [y])))
      else LcW K as Ha Hb Hw D ρw σw (fun acc osi => lcRun xg tt te ρw (items.drop (i + 1)) acc osi = some fin) H5) := by
  obtain ⟨acc, osi, H2', vacc, nI, gI, eI, h2, h3, h4, hr⟩ := L
  by_cases hlt : i < items.length
  · refine .inr ⟨hlt, w.goes i H2 hlt (eI.trans nI.sub), fun x H3 y => ?_⟩
    obtain ⟨H3', d, g3, hd, r3⟩ := w.yields i H2 x H3 H2' hlt eI nI.sub y
    have n3 := nI.grow g3
    have e3 : items.drop i = d :: items.drop (i + 1) := by
      obtain ⟨_, e⟩ := List.getElem?_eq_some_iff.mp hd
      rw [← e]
      exact List.drop_eq_getElem_cons hlt
    rw [e3] at hr
    simp only [lcRun] at hr
    cases q1 : xg d ρw with
    | none => rw [q1] at hr; cases hr
    | some ρ1 =>
      rw [q1, Option.bind_some] at hr
      refine ⟨as, ρw, osi, H3', d, ρ1, n3, r3, q1, fun σ4 n4 w4 => ⟨w4 vs hj, ?_⟩⟩
      cases q2 : tt ρ1 osi with
      | none => rw [q2] at hr; cases hr
      | some p =>
        obtain ⟨b, os5⟩ := p
        rw [q2, Option.bind_some] at hr
        simp only at hr
        have D3 : H3 D = some (.lst vacc) := g3.e1 D _ (by simp) h3
        have D3' : H3' D = none := keep_none g3 (by simp) h2 (by rw [h3]; simp)
        refine ⟨as, ρ1, osi, H3', b, os5, n4, q2, fun H5' H5 n5 g5 => ?_⟩
        have D5 : H5 D = some (.lst vacc) := g5.e1 D _ nD D3
        have D5' : H5' D = none := keep_none g5 nD D3' (by rw [D3]; simp)
        have gA : Gr as Ha Hb H5' H5 := (gI.tr0 g3).tr g5
        cases b with
        | false =>
          simp only [Bool.false_eq_true, if_false] at hr ⊢
          exact ⟨acc, os5, H5', vacc, n5.back nI (g3.e0.trans g5.e0), gA, eI.trans (g3.e0.trans g5.e0), D5', D5, DaAll.mono (g3.e0.trans g5.e0) _ _ h4, hr⟩
        | true =>
          simp only [if_true] at hr ⊢
          cases q3 : te ρ1 os5 with
          | none => rw [q3] at hr; cases hr
          | some p =>
            obtain ⟨yv, os6⟩ := p
            rw [q3, Option.bind_some] at hr
            simp only at hr
            split at hr
            · rename_i hz
              refine ⟨as, ρ1, os5, H5', yv, os6, n5, q3, fun v H6' H6 n6 g6 r6 => ?_⟩
              have D6 : H6 D = some (.lst vacc) := g6.e1 D _ nD D5
              have D6' : H6' D = none := keep_none g6 nD D5' (by rw [D5]; simp)
              have e6 := (g3.e0.trans g5.e0).trans g6.e0
              have h46 : DaAll K H6' vacc acc := DaAll.mono e6 _ _ h4
              exact ⟨vacc, D6, by rw [h46.len]; exact hz, acc ++ [yv], os6, H6', vacc ++ [v], (n6.back nI e6).away nD (fun a h => upd_ne h) (by rw [upd_same]; simp) D6', gr_upd (gA.tr g6) hD D6', eI.trans e6, D6', upd_same, h46.app (.cons r6 .nil), hr⟩
            · cases hr
  · have e : items.drop i = [] := List.drop_eq_nil_of_le (by omega)
    rw [e] at hr
    exact .inl ⟨by
      have ei : i = items.length := by omega
      rw [ei]
      exact w.stops H2 (eI.trans nI.sub), by omega, acc, osi, H2', vacc, nI, gI, eI, h2, h3, h4, by simpa [lcRun] using hr⟩
section
variable {X : Cx} {elt tg iter tg1 iter1 : Expr} {ifs ifs1 : List Expr} {scope : Scope} {own : List (Str × Nat)} {pos : Pos} {xi xi1 : XI} {xg xg1 : XG} {js js1 : List Nat} {tt tt1 : XT} {te : XE}
theorem to_lc2 {K : PySem.W.Frag} {vs vs1 : List Nat} (hj : ∀ j ∈ js, j ∈ vs) (hj1 : ∀ j ∈ js1, j ∈ vs1) {σ : L2.St} {H : Hp} {Q : VK} (hv : ∀ j ∈ vs1, j ∈ vs) (q : teF K (lc2D xi xg tt xi1 xg1 tt1 te vs vs1) σ H Q) : tLc2 (tiO K xi) (gO K xg js) (ttO K tt) (tiO K xi1) (gO K xg1 js1) (ttO K tt1) (teO K te) vs vs1 σ H Q := by
  obtain ⟨as, ρ, os, H0, ds, os', n, hx, k⟩ := q
  unfold lc2D at hx
  cases h1 : xi ρ os with
  | none => rw [h1] at hx; cases hx
  | some q =>
    obtain ⟨items, os1⟩ := q
    rw [h1, Option.bind_some] at hx
    refine ⟨as, ρ, os, H0, items, os1, n, h1, fun J Ha Hb n1 g1 w => ?_⟩
    intro D hD
    have nD : D ∉ as := fun z => n1.ow.trk D z hD
    refine ⟨fun i m H2 => m = items.length - i ∧ i ≤ items.length ∧ LcW K as Ha Hb Ha D (wipeR ρ vs) (wipe σ vs) (fun acc osi => lc2Run xg tt xi1 xg1 tt1 te vs1 (wipeR ρ vs) (items.drop i) acc osi = some (ds, os')) H2, ⟨items.length, by simp, Nat.zero_le _, [], os1, Ha, [], ?_, ?_, Ex.refl _, fresh_back n1.sub hD, upd_same, .nil, hx⟩, ?_⟩
    · exact (n1.wipe vs).away nD (fun a h => upd_ne h) (by rw [upd_same]; simp) (fresh_back n1.sub hD)
    · exact gr_upd (Gr.refl n1.sub) hD (fresh_back n1.sub hD)
    rintro i m H2 ⟨rfl, hi, acc, osi, H2', vacc, nI, gI, eI, h2, h3, h4, hr⟩
    by_cases hlt : i < items.length
    · refine .inr ⟨w.goes i H2 hlt (eI.trans nI.sub), LcW K as Ha Hb Ha D (wipeR ρ vs) (wipe σ vs) (fun acc osi => lc2Run xg tt xi1 xg1 tt1 te vs1 (wipeR ρ vs) (items.drop (i + 1)) acc osi = some (ds, os')), fun H3 p3 => ⟨items.length - (i + 1), by omega, rfl, hlt, p3⟩, fun x H3 y => ?_⟩
      obtain ⟨H3', d, g3, hd, r3⟩ := w.yields i H2 x H3 H2' hlt eI nI.sub y
      have n3 := nI.grow g3
      have e3 : items.drop i = d :: items.drop (i + 1) := by
        obtain ⟨_, e⟩ := List.getElem?_eq_some_iff.mp hd
        rw [← e]
        exact List.drop_eq_getElem_cons hlt
      rw [e3] at hr
      simp only [lc2Run] at hr
      cases q1 : xg d (wipeR ρ vs) with
      | none => rw [q1] at hr; cases hr
      | some ρ1 =>
        rw [q1, Option.bind_some] at hr
        refine ⟨as, wipeR ρ vs, osi, H3', d, ρ1, n3, r3, q1, fun σ4 n4 w4 => ⟨(w4 vs hj).trans wipe_wipe, ?_⟩⟩
        cases q2 : tt ρ1 osi with
        | none => rw [q2] at hr; cases hr
        | some p =>
          obtain ⟨b, os5⟩ := p
          rw [q2, Option.bind_some] at hr
          simp only at hr
          have D3 : H3 D = some (.lst vacc) := g3.e1 D _ (by simp) h3
          have D3' : H3' D = none := keep_none g3 (by simp) h2 (by rw [h3]; simp)
          refine ⟨as, ρ1, osi, H3', b, os5, n4, q2, fun H5' H5 n5 g5 => ?_⟩
          have D5 : H5 D = some (.lst vacc) := g5.e1 D _ nD D3
          have D5' : H5' D = none := keep_none g5 nD D3' (by rw [D3]; simp)
          have gA : Gr as Ha Hb H5' H5 := (gI.tr0 g3).tr g5
          cases b with
          | false =>
            simp only [Bool.false_eq_true, if_false] at hr ⊢
            exact ⟨acc, os5, H5', vacc, n5.back nI (g3.e0.trans g5.e0), gA, eI.trans (g3.e0.trans g5.e0), D5', D5, DaAll.mono (g3.e0.trans g5.e0) _ _ h4, hr⟩
          | true =>
            simp only [if_true] at hr ⊢
            cases q3 : xi1 ρ1 os5 with
            | none => rw [q3] at hr; cases hr
            | some p =>
              obtain ⟨items1, os6⟩ := p
              rw [q3, Option.bind_some] at hr
              simp only at hr
              cases q4 : lcRun xg1 tt1 te (wipeR ρ1 vs1) items1 acc os6 with
              | none => rw [q4] at hr; cases hr
              | some fin =>
                rw [q4, Option.bind_some] at hr
                refine ⟨as, ρ1, os5, H5', items1, os6, n5, q3, fun J1 H6' H6 n6 g6 w1 => ?_⟩
                have D6 : H6 D = some (.lst vacc) := g6.e1 D _ nD D5
                have D6' : H6' D = none := keep_none g6 nD D5' (by rw [D5]; simp)
                have e6 := (g3.e0.trans g5.e0).trans g6.e0
                refine ⟨fun j kk H => kk = items1.length - j ∧ j ≤ items1.length ∧ LcW K as Ha Hb H6' D (wipeR ρ1 vs1) (wipe σ4 vs1) (fun acc osi => lcRun xg1 tt1 te (wipeR ρ1 vs1) (items1.drop j) acc osi = some fin) H, ⟨items1.length, by simp, Nat.zero_le _, acc, os6, H6', vacc, n6.wipe vs1, gA.tr g6, Ex.refl _, D6', D6, DaAll.mono e6 _ _ h4, by simpa using q4⟩, ?_⟩
                rintro j kk H7 ⟨rfl, hjl, L⟩
                rcases lc_turn hj1 nD hD w1 hjl L with ⟨st, je, acc2, os7, H7', vacc2, n7, g7, e7, z2, z3, z4, z5⟩ | ⟨hlt1, go, ty⟩
                · cases z5
                  refine .inl ⟨st, acc2, os7, H7', vacc2, ?_, g7, eI.trans (e6.trans e7), z2, z3, z4, hr⟩
                  exact n7.back nI (e6.trans e7)
                · refine .inr ⟨go, LcW K as Ha Hb H6' D (wipeR ρ1 vs1) (wipe σ4 vs1) (fun acc osi => lcRun xg1 tt1 te (wipeR ρ1 vs1) (items1.drop (j + 1)) acc osi = some fin), fun H' p' => ⟨items1.length - (j + 1), by omega, rfl, hlt1, p'⟩, fun x H8 y8 => ?_⟩
                  have := ty x H8 y8
                  obtain ⟨as', ρ', os', Hx, dx, ρx, na, ra, xa, ka⟩ := this
                  refine ⟨as', ρ', os', Hx, dx, ρx, na, ra, xa, fun σ9 n9 w9 => ?_⟩
                  obtain ⟨u1, u2⟩ := ka σ9 n9 w9
                  exact ⟨u1.trans wipe_wipe, u2⟩
    · have e : items.drop i = [] := List.drop_eq_nil_of_le (by omega)
      rw [e] at hr
      cases hr
      have ei : i = items.length := by omega
      subst ei
      refine .inl ⟨w.stops H2 (eI.trans nI.sub), k D vacc H2' H2 ?_ ?_ (g1.tr gI) h2 nD h3 h4⟩
      · cases z : H D with
        | none => rfl
        | some u => exact absurd hD (g1.kp D (by rw [z]; simp))
      · exact nI.back n1 gI.e0
theorem pxf_lc2 {vs1 : List Nat} (hc : X.calm = true) (hN : X.N.Nodup) (hi : PXI X tg iter xi) (ok : BlkOk X.N X.env.scope scope own) (hv : ∀ i ∈ vs1, i ∈ own.map (·.2))
    (hg : ∀ (s : Shared) (H : Hp) (C : Addr) (cl : List (Str × Addr)) (fp : List Addr), PXG (X.blk s H scope (compEnvC scope cl C X.env) fp) tg xg js)
    (ht : ∀ (s : Shared) (H : Hp) (C : Addr) (cl : List (Str × Addr)) (fp : List Addr), PXTs (X.blk s H scope (compEnvC scope cl C X.env) fp) ifs tt)
    (hi1 : ∀ (s : Shared) (H : Hp) (C : Addr) (cl : List (Str × Addr)) (fp : List Addr), PXI (X.blk s H scope (compEnvC scope cl C X.env) fp) tg1 iter1 xi1)
    (hg1 : ∀ (s : Shared) (H : Hp) (C : Addr) (cl : List (Str × Addr)) (fp : List Addr), PXG (X.blk s H scope (compEnvC scope cl C X.env) fp) tg1 xg1 js1)
    (ht1 : ∀ (s : Shared) (H : Hp) (C : Addr) (cl : List (Str × Addr)) (fp : List Addr), PXTs (X.blk s H scope (compEnvC scope cl C X.env) fp) ifs1 tt1)
    (he : ∀ (s : Shared) (H : Hp) (C : Addr) (cl : List (Str × Addr)) (fp : List Addr), PX (X.blk s H scope (compEnvC scope cl C X.env) fp) elt te)
    (hj : ∀ j ∈ js, j ∈ own.map (·.2)) (hj1 : ∀ j ∈ js1, j ∈ vs1) (hs : ∀ x, foldedSetIterable iter X.env x = pure x := by intro _; rfl) (hs1 : ∀ env x, foldedSetIterable iter1 env x = pure x := by intro _ _; rfl) :
    PXF X (.ListComp elt [⟨tg, iter, ifs, 0⟩, ⟨tg1, iter1, ifs1, 0⟩] scope pos) (lc2D xi xg tt xi1 xg1 tt1 te (own.map (·.2)) vs1) :=
  pe_imp (pe_lc2 hc hN hi ok hv hg ht hi1 hg1 ht1 he hs hs1) fun _ _ _ q => to_lc2 hj hj1 hv q
end
end DL

set_option Elab.async false
set_option linter.all false
set_option maxRecDepth 100000
set_option maxHeartbeats 4000000
namespace DL
open PySem PySem.Spec PyProof.Rows L2 Evl
/-! ### sorted, of whole numbers -/
def insI (x : Int) : List Int → List Int
  | [] => [x]
  | y :: r => if x ≤ y then x :: y :: r else y :: insI x r
def sortI : List Int → List Int
  | [] => []
  | x :: r => insI x (sortI r)
theorem insI_perm (x : Int) : ∀ l : List Int, (insI x l).Perm (x :: l)
  | [] => List.Perm.refl _
  | y :: r => by
    unfold insI
    split
    · exact List.Perm.refl _
    · exact ((insI_perm x r).cons y).trans (List.Perm.swap x y r)
theorem sortI_perm : ∀ l : List Int, (sortI l).Perm l
  | [] => List.Perm.refl _
  | x :: r => (insI_perm x _).trans ((sortI_perm r).cons x)
theorem insI_sorted (x : Int) : ∀ {l : List Int}, l.Pairwise (· ≤ ·) → (insI x l).Pairwise (· ≤ ·)
  | [], _ => by simp [insI]
  | y :: r, h => by
    obtain ⟨h1, h2⟩ := List.pairwise_cons.mp h
    unfold insI
    split
    · rename_i hxy
      refine List.pairwise_cons.mpr ⟨fun z hz => ?_, h⟩
      rcases List.mem_cons.mp hz with e | e
      · rw [e]
        exact hxy
      · exact Int.le_trans hxy (h1 z e)
    · rename_i hxy
      refine List.pairwise_cons.mpr ⟨fun z hz => ?_, insI_sorted x h2⟩
      rcases List.mem_cons.mp ((insI_perm x r).mem_iff.mp hz) with e | e
      · rw [e]
        omega
      · exact h1 z e
theorem sortI_sorted : ∀ l : List Int, (sortI l).Pairwise (· ≤ ·)
  | [] => .nil
  | x :: r => insI_sorted x (sortI_sorted r)
theorem sort_uniq : ∀ {l m : List Int}, l.Perm m → l.Pairwise (· ≤ ·) → m.Pairwise (· ≤ ·) → l = m
  | [], m, p, _, _ => (List.Perm.nil_eq p)
  | x :: r, [], p, _, _ => absurd p.length_eq (by simp)
  | x :: r, y :: t, p, h1, h2 => by
    obtain ⟨a1, a2⟩ := List.pairwise_cons.mp h1
    obtain ⟨b1, b2⟩ := List.pairwise_cons.mp h2
    have e : x = y := by
      have i1 : y ∈ x :: r := p.mem_iff.mpr (by simp)
      have i2 : x ∈ y :: t := p.mem_iff.mp (by simp)
      have l1 : x ≤ y := by
        rcases List.mem_cons.mp i1 with q | q
        · omega
        · exact a1 y q
      have l2 : y ≤ x := by
        rcases List.mem_cons.mp i2 with q | q
        · omega
        · exact b1 x q
      omega
    subst e
    rw [sort_uniq ((List.perm_cons x).mp p) a2 b2]
def sortedD : List PyData → Option PyData
  | [.list c] => (intsOf c).map fun ns => .list ((sortI ns).map .int)
  | _ => none
theorem da_ints {K : PySem.W.Frag} {H : Hp} : ∀ {vs : List V} {ns : List Int}, DaAll K H vs (ns.map .int) → vs = ns.map V.int
  | [], [], _ => rfl
  | v :: vs, n :: ns, h => by
    cases h with
    | cons h1 h2 =>
      cases h1
      rw [da_ints h2]
      rfl
  | [], _ :: _, h => by cases h
  | _ :: _, [], h => by cases h
theorem ints_da {K : PySem.W.Frag} {H : Hp} : ∀ ns : List Int, DaAll K H (ns.map V.int) (ns.map .int)
  | [] => .nil
  | n :: r => .cons (.int n) (ints_da r)
theorem c_sorted {X : Cx} : CallR X (.builtin "sorted") (rC X.K sortedD) := callC fun pins s σ H H0 xs us Q ds z I r s0 ha hf q => by
  unfold sortedD at hf
  split at hf
  · rename_i c
    cases h3 : intsOf c with
    | none => rw [h3] at hf; cases hf
    | some ns =>
      rw [h3] at hf
      cases hf
      obtain ⟨x, rfl, h⟩ := da1 ha
      have hc := intsOf_eq h3
      subst hc
      cases h with
      | lst h1 h2 =>
        have hv := da_ints h2
        subst hv
        refine cr_sortedI pins s σ H _ us Q I r ⟨_, ns, rfl, ex_l s0 h1, fun ns' p hp hs hn => ?_⟩
        have e : ns' = sortI ns := sort_uniq (hp.trans (sortI_perm ns).symm) hs (sortI_sorted ns)
        subst e
        have g := Gr.new (o := HO.lst ((sortI ns).map V.int)) s0 hn
        exact q _ _ _ g (.lst (SqL.of upd_same) (ints_da _))
  · cases hf
theorem bt_sorted : bootBuiltins "sorted" = some (.builtin "sorted") := by decide +kernel
end DL

set_option Elab.async false
set_option linter.all false
set_option maxRecDepth 100000
set_option maxHeartbeats 4000000
namespace DL
open PySem PySem.Spec PyProof.Rows L2 Evl
section
variable {X : Cx} {a b : Expr} {xl : XI} {xb : XE} {pos : Pos}
/-- a new list, so many times -/
def fRep (xl : XI) (xb : XE) : XI := fun ρ os => (xl ρ os).bind fun p => (xb ρ p.2).bind fun q => match q.1 with
  | .int k => if -(2 ^ 63) ≤ k ∧ k < 2 ^ 63 ∧ p.1.length * k.toNat ≤ sizeLine then some ((List.replicate k.toNat p.1).flatten, q.2) else none
  | _ => none
theorem da_rep {K : PySem.W.Frag} {H : Hp} {vs : List V} {ds : List PyData} (h : DaAll K H vs ds) : ∀ n : Nat, DaAll K H (List.replicate n vs).flatten (List.replicate n ds).flatten
  | 0 => .nil
  | n + 1 => by
    rw [List.replicate_succ, List.replicate_succ, List.flatten_cons, List.flatten_cons]
    exact h.app (da_rep h n)
theorem pxf_rep (ha : PXF X a xl) (hb : PX X b xb) : PXF X (.BinOp a .Mult b pos) (fRep xl xb) := pe_imp (pe_op op_rep ha hb) fun σ H Q q => by
  obtain ⟨as, ρ, os, H0, ds, os', n, hx, k⟩ := q
  unfold fRep at hx
  cases h1 : xl ρ os with
  | none => rw [h1] at hx; cases hx
  | some p =>
    obtain ⟨ds1, os1⟩ := p
    rw [h1, Option.bind_some] at hx
    simp only at hx
    cases h2 : xb ρ os1 with
    | none => rw [h2] at hx; cases hx
    | some q =>
      obtain ⟨d, os2⟩ := q
      rw [h2, Option.bind_some] at hx
      simp only at hx
      split at hx
      · rename_i kk
        split at hx
        · rename_i hc
          cases hx
          refine ⟨as, ρ, os, H0, ds1, os1, n, h1, fun p vs H0' H' hp n1 g1 e1 e2 e3 r => ⟨as, ρ, os1, H0', _, _, n1, h2, fun v H2' H2 n2 g2 r2 => ?_⟩⟩
          cases r2
          have e4 : H2 p = some (.lst vs) := g2.e1 p _ e2 e3
          have r4 := DaAll.mono g2.e0 _ _ r
          refine ⟨p, kk, vs, rfl, rfl, e4, hc.1, hc.2.1, by rw [r.len]; exact hc.2.2, fun z hz => ?_⟩
          have h0 : H2' z = none := fresh_back n2.sub hz
          have nD : z ∉ as := fun y => n2.ow.trk z y hz
          have gg := fresh_up (o := .lst (List.replicate kk.toNat vs).flatten) (g1.tr g2) hz
          exact k z _ H2' _ gg.2 (n2.away nD (fun a h => upd_ne h) (by rw [upd_same]; simp) h0) gg.1 h0 nD upd_same (da_rep r4 _)
        · cases hx
      · cases hx
end
end DL

set_option Elab.async false
set_option linter.all false
set_option maxRecDepth 100000
set_option maxHeartbeats 4000000
namespace DL
open PySem PySem.Spec PyProof.Rows L2 Evl
/-! ### expressions that may hand on an object of one's own -/
abbrev XS := List Sl → Os → Option (Sl × Os)
/-- nothing new is held -/
def teR (K : PySem.W.Frag) (x : XS) : TE := fun σ H Q => ∃ as ρ os H0 s os', En K as ρ os σ H0 H ∧ x ρ os = some (s, os') ∧ ∀ v H0' H', En K as ρ os' σ H0' H' → Gr as H0 H H0' H' → ArgOk K as H0' v s → Q v H'
/-- new ones may be held -/
def teS (K : PySem.W.Frag) (x : XS) : TE := fun σ H Q => ∃ as ρ os H0 s os', En K as ρ os σ H0 H ∧ x ρ os = some (s, os') ∧ ∀ v as' H0' H', Exs as H as' → En K as' ρ os' σ H0' H' → Gr as H0 H H0' H' → ArgOk K as' H0' v s → Q v H'
abbrev PXV (X : Cx) (e : Expr) (x : XS) : Prop := PE X e (teR X.K x)
abbrev PXS (X : Cx) (e : Expr) (x : XS) : Prop := PE X e (teS X.K x)
section
variable {X : Cx} {W : WX} {fr : Option Nat} {a b c e : Expr} {es : List Expr} {xa xb xe : XE} {xr xs : XS} {ra : XA} {pos p apos : Pos} {f m : Str} {C : Addr} {st : Stmt}
theorem pxs_r (h : PXV X e xr) : PXS X e xr := pe_imp h fun σ H Q q => by
  obtain ⟨as, ρ, os, H0, s, os', n, hx, k⟩ := q
  exact ⟨as, ρ, os, H0, s, os', n, hx, fun v H0' H' n1 g1 r1 => k v as H0' H' Exs.refl n1 g1 r1⟩
def xrD (xe : XE) : XS := fun ρ os => (xe ρ os).map fun p => (.d p.1, p.2)
theorem pxv_d (h : PX X e xe) : PXV X e (xrD xe) := pe_imp h fun σ H Q q => by
  obtain ⟨as, ρ, os, H0, s, os', n, hx, k⟩ := q
  unfold xrD at hx
  cases h1 : xe ρ os with
  | none => rw [h1] at hx; cases hx
  | some p =>
    rw [h1] at hx
    cases hx
    exact ⟨as, ρ, os, H0, p.1, p.2, n, h1, fun v H0' H' n1 g1 r1 => k v H0' H' n1 g1 r1⟩
/-- it is data -/
def xeD (xr : XS) : XE := fun ρ os => (xr ρ os).bind fun p => match p.1 with
  | .d x => some (x, p.2)
  | _ => none
theorem px_of_r (h : PXV X e xr) : PX X e (xeD xr) := pe_imp h fun σ H Q q => by
  obtain ⟨as, ρ, os, H0, d, os', n, hx, k⟩ := q
  unfold xeD at hx
  cases h1 : xr ρ os with
  | none => rw [h1] at hx; cases hx
  | some p =>
    obtain ⟨s, os1⟩ := p
    rw [h1, Option.bind_some] at hx
    cases s with
    | d x =>
      cases hx
      exact ⟨as, ρ, os, H0, _, _, n, h1, fun v H0' H' n1 g1 r1 => k v H0' H' n1 g1 r1⟩
    | _ => cases hx
def xrVar (i : Nat) : XS := fun ρ os => match ρ[i]? with
  | some .u => none
  | some s => some (s, os)
  | none => none
theorem pxv_var {i : Nat} (h : PE X e (tVar i)) : PXV X e (xrVar i) := pe_imp h fun σ H Q q => by
  obtain ⟨as, ρ, os, H0, d, os', n, hx, k⟩ := q
  unfold xrVar at hx
  split at hx
  · cases hx
  · rename_i s hs hi
    cases hx
    obtain ⟨v, hv, r⟩ := n.val hi hs
    exact ⟨v, hv, k v H0 H n (Gr.refl n.sub) r⟩
  · cases hx
/-! attributes -/
theorem fs_at {K : PySem.W.Frag} {as : List Addr} {H0 : Hp} : ∀ {gs : List (Str × V)} {fs : List (Str × Sl)} {f : Str} {s : Sl}, FsOk K as H0 gs fs → fs.lookup f = some s → ∃ v, gs.lookup f = some v ∧ ArgOk K as H0 v s
  | [], [], _, _, _, h => by cases h
  | g :: gs, q :: fs, f, s, h, e => by
    obtain ⟨h1, h2, h3⟩ := h
    obtain ⟨gn, gv⟩ := g
    obtain ⟨qn, qs⟩ := q
    cases h1
    cases hb : (f == gn) with
    | true =>
      simp only [List.lookup, hb] at e ⊢
      cases e
      exact ⟨gv, rfl, h2⟩
    | false =>
      simp only [List.lookup, hb] at e ⊢
      exact fs_at h3 e
  | [], _ :: _, _, _, h, _ => h.elim
  | _ :: _, [], _, _, h, _ => h.elim
theorem fs_no {K : PySem.W.Frag} {as : List Addr} {H0 : Hp} : ∀ {gs : List (Str × V)} {fs : List (Str × Sl)} {f : Str}, FsOk K as H0 gs fs → fs.lookup f = none → gs.lookup f = none
  | [], [], _, _, _ => rfl
  | g :: gs, q :: fs, f, h, e => by
    obtain ⟨h1, h2, h3⟩ := h
    obtain ⟨gn, gv⟩ := g
    obtain ⟨qn, qs⟩ := q
    cases h1
    cases hb : (f == gn) with
    | true =>
      simp only [List.lookup, hb] at e
      cases e
    | false =>
      simp only [List.lookup, hb] at e ⊢
      exact fs_no h3 e
  | [], _ :: _, _, h, _ => h.elim
  | _ :: _, [], _, h, _ => h.elim
theorem fs_len {K : PySem.W.Frag} {as : List Addr} {H0 : Hp} : ∀ {gs : List (Str × V)} {fs : List (Str × Sl)}, FsOk K as H0 gs fs → gs.length = fs.length
  | [], [], _ => rfl
  | _ :: _, _ :: _, h => by rw [List.length_cons, List.length_cons, fs_len h.2.2]
  | [], _ :: _, h => h.elim
  | _ :: _, [], h => h.elim
def putS (f : Str) (s : Sl) : List (Str × Sl) → List (Str × Sl)
  | [] => [(f, s)]
  | (g, x) :: r => if g = f then (g, s) :: r else (g, x) :: putS f s r
theorem fs_put {K : PySem.W.Frag} {as : List Addr} {H0 : Hp} {f : Str} {v : V} {s : Sl} (r : ArgOk K as H0 v s) : ∀ {gs : List (Str × V)} {fs : List (Str × Sl)}, FsOk K as H0 gs fs → FsOk K as H0 (putF f v gs) (putS f s fs)
  | [], [], _ => ⟨rfl, r, True.intro⟩
  | (gn, gv) :: gs, (qn, qs) :: fs, h => by
    obtain ⟨h1, h2, h3⟩ := h
    cases h1
    simp only [putF, putS]
    split
    · exact ⟨rfl, r, h3⟩
    · exact ⟨rfl, h2, fs_put r h3⟩
  | [], _ :: _, h => h.elim
  | _ :: _, [], h => h.elim
/-- an instance of the class at C, by its number -/
def insAt (C : Addr) (os : Os) : Sl → Option (Nat × List (Str × Sl))
  | .o k => match os[k]? with
    | some (some (.i C' fs)) => if C' = C then some (k, fs) else none
    | _ => none
  | _ => none
theorem insAt_some {os : Os} {s : Sl} {k : Nat} {fs : List (Str × Sl)} (h : insAt C os s = some (k, fs)) : s = .o k ∧ os[k]? = some (some (.i C fs)) := by
  unfold insAt at h
  split at h
  · split at h
    · rename_i C' fs' h1
      split at h
      · rename_i hc
        cases h
        subst hc
        exact ⟨rfl, h1⟩
      · cases h
    · cases h
  · cases h
def slU : Sl → Bool
  | .u => true
  | _ => false
/-- e.f -/
def xrFld (C : Addr) (f : Str) (xr : XS) : XS := fun ρ os => (xr ρ os).bind fun p => (insAt C p.2 p.1).bind fun q => (q.2.lookup f).map fun s => (s, p.2)
theorem pxv_fld (hc : Cls X.K C) (hn : NoAttr X.K C f) (he : PXV X e xr) (hb : attributeBase e f X.env (eval e X.env) = eval e X.env := by rfl) : PXV X (.Attribute e f pos) (xrFld C f xr) := pe_imp (pe_fld he hb) fun σ H Q q => by
  obtain ⟨as, ρ, os, H0, s, os', n, hx, k⟩ := q
  unfold xrFld at hx
  cases h1 : xr ρ os with
  | none => rw [h1] at hx; cases hx
  | some p =>
    obtain ⟨s1, os1⟩ := p
    rw [h1, Option.bind_some] at hx
    simp only at hx
    cases h2 : insAt C os1 s1 with
    | none => rw [h2] at hx; cases hx
    | some q2 =>
      obtain ⟨j, fs⟩ := q2
      rw [h2, Option.bind_some] at hx
      simp only at hx
      cases h3 : fs.lookup f with
      | none => rw [h3] at hx; cases hx
      | some s2 =>
        rw [h3] at hx
        cases hx
        obtain ⟨rfl, h4⟩ := insAt_some h2
        refine ⟨as, ρ, os, H0, _, _, n, h1, fun v H0' H' n1 g1 r1 => ?_⟩
        obtain ⟨ad, e1, rfl⟩ := r1
        obtain ⟨q1, o, q2, q3⟩ := n1.ow.at_ j ad _ e1 h4
        obtain ⟨dx, gs, rfl, r⟩ := q3.i_of
        obtain ⟨u, l1, l2⟩ := fs_at r h3
        exact ⟨ad, C, dx, gs, u, rfl, q2, hc, hn, l1, k u H0' H' n1 g1 l2⟩
end
end DL

set_option Elab.async false
set_option linter.all false
set_option maxRecDepth 100000
set_option maxHeartbeats 4000000
namespace DL
open PySem PySem.Spec PyProof.Rows L2 Evl
/-! ### dicts of one's own -/
def keyOf : PyData → Option Key
  | .int i => some (.inl i)
  | .str x => some (.inr x)
  | _ => none
def keysOf : List PyData → Option (List Key)
  | [] => some []
  | d :: r => (keyOf d).bind fun k => (keysOf r).map fun ks => k :: ks
section
variable {κ : Type} [DecidableEq κ]
def valP (ps : List (κ × PyData)) (k : κ) : Option PyData := (ps.find? fun kv => decide (kv.1 = k)).map (·.2)
def putP (ps : List (κ × PyData)) (k : κ) (v : PyData) : List (κ × PyData) :=
  if (ps.any fun kv => decide (kv.1 = k)) = true then ps.map (fun kv => if kv.1 = k then (kv.1, v) else kv) else ps ++ [(k, v)]
theorem val_rel {K : PySem.W.Frag} {H0 : Hp} {k : κ} : ∀ {kvs : List (κ × V)} {ps : List (κ × PyData)}, PsOk K H0 kvs ps → (valP ps k = none → valV kvs k = none) ∧ ∀ d, valP ps k = some d → ∃ v, valV kvs k = some v ∧ Da K H0 v d
  | [], [], _ => ⟨fun _ => rfl, fun d h => by cases h⟩
  | p :: kvs, q :: ps, h => by
    obtain ⟨h1, h2, h3⟩ := h
    have ih := val_rel (k := k) h3
    unfold valP valV at ih ⊢
    by_cases e : p.1 = k
    · have e2 : q.1 = k := h1.symm.trans e
      simp only [List.find?_cons, e, e2, decide_true]
      exact ⟨fun h => by simp at h, fun d h => ⟨p.2, rfl, by simp at h; rw [← h]; exact h2⟩⟩
    · have e2 : ¬ q.1 = k := fun z => e (h1.trans z)
      simp only [List.find?_cons, e, e2, decide_false]
      exact ih
  | [], _ :: _, h => h.elim
  | _ :: _, [], h => h.elim
theorem any_rel {K : PySem.W.Frag} {H0 : Hp} {k : κ} : ∀ {kvs : List (κ × V)} {ps : List (κ × PyData)}, PsOk K H0 kvs ps → (kvs.any fun kv => decide (kv.1 = k)) = (ps.any fun kv => decide (kv.1 = k))
  | [], [], _ => rfl
  | p :: kvs, q :: ps, h => by
    simp only [List.any_cons]
    rw [any_rel h.2.2, h.1]
  | [], _ :: _, h => h.elim
  | _ :: _, [], h => h.elim
theorem ps_len {K : PySem.W.Frag} {H0 : Hp} : ∀ {kvs : List (κ × V)} {ps : List (κ × PyData)}, PsOk K H0 kvs ps → kvs.length = ps.length
  | [], [], _ => rfl
  | _ :: _, _ :: _, h => by rw [List.length_cons, List.length_cons, ps_len h.2.2]
  | [], _ :: _, h => h.elim
  | _ :: _, [], h => h.elim
theorem map_rel {K : PySem.W.Frag} {H0 : Hp} {k : κ} {v : V} {d : PyData} (r : Da K H0 v d) : ∀ {kvs : List (κ × V)} {ps : List (κ × PyData)}, PsOk K H0 kvs ps → PsOk K H0 (kvs.map fun kv => if kv.1 = k then (kv.1, v) else kv) (ps.map fun kv => if kv.1 = k then (kv.1, d) else kv)
  | [], [], _ => True.intro
  | p :: kvs, q :: ps, h => by
    obtain ⟨h1, h2, h3⟩ := h
    simp only [List.map_cons]
    refine ⟨?_, ?_, map_rel r h3⟩
    · by_cases e : p.1 = k
      · rw [if_pos e, if_pos (h1.symm.trans e)]
        exact h1
      · rw [if_neg e, if_neg (fun z => e (h1.trans z))]
        exact h1
    · by_cases e : p.1 = k
      · rw [if_pos e, if_pos (h1.symm.trans e)]
        exact r
      · rw [if_neg e, if_neg (fun z => e (h1.trans z))]
        exact h2
  | [], _ :: _, h => h.elim
  | _ :: _, [], h => h.elim
theorem psOk_app {K : PySem.W.Frag} {H0 : Hp} : ∀ {kvs lvs : List (κ × V)} {ps qs : List (κ × PyData)}, PsOk K H0 kvs ps → PsOk K H0 lvs qs → PsOk K H0 (kvs ++ lvs) (ps ++ qs)
  | [], _, [], _, _, g => g
  | _ :: _, _, _ :: _, _, h, g => ⟨h.1, h.2.1, psOk_app h.2.2 g⟩
  | [], _, _ :: _, _, h, _ => h.elim
  | _ :: _, _, [], _, h, _ => h.elim
theorem put_rel {K : PySem.W.Frag} {H0 : Hp} {k : κ} {v : V} {d : PyData} (r : Da K H0 v d) {kvs : List (κ × V)} {ps : List (κ × PyData)} (h : PsOk K H0 kvs ps) : PsOk K H0 (putK kvs k v) (putP ps k d) := by
  unfold putK putP
  rw [any_rel h]
  split
  · exact map_rel r h
  · exact psOk_app h ⟨rfl, r, True.intro⟩
end
theorem key_rel {K : PySem.W.Frag} {H : Hp} {v : V} {d : PyData} {k : Key} (h : Da K H v d) (e : keyOf d = some k) : v = kV k := by
  cases h <;> first | (cases e; rfl) | cases e
theorem keys_rel {K : PySem.W.Frag} {H : Hp} : ∀ {vs : List V} {ds : List PyData} {ks : List Key}, DaAll K H vs ds → keysOf ds = some ks → vs = ks.map kV
  | _, _, ks, .nil, e => by cases e; rfl
  | _, _, ks, .cons (d := d) (ds := ds) h t, e => by
    simp only [keysOf] at e
    cases h1 : keyOf d with
    | none => rw [h1] at e; cases e
    | some k =>
      rw [h1, Option.bind_some] at e
      cases h2 : keysOf ds with
      | none => rw [h2] at e; cases e
      | some kk =>
        rw [h2] at e
        cases e
        rw [key_rel h h1, keys_rel t h2]
        rfl
/-- what a dict holds at a key -/
def getO : Ob → PyData → Option (Option PyData)
  | .k ps, d => (keyOf d).map fun k => valP ps k
  | .T ps, .tuple ds => (keysOf ds).map fun ks => valP ps ks
  | _, _ => none
def putO : Ob → PyData → PyData → Option Ob
  | .k ps, d, v => (keyOf d).bind fun k => if ps.length < sizeLine then some (.k (putP ps k v)) else none
  | .T ps, .tuple ds, v => (keysOf ds).bind fun ks => if ps.length < sizeLine then some (.T (putP ps ks v)) else none
  | _, _, _ => none
theorem getO_ok {K : PySem.W.Frag} {as : List Addr} {H0 H : Hp} {a : Addr} {ob : Ob} {o : HO} {y : V} {d : PyData} {r : Option PyData} (s : Ex H0 H) (h : H a = some o) (c : Cont K as H0 o ob) (hy : Da K H0 y d) (e : getO ob d = some r) :
    ∃ r', DGet H a y r' ∧ ((r = none ∧ r' = none) ∨ ∃ x v, r = some x ∧ r' = some v ∧ Da K H0 v x) := by
  cases ob with
  | k ps =>
    obtain ⟨kvs, rfl, c⟩ := c.k_of
    simp only [getO] at e
    cases h1 : keyOf d with
    | none => rw [h1] at e; cases e
    | some k =>
      rw [h1] at e
      cases e
      have ey := key_rel hy h1
      subst ey
      refine ⟨valV kvs k, DGet.k h, ?_⟩
      obtain ⟨r1, r2⟩ := val_rel (k := k) c
      cases h3 : valP ps k with
      | none => exact .inl ⟨h3, r1 h3⟩
      | some x =>
        obtain ⟨v, h4, h5⟩ := r2 x h3
        exact .inr ⟨x, v, h3, h4, h5⟩
  | T ps =>
    obtain ⟨kvs, rfl, c⟩ := c.T_of
    cases d with
    | tuple ds =>
      simp only [getO] at e
      cases h1 : keysOf ds with
      | none => rw [h1] at e; cases e
      | some ks =>
        rw [h1] at e
        cases e
        cases hy with
        | tup h6 h7 =>
          have ey := keys_rel h7 h1
          subst ey
          refine ⟨valV kvs ks, DGet.t h (s _ _ h6), ?_⟩
          obtain ⟨r1, r2⟩ := val_rel (k := ks) c
          cases h3 : valP ps ks with
          | none => exact .inl ⟨h3, r1 h3⟩
          | some x =>
            obtain ⟨v, h4, h5⟩ := r2 x h3
            exact .inr ⟨x, v, h3, h4, h5⟩
    | _ => cases e
  | _ => cases e
theorem putO_ok {K : PySem.W.Frag} {as : List Addr} {H0 H : Hp} {a : Addr} {ob ob' : Ob} {o : HO} {y v : V} {d x : PyData} (s : Ex H0 H) (h : H a = some o) (c : Cont K as H0 o ob) (hy : Da K H0 y d) (hv : Da K H0 v x) (e : putO ob d x = some ob') :
    ∃ o', DPut H a y v (upd H a o') ∧ Cont K as H0 o' ob' := by
  cases ob with
  | k ps =>
    obtain ⟨kvs, rfl, c⟩ := c.k_of
    simp only [putO] at e
    cases h1 : keyOf d with
    | none => rw [h1] at e; cases e
    | some k =>
      rw [h1, Option.bind_some] at e
      split at e
      · rename_i hl
        cases e
        have ey := key_rel hy h1
        subst ey
        exact ⟨_, DPut.k h (by rw [ps_len c]; exact hl), put_rel hv c⟩
      · cases e
  | T ps =>
    obtain ⟨kvs, rfl, c⟩ := c.T_of
    cases d with
    | tuple ds =>
      simp only [putO] at e
      cases h1 : keysOf ds with
      | none => rw [h1] at e; cases e
      | some ks =>
        rw [h1, Option.bind_some] at e
        split at e
        · rename_i hl
          cases e
          cases hy with
          | tup h6 h7 =>
            have ey := keys_rel h7 h1
            subst ey
            exact ⟨_, DPut.t h (s _ _ h6) (by rw [ps_len c]; exact hl), put_rel hv c⟩
        · cases e
    | _ => cases e
  | _ => cases e
def obAt (os : Os) : Sl → Option (Nat × Ob)
  | .o k => match os[k]? with
    | some (some ob) => some (k, ob)
    | _ => none
  | _ => none
theorem obAt_some {os : Os} {s : Sl} {k : Nat} {ob : Ob} (h : obAt os s = some (k, ob)) : s = .o k ∧ os[k]? = some (some ob) := by
  unfold obAt at h
  split at h
  · split at h
    · rename_i ob' h1
      cases h
      exact ⟨rfl, h1⟩
    · cases h
  · cases h
section
variable {X : Cx} {W : WX} {fr : Option Nat} {a b c e : Expr} {es : List Expr} {xa xb xe xk xv xz : XE} {xr xs xd : XS} {ra : XA} {pos p apos pos' : Pos} {f m : Str} {C : Addr} {st : Stmt}
/-- d[k] -/
def xGetK (xd : XS) (xk : XE) : XE := fun ρ os => (xd ρ os).bind fun p => (xk ρ p.2).bind fun q => (obAt q.2 p.1).bind fun ob => (getO ob.2 q.1).bind fun r => r.map fun v => (v, q.2)
theorem px_getK (hu : X.A.units + 1 < cLine) (hd : PXV X a xd) (hk : PX X b xk) (hs : NoSl b := by exact fun _ _ => rfl) : PX X (.Subscript a b pos) (xGetK xd xk) := pe_imp (pe_dget hu hd hk hs) fun σ H Q q => by
  obtain ⟨as, ρ, os, H0, d, os', n, hx, k⟩ := q
  unfold xGetK at hx
  cases h1 : xd ρ os with
  | none => rw [h1] at hx; cases hx
  | some p =>
    obtain ⟨s, os1⟩ := p
    rw [h1, Option.bind_some] at hx
    cases h2 : xk ρ os1 with
    | none => simp only [h2] at hx; cases hx
    | some q =>
      obtain ⟨y, os2⟩ := q
      simp only [h2, Option.bind_some] at hx
      cases h3 : obAt os2 s with
      | none => rw [h3] at hx; cases hx
      | some r =>
        obtain ⟨j, ob⟩ := r
        rw [h3, Option.bind_some] at hx
        simp only at hx
        cases h4 : getO ob y with
        | none => rw [h4] at hx; cases hx
        | some r2 =>
          rw [h4, Option.bind_some] at hx
          cases r2 with
          | none => cases hx
          | some z =>
            cases hx
            obtain ⟨rfl, h5⟩ := obAt_some h3
            refine ⟨as, ρ, os, H0, _, _, n, h1, fun v H0' H' n1 g1 r1 => ⟨as, ρ, os1, H0', y, _, n1, h2, fun w H2' H2 n2 g2 r2 => ?_⟩⟩
            obtain ⟨ad, e1, rfl⟩ := r1
            obtain ⟨q1, o, q2, q3⟩ := n2.ow.at_ j ad _ e1 h5
            obtain ⟨r', hg, hr⟩ := getO_ok n2.sub q2 q3 r2 h4
            rcases hr with ⟨z1, _⟩ | ⟨x, v2, z1, z2, z3⟩
            · cases z1
            · cases z1
              subst z2
              exact ⟨ad, v2, rfl, hg, k v2 H2' H2 n2 (g1.tr g2) z3⟩
/-- k in d, k not in d -/
def xInK (neg : Bool) (xk : XE) (xd : XS) : XE := fun ρ os => (xk ρ os).bind fun q => (xd ρ q.2).bind fun p => (obAt p.2 p.1).bind fun ob => (getO ob.2 q.1).map fun r => (.bool (r.isSome != neg), p.2)
theorem to_inK {K : PySem.W.Frag} {neg : Bool} {σ : L2.St} {H : Hp} {Q : VK} (q : teO K (xInK neg xk xd) σ H Q) : (fun σ H Q => teO K xk σ H fun y H1 => teR K xd σ H1 fun x H2 => ∃ a o, x = .ref a ∧ DGet H2 a y o ∧ Q (.bl (o.isSome != neg)) H2 : TE) σ H Q := by
  obtain ⟨as, ρ, os, H0, d, os', n, hx, k⟩ := q
  unfold xInK at hx
  cases h1 : xk ρ os with
  | none => rw [h1] at hx; cases hx
  | some p =>
    obtain ⟨y, os1⟩ := p
    rw [h1, Option.bind_some] at hx
    simp only at hx
    cases h2 : xd ρ os1 with
    | none => rw [h2] at hx; cases hx
    | some q =>
      obtain ⟨s, os2⟩ := q
      rw [h2, Option.bind_some] at hx
      simp only at hx
      cases h3 : obAt os2 s with
      | none => rw [h3] at hx; cases hx
      | some r =>
        obtain ⟨j, ob⟩ := r
        rw [h3, Option.bind_some] at hx
        simp only at hx
        cases h4 : getO ob y with
        | none => rw [h4] at hx; cases hx
        | some r2 =>
          rw [h4] at hx
          cases hx
          obtain ⟨rfl, h5⟩ := obAt_some h3
          refine ⟨as, ρ, os, H0, _, _, n, h1, fun v H0' H' n1 g1 r1 => ⟨as, ρ, os1, H0', _, _, n1, h2, fun w H2' H2 n2 g2 rr => ?_⟩⟩
          obtain ⟨ad, e1, rfl⟩ := rr
          obtain ⟨q1, o, q2, q3⟩ := n2.ow.at_ j ad _ e1 h5
          obtain ⟨r', hg, hr⟩ := getO_ok n2.sub q2 q3 (r1.mono g2.e0) h4
          refine ⟨ad, r', rfl, hg, ?_⟩
          have e5 : r'.isSome = r2.isSome := by
            rcases hr with ⟨z1, z2⟩ | ⟨x, v2, z1, z2, z3⟩ <;> rw [z1, z2] <;> rfl
          rw [e5]
          exact k _ H2' H2 n2 (g1.tr g2) (.bl _)
theorem px_inK (hu : X.A.units + 1 < cLine) (hk : PX X b xk) (hd : PXV X a xd) (hm : behindInMarks .In a = false := by rfl) : PX X (.Compare b [.In] [a] pos) (xInK false xk xd) := pe_imp (pe_cmp (pc_din hu hk hd) hm) fun σ H Q q => by
  have := to_inK q
  simp only [Bool.bne_false] at this
  exact this
theorem px_niK (hu : X.A.units + 1 < cLine) (hk : PX X b xk) (hd : PXV X a xd) (hm : behindInMarks .NotIn a = false := by rfl) : PX X (.Compare b [.NotIn] [a] pos) (xInK true xk xd) := pe_imp (pe_cmp (pc_dnotin hu hk hd) hm) fun σ H Q q => by
  have := to_inK q
  simp only [Bool.bne_true] at this
  exact this
theorem to_bool {K : PySem.W.Frag} {x : XE} {σ : L2.St} {H : Hp} {Q : Bool → Hp → Prop} (q : ttO K (xBool x) σ H Q) : teO K x σ H fun v H1 => ∃ c, v = .bl c ∧ Q c H1 := by
  obtain ⟨as, ρ, os, H0, d, os', n, hx, k⟩ := q
  unfold xBool at hx
  cases h1 : x ρ os with
  | none => rw [h1] at hx; cases hx
  | some p =>
    obtain ⟨y, os1⟩ := p
    rw [h1, Option.bind_some] at hx
    cases y with
    | bool c =>
      cases hx
      exact ⟨as, ρ, os, H0, _, _, n, h1, fun v H1 H1' n1 g1 r1 => by
        cases r1
        exact ⟨_, rfl, k H1 H1' n1 g1⟩⟩
    | _ => cases hx
theorem pxt_inK (hu : X.A.units + 1 < cLine) (hk : PX X b xk) (hd : PXV X a xd) (hm : behindInMarks .In a = false := by rfl) : PXT X (.Compare b [.In] [a] pos) (xBool (xInK false xk xd)) := pt_imp (pt_cmp (pc_din hu hk hd) hm) fun σ H Q q => by
  have := to_inK (to_bool q)
  simp only [Bool.bne_false] at this
  exact this
theorem pxt_niK (hu : X.A.units + 1 < cLine) (hk : PX X b xk) (hd : PXV X a xd) (hm : behindInMarks .NotIn a = false := by rfl) : PXT X (.Compare b [.NotIn] [a] pos) (xBool (xInK true xk xd)) := pt_imp (pt_cmp (pc_dnotin hu hk hd) hm) fun σ H Q q => by
  have := to_inK (to_bool q)
  simp only [Bool.bne_true] at this
  exact this
/-- d[k] = v -/
def sPutK (xd : XS) (xk xv : XE) : SE := fun ρ os => (xv ρ os).bind fun z => (xd ρ z.2).bind fun p => (xk ρ p.2).bind fun q => (obAt q.2 p.1).bind fun ob => (putO ob.2 q.1 z.1).map fun ob' => .nx ρ (q.2.set ob.1 (some ob'))
theorem psx_putK (hu : X.A.units + 1 < cLine) (hd : PXV X a xd) (hk : PX X b xk) (hv : PX X c xv) (hs : swapsWith c (some (.Subscript a b pos')) pos.line X.env = pure false := by rfl) : PSX X W fr (.Assign [.Subscript a b pos'] c pos) (sPutK xd xk xv) := ps_imp (ps_dput hu hd hk hv hs) fun D σ H q => by
  obtain ⟨as0, Hs, as, ρ, os, H0, o, bs0, n, hx, k⟩ := q
  unfold sPutK at hx
  cases h0 : xv ρ os with
  | none => rw [h0] at hx; cases hx
  | some z =>
    obtain ⟨z, os0⟩ := z
    rw [h0, Option.bind_some] at hx
    simp only at hx
    cases h1 : xd ρ os0 with
    | none => rw [h1] at hx; cases hx
    | some p =>
      obtain ⟨s, os1⟩ := p
      rw [h1, Option.bind_some] at hx
      simp only at hx
      cases h2 : xk ρ os1 with
      | none => rw [h2] at hx; cases hx
      | some q =>
        obtain ⟨y, os2⟩ := q
        rw [h2, Option.bind_some] at hx
        simp only at hx
        cases h3 : obAt os2 s with
        | none => rw [h3] at hx; cases hx
        | some r =>
          obtain ⟨j, ob⟩ := r
          rw [h3, Option.bind_some] at hx
          simp only at hx
          cases h4 : putO ob y z with
          | none => rw [h4] at hx; cases hx
          | some ob' =>
            rw [h4] at hx
            cases hx
            obtain ⟨rfl, h5⟩ := obAt_some h3
            refine ⟨as, ρ, os, H0, z, os0, n, h0, fun vz H1' H1 n1 g1 r1 => ⟨as, ρ, os0, H1', _, _, n1, h1, fun v H2' H2 n2 g2 r2 => ⟨as, ρ, os1, H2', y, os2, n2, h2, fun w H3' H3 n3 g3 r3 => ?_⟩⟩⟩
            obtain ⟨ad, e1, rfl⟩ := r2
            obtain ⟨q1, o, q2, q3⟩ := n3.ow.at_ j ad _ e1 h5
            obtain ⟨o', hp, hc⟩ := putO_ok n3.sub q2 q3 r3 (r1.mono (g2.e0.trans g3.e0)) h4
            have hm : ad ∈ as := List.mem_of_getElem? e1
            exact ⟨ad, _, rfl, hp, k as σ H3' _ Exs.refl (n3.mut e1 h5 hc) (((g1.tr g2).tr g3).tr (Gr.mut n3.sub hm q1 (n3.ow.trk _ hm)))⟩
end
end DL

set_option Elab.async false
set_option linter.all false
set_option maxRecDepth 100000
set_option maxHeartbeats 4000000
namespace DL
open PySem PySem.Spec PyProof.Rows L2 Evl
/-! ### methods, new instances -/
def tMethG (C : Addr) (m : Str) (sp : Sp) (ta : TE) (t : TA) : TE := fun σ H Q => ta σ H fun x H1 => ∃ a dx fs, x = .ref a ∧ H1 a = some (.ins C dx fs) ∧ fs.lookup m = none ∧ t σ H1 fun vs H2 => sp (x :: vs) H2 Q E0
def tMakeG (C : Addr) (sp : Sp) (t : TA) : TE := fun σ H Q => t σ H fun vs H1 => ∀ x dx, H1 x = none → H1 dx = none → dx ≠ x →
  sp (.ref x :: vs) (upd (upd H1 dx (.own x)) x (.ins C dx [])) (fun v H2 => v = .non ∧ Q (.ref x) H2) E0
theorem make_guards {A : Around} {C : Addr} {us : List Value} {kw : List (Str × Value)} : (A.under (.builtin "type.__call__" ⟨.ref C :: us, kw⟩)).guards = A.guards := by
  first | rfl | simp [Around.under, Code.weight, Code.isCreation, Code.isGuard, Code.isCaller, Code.frames, Code.isFrame, guardIds]
theorem Rm.make {k : Nat} {A : Around} (r : Rm (k + 1) A) (C : Addr) (us : List Value) (kw : List (Str × Value)) : Rm k (A.under (.builtin "type.__call__" ⟨.ref C :: us, kw⟩)) := ⟨r.room.make C us kw, by rw [make_guards]; exact r.gd⟩
section
variable {X : Cx} {W : WX} {fr : Option Nat} {k n : Nat} {a b c e o : Expr} {es : List Expr} {xa xb xe xk xv xz : XE} {xr xs xd : XS} {ra : XA} {pos p apos pos' tpos : Pos} {x : Str} {m : Str} {C f : Addr} {st : Stmt} {fd : FuncData} {ps : List Str} {sp : Sp} {ta : TE} {t : TA} {M : XM}
theorem pe_methG {pl : Sem Bool} (he : PE X o ta) (c : Cls X.K C) (hm : Meth X.K C m f) (F : FnG X.prog X.w X.K X.mg X.base k f fd n ps sp) (hr : Rm k X.A) (hb : Binds X.K fd ps []) (ha : PA X (e :: es) t)
    (hst : starEach (e :: es) X.env = (false, eval e X.env) :: starEach es X.env := by rfl) (hpl : (backTo pos (starEach es X.env)).any (·.1) = false := by rfl)
    (ht : eval (.Call (.Attribute o m apos) (e :: es) [] pos) X.env = (do
      let ov ← eval o X.env
      standAt apos.atName
      let (f, first) ← holding [ov] (getMethod ov m pl)
      callWith pos f first (backTo pos (starEach (e :: es) X.env)) (backToKw pos (keywordEach [] X.env))) := by rfl) :
    PE X (.Call (.Attribute o m apos) (e :: es) [] pos) (tMethG C m sp ta t) := by
  refine ⟨fun pins s σ H Q I h => ?_⟩
  refine PySem.W.methodCall_KW (pl := pl) (thn (he.run pins s σ H _ I h) fun u s1 ⟨x, H1, I1, rx, a, dx, fs, ex, ea, l, q⟩ => ?_) ht
  subst ex
  obtain rfl : u = Value.ref a := rx
  refine getmeth_ok I1 ea c hm l ?_
  refine PySem.W.callWith_K (first := [.ref a]) (h₀ := X.base) I.ok.mod.kin hm.kp (thn (ha.run pos pins s1 σ H1 _ I1 q) fun us s2 ⟨vs, H2, I2, r, q2⟩ => ⟨I2.kIn, ?_⟩) hst hpl
  have hl : (Value.ref a :: us).length = ps.length := by rw [List.length_cons, ← r.length, F.pl]; exact F.len _ _ _ _ q2
  refine run_g (us := .ref a :: us) (vs := .ref a :: vs) (args := ⟨.ref a :: us, []⟩) F hr ?_ I2 (.cons rfl r) q2
  have := hb s2 (.ref a :: us) I2.kIn (by rw [List.append_nil]; exact hl)
  rw [List.append_nil] at this
  exact this
theorem pe_methG0 {pl : Sem Bool} (he : PE X o ta) (c : Cls X.K C) (hm : Meth X.K C m f) (F : FnG X.prog X.w X.K X.mg X.base k f fd n ps sp) (hr : Rm k X.A) (hb : Binds X.K fd ps [])
    (ht : eval (.Call (.Attribute o m apos) [] [] pos) X.env = (do
      let ov ← eval o X.env
      standAt apos.atName
      let (f, first) ← holding [ov] (getMethod ov m pl)
      callWith pos f first (backTo pos (starEach [] X.env)) (backToKw pos (keywordEach [] X.env))) := by rfl) :
    PE X (.Call (.Attribute o m apos) [] [] pos) (tMethG C m sp ta tNil) := by
  refine ⟨fun pins s σ H Q I h => ?_⟩
  refine PySem.W.methodCall_KW (pl := pl) (thn (he.run pins s σ H _ I h) fun u s1 ⟨x, H1, I1, rx, a, dx, fs, ex, ea, l, q⟩ => ?_) ht
  subst ex
  obtain rfl : u = Value.ref a := rx
  refine getmeth_ok I1 ea c hm l ?_
  have hl : ([Value.ref a]).length = ps.length := by rw [F.pl]; exact F.len _ _ _ _ q
  refine PySem.W.callWith_K0 (first := [.ref a]) I1.kIn hm.kp (run_g (us := [.ref a]) (vs := [.ref a]) (args := ⟨[.ref a], []⟩) F hr ?_ I1 (.cons rfl .nil) q)
  have := hb s1 [.ref a] I1.kIn (by rw [List.append_nil]; exact hl)
  rw [List.append_nil] at this
  exact this
theorem run_makeG {pins : List (Addr × Obj)} {σ : L2.St} {H : Hp} {s : Shared} {Q : VK} {us : List Value} {vs : List V} (M : Mk X.K C f) (F : FnG X.prog X.w X.K X.mg X.base k f fd n ps sp) (hr : Rm (k + 1) X.A) (hb : Binds X.K fd ps [])
    (I : Inv X pins σ H s) (r : Vals vs us)
    (h : ∀ x dx, H x = none → H dx = none → dx ≠ x → sp (.ref x :: vs) (upd (upd H dx (.own x)) x (.ins C dx [])) (fun v H2 => v = .non ∧ Q (.ref x) H2) E0) :
    wpAny (model X.prog X.w) X.A (call (.ref C) us) (EP X pins σ Q) X.xe s := by
  have hq := h (s.heap.objs.size + 1) s.heap.objs.size (I.hok.fresh (Nat.le_succ _)) (I.hok.fresh (Nat.le_refl _)) (Nat.ne_of_lt (Nat.lt_succ_self _))
  have I2 := Inv.made (C := C) I
  have r2 : Vals (V.ref (s.heap.objs.size + 1) :: vs) (Value.ref (s.heap.objs.size + 1) :: us) := .cons rfl r
  have hl : (Value.ref (s.heap.objs.size + 1) :: us).length = ps.length := by
    have e := r2.length
    rw [F.len _ _ _ _ hq, ← F.pl] at e
    exact e.symm
  have hb2 := hb _ (Value.ref (s.heap.objs.size + 1) :: us) I2.kIn (by rw [List.append_nil]; exact hl)
  rw [List.append_nil] at hb2
  refine wpAny_call (make_map (f := f) I.kIn M.makes M.init (beq_iff_eq.mp M.fn) (codeAny_mono (F.run _ X.stack _ _ ⟨Value.ref (s.heap.objs.size + 1) :: us, []⟩ (Value.ref (s.heap.objs.size + 1) :: us) _ _ E0 (hr.make C us [])
    (I2.env0.make C us []) hb2 r2 hq) fun r s' hq' => ?_))
  cases r with
  | error e => exact passL pins σ _ _ e s' I2 hq'
  | ok fl =>
    cases fl with
    | ret u =>
      obtain ⟨v, H', I3, rv, ev, q3⟩ := I2.after hq'
      subst ev
      exact ⟨rv, ⟨V.ref (s.heap.objs.size + 1), H', I3, rfl, q3⟩⟩
    | next => exact False.elim hq'
    | brk => exact False.elim hq'
    | cont => exact False.elim hq'
theorem pe_makeG (M : Mk X.K C f) (F : FnG X.prog X.w X.K X.mg X.base k f fd n ps sp) (hr : Rm (k + 1) X.A) (hg : Gl X x) (hm : X.mg x = some (.ref C)) (hb : Binds X.K fd ps [])
    (ha : PA X (e :: es) t) (hdb : (x == ("__debug__" : Str)) = false := by decide) (he : starEach (e :: es) X.env = (false, eval e X.env) :: starEach es X.env := by rfl) (hpl : (backTo pos (starEach es X.env)).any (·.1) = false := by rfl) :
    PE X (.Call (.Name x p) (e :: es) [] pos) (tMakeG C sp t) := by
  refine ⟨fun pins s σ H Q I h => ?_⟩
  refine wpAny_Call_Name_kw (ld_glob I hg hm ?_ hdb)
  refine PySem.W.callWith_K (h₀ := X.base) I.ok.mod.kin M.kp (thn (ha.run pos pins s σ H _ I h) fun us s1 ⟨vs, H1, I1, r, q⟩ => ⟨I1.kIn, ?_⟩) he hpl
  exact run_makeG M F hr hb I1 r q
theorem pe_makeG0 (M : Mk X.K C f) (F : FnG X.prog X.w X.K X.mg X.base k f fd n ps sp) (hr : Rm (k + 1) X.A) (hg : Gl X x) (hm : X.mg x = some (.ref C)) (hb : Binds X.K fd ps [])
    (hdb : (x == ("__debug__" : Str)) = false := by decide) : PE X (.Call (.Name x p) [] [] pos) (tMakeG C sp tNil) := by
  refine ⟨fun pins s σ H Q I h => ?_⟩
  refine wpAny_Call_Name_kw (ld_glob I hg hm ?_ hdb)
  exact PySem.W.callWith_K0 I.kIn M.kp (run_makeG (us := []) M F hr hb I .nil h)
/-! method: o.m(..) gives data -/
def xMeth (C : Addr) (m : Str) (M : XM) (xr : XS) (ra : XA) : XE := fun ρ os => (xr ρ os).bind fun p => (insAt C p.2 p.1).bind fun q => match q.2.lookup m with
  | none => (ra ρ p.2).bind fun z => M (.o q.1 :: z.1) z.2
  | some _ => none
theorem to_meth {K : PySem.W.Frag} {σ : L2.St} {H : Hp} {Q : VK} (hl : ∀ ρ os ss os', ra ρ os = some (ss, os') → ss.length + 1 = n) (q : teO K (xMeth C m M xr ra) σ H Q) : tMethG C m (spM K n M) (teR K xr) (taO K ra) σ H Q := by
  obtain ⟨as, ρ, os, H0, d, os', n0, hx, k⟩ := q
  unfold xMeth at hx
  cases h1 : xr ρ os with
  | none => rw [h1] at hx; cases hx
  | some p =>
    obtain ⟨s, os1⟩ := p
    rw [h1, Option.bind_some] at hx
    simp only at hx
    cases h2 : insAt C os1 s with
    | none => rw [h2] at hx; cases hx
    | some q2 =>
      obtain ⟨j, fs⟩ := q2
      rw [h2, Option.bind_some] at hx
      simp only at hx
      cases h3 : fs.lookup m with
      | some _ => rw [h3] at hx; cases hx
      | none =>
        rw [h3] at hx
        simp only at hx
        cases h4 : ra ρ os1 with
        | none => rw [h4] at hx; cases hx
        | some z =>
          obtain ⟨ss, os2⟩ := z
          rw [h4, Option.bind_some] at hx
          simp only at hx
          obtain ⟨rfl, h5⟩ := insAt_some h2
          refine ⟨as, ρ, os, H0, _, _, n0, h1, fun v H1 H1' n1 g1 r1 => ?_⟩
          obtain ⟨ad, e1, rfl⟩ := r1
          obtain ⟨q1, o, q2, q3⟩ := n1.ow.at_ j ad _ e1 h5
          obtain ⟨dx, gs, rfl, r⟩ := q3.i_of
          refine ⟨ad, dx, gs, rfl, q2, fs_no r h3, as, ρ, os1, H1, ss, os2, n1, h4, fun vs H2 H2' n2 g2 r2 => ?_⟩
          exact ⟨by rw [List.length_cons, args_len r2]; exact hl _ _ _ _ h4, as, .o j :: ss, os2, H2, d, os', n2.sub, n2.ow, ⟨⟨ad, e1, rfl⟩, r2⟩, hx, fun v H3 H3' w3 g3 r3 => k v H3 H3' (n0.call w3 ((g1.tr g2).tr g3)) ((g1.tr g2).tr g3) r3⟩
theorem px_meth {pl : Sem Bool} (he : PXV X o xr) (c : Cls X.K C) (hm : Meth X.K C m f) (F : FnG X.prog X.w X.K X.mg X.base k f fd n ps (spM X.K n M)) (hr : Rm k X.A) (hb : Binds X.K fd ps []) (ha : PXA X (e :: es) ra)
    (hl : ∀ ρ os ss os', ra ρ os = some (ss, os') → ss.length + 1 = n) (hst : starEach (e :: es) X.env = (false, eval e X.env) :: starEach es X.env := by rfl) (hpl : (backTo pos (starEach es X.env)).any (·.1) = false := by rfl)
    (ht : eval (.Call (.Attribute o m apos) (e :: es) [] pos) X.env = (do
      let ov ← eval o X.env
      standAt apos.atName
      let (f, first) ← holding [ov] (getMethod ov m pl)
      callWith pos f first (backTo pos (starEach (e :: es) X.env)) (backToKw pos (keywordEach [] X.env))) := by rfl) : PX X (.Call (.Attribute o m apos) (e :: es) [] pos) (xMeth C m M xr ra) :=
  pe_imp (pe_methG he c hm F hr hb ha hst hpl ht) fun _ _ _ q => to_meth hl q
theorem ta_nil {K : PySem.W.Frag} {σ : L2.St} {H : Hp} {Q : List V → Hp → Prop} (q : taO K xaNil σ H Q) : tNil σ H Q := by
  obtain ⟨as, ρ, os, H0, d, os', n, hx, k⟩ := q
  cases hx
  exact k [] H0 H n (Gr.refl n.sub) True.intro
theorem px_meth0 {pl : Sem Bool} (he : PXV X o xr) (c : Cls X.K C) (hm : Meth X.K C m f) (F : FnG X.prog X.w X.K X.mg X.base k f fd 1 ps (spM X.K 1 M)) (hr : Rm k X.A) (hb : Binds X.K fd ps [])
    (ht : eval (.Call (.Attribute o m apos) [] [] pos) X.env = (do
      let ov ← eval o X.env
      standAt apos.atName
      let (f, first) ← holding [ov] (getMethod ov m pl)
      callWith pos f first (backTo pos (starEach [] X.env)) (backToKw pos (keywordEach [] X.env))) := by rfl) : PX X (.Call (.Attribute o m apos) [] [] pos) (xMeth C m M xr xaNil) :=
  pe_imp (pe_methG0 he c hm F hr hb ht) fun σ H Q q => by
    have q2 := to_meth (n := 1) (fun ρ os ss os' h => by cases h; rfl) q
    obtain ⟨as, ρ, os, H0, s, os', n0, h1, k2⟩ := q2
    exact ⟨as, ρ, os, H0, s, os', n0, h1, fun v H1 H1' n1 g1 r1 => by
      obtain ⟨ad, dx, gs, e1, e2, e3, e4⟩ := k2 v H1 H1' n1 g1 r1
      exact ⟨ad, dx, gs, e1, e2, e3, ta_nil e4⟩⟩
/-! a new instance -/
def xNew (C : Addr) (M : XM) (ra : XA) : XS := fun ρ os => (ra ρ os).bind fun p => (M (.o p.2.length :: p.1) (p.2 ++ [some (.i C [])])).bind fun q => match q.1 with
  | .none => some (.o p.2.length, q.2)
  | _ => none
theorem En.newObj {K : PySem.W.Frag} {as : List Addr} {ρ : List Sl} {os : Os} {σ : L2.St} {H0 H : Hp} {x dx : Addr} (n : En K as ρ os σ H0 H) (hx : H x = none) (hd : H dx = none) (hn : dx ≠ x) :
    En K (as ++ [x]) ρ (os ++ [some (.i C [])]) σ H0 (upd (upd H dx (.own x)) x (.ins C dx [])) ∧ Gr as H0 H H0 (upd (upd H dx (.own x)) x (.ins C dx [])) := by
  have e1 : ∀ b o, H b = some o → upd (upd H dx (.own x)) x (.ins C dx []) b = some o := fun b o e => by
    rw [upd_ne (ne_of_none e hx), upd_ne (ne_of_none e hd)]
    exact e
  have g : Gr as H0 H H0 (upd (upd H dx (.own x)) x (.ins C dx [])) := ⟨Ex.refl _, fun b o _ e => e1 b o e, fun _ _ _ e _ => e, fun b hb => by
    cases q : H b with
    | none => exact absurd q hb
    | some o =>
      rw [e1 b o q]
      simp, fun b o e => e1 b o (n.sub b o e)⟩
  have n2 : En K as ρ os σ H0 (upd (upd H dx (.own x)) x (.ins C dx [])) := ⟨g.sub, n.len, n.dat, n.ref, ⟨n.ow.nd, n.ow.len, fun a ha => g.kp a (n.ow.trk a ha), fun k a ob h1 h2 => by
    obtain ⟨q1, o, q2, q3⟩ := n.ow.at_ k a ob h1 h2
    exact ⟨q1, o, e1 a o q2, q3⟩⟩⟩
  have n3 := n2.own (ob := .i C []) (ho := .ins C dx []) ρ.length (fresh_back n.sub hx) (fun z => n.ow.trk x z hx) upd_same ⟨rfl, True.intro⟩
  rw [List.set_eq_of_length_le (Nat.le_refl _), List.set_eq_of_length_le (by rw [n.len]; exact Nat.le_refl _)] at n3
  exact ⟨n3, g⟩
theorem to_new {K : PySem.W.Frag} {σ : L2.St} {H : Hp} {Q : VK} (hl : ∀ ρ os ss os', ra ρ os = some (ss, os') → ss.length + 1 = n) (q : teS K (xNew C M ra) σ H Q) : tMakeG C (spN K n M) (taO K ra) σ H Q := by
  obtain ⟨as, ρ, os, H0, d, os', n0, hx, k⟩ := q
  unfold xNew at hx
  cases h1 : ra ρ os with
  | none => rw [h1] at hx; cases hx
  | some p =>
    obtain ⟨ss, os1⟩ := p
    rw [h1, Option.bind_some] at hx
    simp only at hx
    cases h2 : M (.o os1.length :: ss) (os1 ++ [some (.i C [])]) with
    | none => rw [h2] at hx; cases hx
    | some q =>
      obtain ⟨z, os2⟩ := q
      rw [h2, Option.bind_some] at hx
      cases z with
      | none =>
        cases hx
        refine ⟨as, ρ, os, H0, ss, os1, n0, h1, fun vs H1 H1' n1 g1 r1 x dx hx0 hd0 hne => ?_⟩
        obtain ⟨n2, g2⟩ := n1.newObj (C := C) hx0 hd0 hne
        have lo := n1.ow.len
        have e1 : (as ++ [x])[os1.length]? = some x := by
          rw [← lo, List.getElem?_append_right (Nat.le_refl _)]
          simp
        have hxn : ∀ a ∈ [x], H a = none := fun a ha => by
          have : a = x := by simpa using ha
          rw [this]
          cases z : H x with
          | none => rfl
          | some u => exact absurd hx0 (g1.kp x (by rw [z]; simp))
        refine ⟨by rw [List.length_cons, args_len r1]; exact hl _ _ _ _ h1, as ++ [x], .o os1.length :: ss, os1 ++ [some (.i C [])], H1, _, _, n2.sub, n2.ow, ⟨⟨x, e1, rfl⟩, ArgsOk.app r1⟩, h2, fun v as' H3 H3' e3 w3 g3 r3 => ?_⟩
        cases r3
        refine ⟨rfl, ?_⟩
        have ex0 : Exs as H (as ++ [x]) := ⟨[x], rfl, hxn⟩
        have ex2 : Exs as H as' := ex0.trans e3 (g1.tr g2).kp
        have g4 : Gr as H0 H H3 H3' := (g1.tr g2).trans g3 fun a ha => ex0.mem a ha
        obtain ⟨bs, rfl, hbs⟩ := id e3
        refine k (.ref x) _ H3 H3' ex2 ?_ g4 ⟨x, by rw [List.getElem?_append_left (by rw [List.length_append, lo]; simp)]; exact e1, rfl⟩
        exact ⟨g3.sub, n0.len, fun i y h => by
          obtain ⟨v, e1, r⟩ := n0.dat i y h
          exact ⟨v, e1, Da.mono g4.e0 _ _ r⟩, fun i j h => by
          obtain ⟨ad, q1, q2⟩ := n0.ref i j h
          have hj := (List.getElem?_eq_some_iff.mp q1).1
          exact ⟨ad, by rw [List.getElem?_append_left (by rw [List.length_append]; omega), List.getElem?_append_left hj]; exact q1, q2⟩, w3⟩
      | _ => cases hx
theorem pxs_new (M' : Mk X.K C f) (F : FnG X.prog X.w X.K X.mg X.base k f fd n ps (spN X.K n M)) (hr : Rm (k + 1) X.A) (hg : Gl X x) (hm : X.mg x = some (.ref C)) (hb : Binds X.K fd ps [])
    (ha : PXA X (e :: es) ra) (hl : ∀ ρ os ss os', ra ρ os = some (ss, os') → ss.length + 1 = n) (hdb : (x == ("__debug__" : Str)) = false := by decide) (he : starEach (e :: es) X.env = (false, eval e X.env) :: starEach es X.env := by rfl) (hpl : (backTo pos (starEach es X.env)).any (·.1) = false := by rfl) :
    PXS X (.Call (.Name x p) (e :: es) [] pos) (xNew C M ra) := pe_imp (pe_makeG M' F hr hg hm hb ha hdb he hpl) fun _ _ _ q => to_new hl q
theorem pxs_new0 (M' : Mk X.K C f) (F : FnG X.prog X.w X.K X.mg X.base k f fd 1 ps (spN X.K 1 M)) (hr : Rm (k + 1) X.A) (hg : Gl X x) (hm : X.mg x = some (.ref C)) (hb : Binds X.K fd ps []) (hdb : (x == ("__debug__" : Str)) = false := by decide) :
    PXS X (.Call (.Name x p) [] [] pos) (xNew C M xaNil) := pe_imp (pe_makeG0 M' F hr hg hm hb hdb) fun _ _ _ q => ta_nil (to_new (n := 1) (fun ρ os ss os' h => by cases h; rfl) q)
end
end DL

set_option Elab.async false
set_option linter.all false
set_option maxRecDepth 100000
set_option maxHeartbeats 4000000
/-! ### min(xs, default=None) of whole numbers -/
namespace MinD
open PySem
abbrev dk : List (Str × Value) := [("default", .none)]
theorem args_min_dk (a : Value) : argsOk "min" ⟨[a], dk⟩ := by unfold argsOk; kernel_rfl
section
variable {prog : Program} {w : World} {A : Around} {R : Result → Shared → Prop} {I : Addr} {fp wr : List Addr} {n : Nat} {P : Nat → Value → Prop} {St : Nat → Heap → Prop}
theorem open_loop {S : Addr} {s : Shared} {vs : Array Value} {c : Nat} {kw : List (Str × Value)} (hS : s.heap.get? S = some { cls := .type "list", dict := none, data := .seq vs c, slots := #[] })
    (h : wpAny (model prog w) A.in1 (Builtin.«min.loop» ⟨[.ref I, .none, .ref S], kw⟩) (fun fin s' => match fin with
      | .done f => R (.ok f) s'
      | .again c' => c'.quiet = true ∧ codeAny (model prog w) A c' R s') (fun e s' => R (.error e) s') s) : codeAny (model prog w) A (.builtin "min.loop" ⟨[.ref I, .none, .ref S], kw⟩) R s := by
  refine codeAny_builtin F.entry_min_loop ?_; rw [Around.under_plainId F.plain_min_loop _]; exact h
theorem nm : (toString "min" ++ toString ".loop" : String) = "min.loop" := by decide
theorem go (W : Walks prog w A.in1 I fp wr n P St) (bt : Nat → Nat → Bool) (hcmp : CmpOf prog w A.in1 .Lt P bt) (S : Addr) (hSf : S ∉ fp) :
    ∀ (k j : Nat) (s : Shared) (vb : Value) (c : Nat), n - (j + 1) = k → j + 1 ≤ n → St (j + 1) s.heap → P (argBest bt j) vb → s.heap.get? S = some { cls := .type "list", dict := none, data := .seq #[vb, vb] c, slots := #[] } →
      (∀ v h' tk, P (argBest bt (n - 1)) v → (∀ b o, b ∉ wr → b ≠ S → s.heap.get? b = some o → h'.get? b = some o) → R (.ok (.ret v)) { s with heap := h', toks := tk }) → codeAny (model prog w) A (.builtin "min.loop" ⟨[.ref I, .none, .ref S], dk⟩) R s := by
  have hSw : S ∉ wr := fun h => hSf (W.sub _ h)
  intro k; induction k with
  | zero =>
    intro j s vb c hk hj hst hPb hS hR
    have hin : j + 1 = n := by omega
    refine open_loop hS ?_; show wpAny _ A.in1 (seqItems? (.ref S) >>= _) _ _ s
    refine wpAny_bind (wpAny_seqItems hS rfl ?_); show wpAny _ A.in1 (tryCatch (pyNext (.ref I)) _ >>= _) _ _ s
    refine wpAny_bind (wpAny_tryCatch (W.done s _ _ (hin ▸ hst) fun h' tk hk' => ?_)); have hS' := hk' S _ hSw hS
    show wpAny _ A.in1 (updateSeq S (fun _ => #[]) >>= _) _ _ _
    refine wpAny_bind ?_; refine wpAny_updateSeq hS' rfl (wpAny_bind (wpAny_letGo (wpAny_pure ?_)))
    exact hR vb _ tk (by rw [← hin]; exact hPb) fun b o hbw hbS e => (Heap.get?_update_other _ _ (Ne.symm hbS)).trans (hk' b o hbw e)
  | succ k ih =>
    intro j s vb c hk hj hst hPb hS hR
    have hlt : j + 1 < n := by omega
    refine open_loop hS ?_; show wpAny _ A.in1 (seqItems? (.ref S) >>= _) _ _ s
    refine wpAny_bind (wpAny_seqItems hS rfl ?_); show wpAny _ A.in1 (tryCatch (pyNext (.ref I)) _ >>= _) _ _ s
    refine wpAny_bind (wpAny_tryCatch (W.item (j + 1) s _ _ hlt hst fun v h' tk hP hst' hk' => ?_)); have hS' := hk' S _ hSw hS
    show wpAny _ A.in1 (tryCatch (holding [v, v] (richCompare .Lt v vb >>= _)) _ >>= _) _ _ _
    refine wpAny_bind (wpAny_tryCatch (wpAny_holding (wpAny_bind (hcmp (j + 1) (argBest bt j) v vb _ _ _ hP hPb ?_)))); refine wpAny_bind (wpAny_holding (wpAny_truthy_bool ?_)); refine wpAny_bind (wpAny_letGo (wpAny_pure ?_))
    cases hb : bt (j + 1) (argBest bt j) with
    | true =>
      simp only [if_true]; refine wpAny_bind ?_; refine wpAny_updateSeq hS' rfl (wpAny_bind (wpAny_letGo ?_)); rw [nm]
      refine wpAny_pure ⟨plainId_quiet F.plain_min_loop _, ih (j + 1) _ v _ (by omega) hlt (W.frame _ _ _ hst' fun b hbf o e => (Heap.get?_update_other _ _ (fun h : S = b => hSf (by rw [h]; exact hbf))).trans e) (by simp only [argBest, hb, if_true]; exact hP) (Heap.get?_update_self _ hS' rfl) fun v' h'' tk'' hP' hk'' => ?_⟩
      exact hR v' h'' tk'' hP' fun b o hbw hbS e => hk'' b o hbw hbS ((Heap.get?_update_other _ _ (Ne.symm hbS)).trans (hk' b o hbw e))
    | false =>
      simp only [Bool.false_eq_true, if_false]; refine wpAny_bind (wpAny_letGo ?_); rw [nm]
      refine wpAny_pure ⟨plainId_quiet F.plain_min_loop _, ih (j + 1) _ vb c (by omega) hlt hst' (by simp only [argBest, hb, Bool.false_eq_true, if_false]; exact hPb) hS' fun v' h'' tk'' hP' hk'' => hR v' h'' tk'' hP' fun b o hbw hbS e => hk'' b o hbw hbS (hk' b o hbw e)⟩
/-- from the beginning: the best one, or None -/
theorem start (W : Walks prog w A.in1 I fp wr n P St) (bt : Nat → Nat → Bool) (hcmp : CmpOf prog w A.in1 .Lt P bt) (S : Addr) (hSf : S ∉ fp) {s : Shared} {c : Nat} (hst : St 0 s.heap)
    (hS : s.heap.get? S = some { cls := .type "list", dict := none, data := .seq #[] c, slots := #[] })
    (h0 : n = 0 → ∀ h' tk, (∀ b o, b ∉ wr → b ≠ S → s.heap.get? b = some o → h'.get? b = some o) → R (.ok (.ret .none)) { s with heap := h', toks := tk })
    (hR : 0 < n → ∀ v h' tk, P (argBest bt (n - 1)) v → (∀ b o, b ∉ wr → b ≠ S → s.heap.get? b = some o → h'.get? b = some o) → R (.ok (.ret v)) { s with heap := h', toks := tk }) : codeAny (model prog w) A (.builtin "min.loop" ⟨[.ref I, .none, .ref S], dk⟩) R s := by
  have hSw : S ∉ wr := fun h => hSf (W.sub _ h)
  refine open_loop hS ?_; show wpAny _ A.in1 (seqItems? (.ref S) >>= _) _ _ s
  refine wpAny_bind (wpAny_seqItems hS rfl ?_); show wpAny _ A.in1 (tryCatch (pyNext (.ref I)) _ >>= _) _ _ s
  by_cases hn : n = 0
  · refine wpAny_bind (wpAny_tryCatch (W.done s _ _ (hn ▸ hst) fun h' tk hk' => ?_))
    show wpAny _ A.in1 (rule _ >>= _) _ _ _
    refine wpAny_bind (wpAny_rule ?_)
    show wpAny _ A.in1 (pure _) _ _ _
    refine wpAny_pure ?_
    exact h0 hn h' tk fun b o h1 _ e => hk' b o h1 e
  · refine wpAny_bind (wpAny_tryCatch (W.item 0 s _ _ (by omega) hst fun v h' tk hP hst' hk' => ?_)); have hS' := hk' S _ hSw hS
    show wpAny _ A.in1 (updateSeq S (fun _ => #[v, v]) >>= _) _ _ _
    refine wpAny_bind ?_; refine wpAny_updateSeq hS' rfl ?_; rw [nm]
    refine wpAny_pure ⟨plainId_quiet F.plain_min_loop _, go W bt hcmp S hSf _ 0 _ v _ rfl (by omega) (W.frame _ _ _ hst' fun b hbf o e => (Heap.get?_update_other _ _ (fun h : S = b => hSf (by rw [h]; exact hbf))).trans e) hP (Heap.get?_update_self _ hS' rfl) fun v' h'' tk'' hP' hk'' => ?_⟩
    exact hR (by omega) v' h'' tk'' hP' fun b o hbw hbS e => hk'' b o hbw hbS ((Heap.get?_update_other _ _ (Ne.symm hbS)).trans (hk' b o hbw e))
end
end MinD

namespace MinD
open PySem
section
variable {prog : Program} {w : World} {A : Around} {E : Value → Shared → Prop} {s : Shared}
theorem call_kw {id : String} {b : Builtin} {args : List Value} {kw : List (Str × Value)} {Q : Value → Shared → Prop} (hk : builtinKind id = none) (hp : plainId id = true) (hb : entryFor table id = some b) (ha : argsOk id ⟨args, kw⟩)
    (hc : wpAny (model prog w) A.in1 (b ⟨args, kw⟩) (fun fin s' => match fin with
      | .done f => (match (Except.ok f : Result) with | .ok (.ret v) => Q v s' | .ok _ => False | .error e => E e s')
      | .again c' => c'.quiet = true ∧ codeAny (model prog w) A c' (fun r s'' => match r with | .ok (.ret v) => Q v s'' | .ok _ => False | .error e => E e s'') s') E s) : wpAny (model prog w) A (call (.builtin id) args kw) Q E s := by
  refine wpAny_call (codeAny_call_builtin hp hb ?_); simp only [checkBuiltinCall, hk]
  cases hsig : Manifest.signature? id with
  | none => exact wpAny_pure hc
  | some sig =>
    simp only [argsOk, hsig] at ha; have h2 : Bind.checkArgs id sig ⟨args, kw⟩ = pure () := ha
    show wpAny _ A.in1 (Bind.checkArgs id sig ⟨args, kw⟩) _ _ s; rw [h2]; exact wpAny_pure hc
theorem call_walk {x : Value} {Q : Value → Shared → Prop}
    (h : wpAny (model prog w) A.in1 (pyIter x) (fun it s₂ => ∃ I fp wr n P St bt, it = .ref I ∧ Walks prog w A.in1 I fp wr n P St ∧ St 0 s₂.heap ∧ (∀ b ∈ fp, b < s₂.heap.objs.size) ∧ CmpOf prog w A.in1 .Lt P bt ∧
      (n = 0 → ∀ h' tk, (∀ b o, b ∉ wr → s₂.heap.get? b = some o → h'.get? b = some o) → Q .none { s₂ with heap := h', toks := tk }) ∧
      (0 < n → ∀ v h' tk, P (argBest bt (n - 1)) v → (∀ b o, b ∉ wr → s₂.heap.get? b = some o → h'.get? b = some o) → Q v { s₂ with heap := h', toks := tk })) E s) :
    wpAny (model prog w) A (call (.builtin "min") [x] dk) Q E s := by
  refine call_kw F.kind_min F.plain_min F.entry_min (args_min_dk _) ?_
  show wpAny _ A.in1 (Builtin.Builtins.bindParams "min" ["key", "default"] 0 ⟨[], dk⟩ >>= _) _ _ s
  refine wpAny_bind (wpAny_of_eq (show Builtin.Builtins.bindParams "min" ["key", "default"] 0 ⟨[], dk⟩ = pure [none, some .none] from rfl) ?_)
  refine wpAny_bind (wpAny_pure ?_)
  refine wpAny_bind (wpAny_mono h (fun it s₂ h₂ => ?_) fun _ _ e => e)
  obtain ⟨I, fp, wr, n, P, St, bt, rfl, W, hst, hfp, hcmp, hQ0, hQ⟩ := h₂
  refine wpAny_bind (wpAny_newObj_type ?_)
  have hSf : s₂.heap.objs.size ∉ fp := fun hm => Nat.lt_irrefl _ (hfp _ hm); rw [nm]
  refine wpAny_pure ⟨plainId_quiet F.plain_min_loop _, start W bt hcmp s₂.heap.objs.size hSf (W.frame _ _ _ hst fun b _ o e => Heap.get?_push_of_some _ e) (Heap.get?_push_size _ rfl) (fun hn h' tk hk => ?_) fun hn v h' tk hP hk => ?_⟩
  · exact hQ0 hn h' tk fun b o hbw e => hk b o hbw (Nat.ne_of_lt (Heap.lt_size e)) (Heap.get?_push_of_some _ e)
  · exact hQ hn v h' tk hP fun b o hbw e => hk b o hbw (Nat.ne_of_lt (Heap.lt_size e)) (Heap.get?_push_of_some _ e)
theorem of_ints {xs : Array (Int × Tok)} {l : Addr} {Q : Value → Shared → Prop} (hh : A.handled = none) (hl : s.heap.IsList l (intItems xs))
    (h0 : xs.size = 0 → ∀ h' tk, (∀ b o, s.heap.get? b = some o → h'.get? b = some o) → Q .none { s with heap := h', toks := tk })
    (h : 0 < xs.size → ∀ v h' tk, (intItems xs)[argBest (fun i j => decide (numAt xs i < numAt xs j)) (xs.size - 1)]? = some v → (∀ b o, s.heap.get? b = some o → h'.get? b = some o) → Q v { s with heap := h', toks := tk }) :
    wpAny (model prog w) A (call (.builtin "min") [.ref l] dk) Q E s := by
  refine call_walk (iter_intList hl fun s₂ e st hfp hlI => ?_); subst e
  refine ⟨_, _, _, _, _, _, _, rfl, Walks.list (A := A.in1) hh _ l hlI (intItems xs), st, hfp, CmpOf.ints_lt (numAt xs) (fun _ _ => intItems_at), fun hn h' tk hk => h0 (by simpa [intItems] using hn) h' tk (old_kept hk), fun hn v h' tk hP hk => ?_⟩
  exact h (by simpa [intItems] using hn) v h' tk (by simpa [intItems] using hP) (old_kept hk)
end
end MinD

set_option Elab.async false
set_option linter.all false
set_option maxRecDepth 100000
set_option maxHeartbeats 4000000
namespace DL
open PySem PySem.Spec PyProof.Rows L2 Evl
def minDefD : List PyData → Option PyData
  | [.list c] => (intsOf c).map fun ns => if ns = [] then .none else .int (minL ns)
  | _ => none
section
variable {X : Cx} {W : WX} {fr : Option Nat} {k n : Nat} {a b c e o : Expr} {es : List Expr} {xa xb xe xk xv xz : XE} {xr xs xd : XS} {ra : XA} {pos p p2 apos pos' tpos kpos cpos : Pos} {x f : Str} {C : Addr} {st : Stmt}
def rMinDef (K : PySem.W.Frag) : List V → List V → Hp → VK → Prop := fun us zs H Q => zs = [.non] ∧ rC K minDefD us H Q
theorem c_minDef (hc : X.calm = true) : CallRK X (.builtin "min") ["default"] (rMinDef X.K) := by
  intro pins s σ H us zs vs ws Q I r rz q
  obtain ⟨rfl, H0, ds, z, s0, ha, hf, q⟩ := q
  cases rz with
  | cons r1 r2 =>
  cases r2
  cases r1
  unfold minDefD at hf
  split at hf
  · rename_i c
    obtain ⟨x, rfl, h⟩ := da1 ha
    cases h4 : intsOf c with
    | none => rw [h4] at hf; cases hf
    | some ns =>
      rw [h4] at hf
      have e := intsOf_eq h4
      subst e
      cases h with
      | lst h1 h2 =>
        have e2 := h2.ints
        subst e2
        obtain ⟨its, rv, hl, _⟩ := I.list (ex_l s0 h1)
        rw [Vals.ref1 r]
        have hi := rv.ints
        obtain ⟨ys, e⟩ := hi.allInts.items
        have hn : numsOf (intItems ys).toList = ns := by rw [← e]; exact hi.numsOf
        rw [nums_intItems] at hn
        have hl2 : s.heap.IsList _ its.toArray := hl.isList
        rw [e] at hl2
        refine MinD.of_ints (I.ok.hd hc) hl2 (fun hz h' tk hk => ?_) fun hz v h' tk hv hk => ?_
        · have en : ns = [] := by
            rw [← hn]
            have : ys = #[] := Array.eq_empty_of_size_eq_zero hz
            rw [this]
            rfl
          simp only [Option.map_some, if_pos en] at hf
          cases hf
          exact ⟨.non, H, I.kept hk, rfl, q _ H0 H (Gr.refl s0) .non⟩
        · have hns : 0 < ns.length := by rw [← hn, List.length_map, Array.length_toList]; exact hz
          have en : ns ≠ [] := by
            intro z
            rw [z] at hns
            cases hns
          simp only [Option.map_some, if_neg en] at hf
          cases hf
          obtain ⟨t, rfl⟩ := intItems_at hv
          obtain ⟨g1, g2⟩ := argBest_lt (numAt ys) (ys.size - 1)
          have hm : numAt ys (argBest (fun i j => decide (numAt ys i < numAt ys j)) (ys.size - 1)) ∈ ns := by
            rw [← hn, numAt_eq]
            exact PySem.getD_mem (by rw [List.length_map, Array.length_toList]; omega)
          have hle : ∀ y ∈ ns, numAt ys (argBest (fun i j => decide (numAt ys i < numAt ys j)) (ys.size - 1)) ≤ y := fun y hy => by
            rw [← hn] at hy
            obtain ⟨j, hj, rfl⟩ := mem_getD hy
            rw [List.length_map, Array.length_toList] at hj
            rw [← numAt_eq]
            exact g2 j (by omega)
          have e3 : numAt ys (argBest (fun i j => decide (numAt ys i < numAt ys j)) (ys.size - 1)) = minL ns := Int.le_antisymm (hle _ (minL_mem hns)) (minL_le hm)
          rw [e3]
          exact ⟨.int _, H, I.kept hk, ⟨_, rfl⟩, q _ H0 H (Gr.refl s0) (.int _)⟩
  · cases hf
theorem bt_min0 : bootBuiltins "min" = some (.builtin "min") := by decide +kernel
/-- min(xs, default=None) -/
theorem px_minDef {j : Nat} (hc : X.calm = true) (hg : Gl X "min") (hm : X.mg "min" = none) (ha : PXA X [e] ra)
    (he : backTo pos (starEach [e] X.env) = (false, eval e X.env) :: backTo pos (starEach [] X.env) := by rfl) (hpl : (backTo pos (starEach [e] X.env)).any (·.1) = false := by rfl)
    (hall : (backToKw pos (keywordEach [⟨some "default", .Constant .none j p2, kpos⟩] X.env)).all (·.1.isSome) = true := by rfl) (hnone : (backToKw pos (keywordEach [⟨some "default", .Constant .none j p2, kpos⟩] X.env)).any (·.1.isNone) = false := by rfl) (hks : (backToKw pos (keywordEach [⟨some "default", .Constant .none j p2, kpos⟩] X.env)).filterMap (·.1) = ([Str.ofString "default"] : List Str) := by rfl) :
    PX X (.Call (.Name "min" p) [e] [⟨some "default", .Constant .none j p2, kpos⟩] pos) (xCall minDefD ra) :=
  pe_imp (pe_callBK (c_minDef hc) hg hm bt_min0 ha (pk_cons pe_non pk_nil) (by decide) (by decide) he hpl hall hnone hks) fun σ H Q q => by
    obtain ⟨as, ρ, os, H0, d, os', n, hx, k⟩ := q
    obtain ⟨ss, ds, h1, h2, h3⟩ := xCall_some hx
    exact ⟨as, ρ, os, H0, ss, os', n, h1, fun vs H1 H1' n1 g1 r1 => ⟨rfl, H1, ds, d, n1.sub, args_datas r1 h2, h3, fun w H3 H3' g3 r3 => k w H3 H3' (n1.grow g3) (g1.tr0 g3) r3⟩⟩
/-! ### statements over objects of one's own -/
theorem En.setV {K : PySem.W.Frag} {as : List Addr} {ρ : List Sl} {os : Os} {σ : L2.St} {H0 H : Hp} {v : V} {s : Sl} (n : En K as ρ os σ H0 H) (i : Nat) (r : ArgOk K as H0 v s) : En K as (ρ.set i s) os (σ.set i (some v)) H0 H := by
  cases s with
  | u => exact r.elim
  | d x => exact n.set i r
  | o k =>
    obtain ⟨a, h1, rfl⟩ := r
    refine ⟨n.sub, by rw [List.length_set, List.length_set]; exact n.len, fun j x h => ?_, fun j m h => ?_, n.ow⟩
    · by_cases e : i = j
      · subst e
        by_cases hl : i < ρ.length
        · rw [List.getElem?_set_self hl] at h
          cases h
        · rw [List.getElem?_eq_none_iff.mpr (by rw [List.length_set]; omega)] at h
          cases h
      · rw [List.getElem?_set_ne e] at h ⊢
        exact n.dat j x h
    · by_cases e : i = j
      · subst e
        by_cases hl : i < ρ.length
        · rw [List.getElem?_set_self hl] at h
          cases h
          exact ⟨a, h1, List.getElem?_set_self (by rw [n.len]; exact hl)⟩
        · rw [List.getElem?_eq_none_iff.mpr (by rw [List.length_set]; omega)] at h
          cases h
      · rw [List.getElem?_set_ne e] at h ⊢
        exact n.ref j m h
/-- name = value -/
def sAsgV (i : Nat) (xs : XS) : SE := fun ρ os => (xs ρ os).map fun p => .nx (ρ.set i p.1) p.2
theorem psx_asgV0 {i : Nat} (h : PS X st (tAsg (teS X.K xs) (gName i))) : PSX X W fr st (sAsgV i xs) := ps_imp h fun D σ H q => by
  obtain ⟨as0, Hs, as, ρ, os, H0, o, bs0, n, hx, k⟩ := q
  unfold sAsgV at hx
  cases h1 : xs ρ os with
  | none => rw [h1] at hx; cases hx
  | some p =>
    obtain ⟨s, os1⟩ := p
    rw [h1] at hx
    cases hx
    exact ⟨as, ρ, os, H0, s, os1, n, h1, fun v as' H0' H' e2 n1 g1 r1 => k as' _ H0' H' e2 (n1.setV i r1) g1⟩
theorem psx_asgV {i : Nat} {y : Str} (hN : X.N.Nodup) (hi : X.N[i]? = some y) (hx : Loc X.env.scope y) (he : PXS X e xs) (hs : swapsWith e (some (.Name y pos')) pos.line X.env = pure false := by rfl) (hf : X.fn y = true ∨ X.env.scope.names.lookup y = some .local := by first | exact .inl rfl | exact .inr rfl | assumption) :
    PSX X W fr (.Assign [.Name y pos'] e pos) (sAsgV i xs) := psx_asgV0 (ps_set hN hi hx he hs hf)
/-- o.f = value -/
def sFldV (C : Addr) (f : Str) (xr xs : XS) : SE := fun ρ os => (xs ρ os).bind fun p => (xr ρ p.2).bind fun q => (insAt C q.2 q.1).bind fun z => if z.2.length < 1000 then some (.nx ρ (q.2.set z.1 (some (.i C (putS f p.1 z.2))))) else none
theorem psx_fldV (hc : Cls X.K C) (hn : NoAttr X.K C f) (ha : PXV X o xr) (hv : PXS X e xs) (hs : swapsWith e (some (.Attribute o f pos')) pos.line X.env = pure false := by rfl) : PSX X W fr (.Assign [.Attribute o f pos'] e pos) (sFldV C f xr xs) := ps_imp (ps_fld ha hv hs) fun D σ H q => by
  obtain ⟨as0, Hs, as, ρ, os, H0, out, bs0, n, hx, k⟩ := q
  unfold sFldV at hx
  cases h1 : xs ρ os with
  | none => rw [h1] at hx; cases hx
  | some p =>
    obtain ⟨s, os1⟩ := p
    rw [h1, Option.bind_some] at hx
    simp only at hx
    cases h2 : xr ρ os1 with
    | none => rw [h2] at hx; cases hx
    | some q =>
      obtain ⟨t, os2⟩ := q
      rw [h2, Option.bind_some] at hx
      simp only at hx
      cases h3 : insAt C os2 t with
      | none => rw [h3] at hx; cases hx
      | some z =>
        obtain ⟨j, fs⟩ := z
        rw [h3, Option.bind_some] at hx
        simp only at hx
        split at hx
        · rename_i hl
          cases hx
          obtain ⟨rfl, h4⟩ := insAt_some h3
          refine ⟨as, ρ, os, H0, s, os1, n, h1, fun v as' H1 H1' e2 n1 g1 r1 => ⟨as', ρ, os1, H1, _, _, n1, h2, fun u H2 H2' n2 g2 r2 => ?_⟩⟩
          obtain ⟨ad, e1, rfl⟩ := r2
          obtain ⟨q1, ho, q2, q3⟩ := n2.ow.at_ j ad _ e1 h4
          obtain ⟨dx, gs, rfl, r⟩ := q3.i_of
          have hm : ad ∈ as' := List.mem_of_getElem? e1
          refine ⟨ad, C, dx, gs, rfl, q2, hc, hn, by rw [fs_len r]; exact hl, ?_⟩
          have g12 : Gr as' H1 H1' H2 (upd H2' ad (.ins C dx (putF f v gs))) := g2.tr (Gr.mut n2.sub hm q1 (n2.ow.trk _ hm))
          exact k as' σ H2 _ e2 (n2.mut (ob := .i C (putS f s fs)) e1 h4 ⟨rfl, fs_put (r1.mono g2.e0) r⟩) (g1.trans g12 e2.mem)
        · cases hx
/-- o.f += e, of whole numbers -/
def sFldAug (C : Addr) (f : Str) (g : Int → Int → Int) (xr : XS) (xe : XE) : SE := fun ρ os => (xr ρ os).bind fun q => (insAt C q.2 q.1).bind fun z => match z.2.lookup f with
  | some (.d (.int v)) => (xe ρ q.2).bind fun p => match p.1 with
    | .int w => (insAt C p.2 q.1).bind fun z2 => if z2.2.length < 1000 then some (.nx ρ (p.2.set z2.1 (some (.i C (putS f (.d (.int (g v w))) z2.2))))) else none
    | _ => none
  | _ => none
theorem psx_fldAug {op : Operator} {g : Int → Int → Int} (hc : Cls X.K C) (hn : NoAttr X.K C f) (ha : PXV X o xr) (hv : PX X e xe) (hop : InOp X op (ipI g)) : PSX X W fr (.AugAssign (.Attribute o f tpos) op e pos) (sFldAug C f g xr xe) := ps_imp (ps_fldaug ha hv hop) fun D σ H q => by
  obtain ⟨as0, Hs, as, ρ, os, H0, out, bs0, n, hx, k⟩ := q
  unfold sFldAug at hx
  cases h2 : xr ρ os with
  | none => rw [h2] at hx; cases hx
  | some q =>
    obtain ⟨t, os2⟩ := q
    rw [h2, Option.bind_some] at hx
    simp only at hx
    cases h3 : insAt C os2 t with
    | none => rw [h3] at hx; cases hx
    | some z =>
      obtain ⟨j, fs⟩ := z
      rw [h3, Option.bind_some] at hx
      simp only at hx
      split at hx
      · rename_i v hv2
        cases h5 : xe ρ os2 with
        | none => rw [h5] at hx; cases hx
        | some p =>
          obtain ⟨d, os3⟩ := p
          rw [h5, Option.bind_some] at hx
          simp only at hx
          cases d with
          | int w =>
            simp only at hx
            cases h6 : insAt C os3 t with
            | none => rw [h6] at hx; cases hx
            | some z2 =>
              obtain ⟨j2, fs2⟩ := z2
              rw [h6, Option.bind_some] at hx
              simp only at hx
              split at hx
              · rename_i hl
                cases hx
                obtain ⟨rfl, h4⟩ := insAt_some h3
                obtain ⟨e4, h7⟩ := insAt_some h6
                cases e4
                refine ⟨as, ρ, os, H0, _, os2, n, h2, fun u H1 H1' n1 g1 r1 => ?_⟩
                obtain ⟨ad, e1, rfl⟩ := r1
                obtain ⟨q1, ho, q2, q3⟩ := n1.ow.at_ j ad _ e1 h4
                obtain ⟨dx, gs, rfl, r⟩ := q3.i_of
                obtain ⟨vv, l1, l2⟩ := fs_at r hv2
                have el := da_intI l2
                subst el
                refine ⟨ad, C, dx, gs, _, rfl, q2, hc, hn, l1, as, ρ, os2, H1, _, os3, n1, h5, fun y H2 H2' n2 g2 r2 => ?_⟩
                have ey := da_intI r2
                subst ey
                obtain ⟨p1, ho2, p2, p3⟩ := n2.ow.at_ j ad _ e1 h7
                obtain ⟨dx2, gs2, rfl, rr⟩ := p3.i_of
                have hm : ad ∈ as := List.mem_of_getElem? e1
                refine ⟨v, w, rfl, rfl, dx2, gs2, p2, by rw [fs_len rr]; exact hl, ?_⟩
                exact k as σ H2 _ Exs.refl (n2.mut (ob := .i C (putS f (.d (.int (g v w))) fs2)) e1 h7 ⟨rfl, fs_put (s := .d (.int (g v w))) (.int _) rr⟩) ((g1.tr g2).tr (Gr.mut n2.sub hm p1 (n2.ow.trk _ hm)))
              · cases hx
          | _ => cases hx
      · cases hx
end
end DL

set_option Elab.async false
set_option linter.all false
set_option maxRecDepth 100000
set_option maxHeartbeats 4000000
namespace DL
open PySem PySem.Spec PyProof.Rows L2 Evl
section
variable {X : Cx} {W : WX} {fr : Option Nat} {k n : Nat} {a b c e o tg iter elt : Expr} {es : List Expr} {xa xb xe xk xv xz : XE} {xr xs xd : XS} {ra : XA} {pos p p2 apos pos' tpos kpos cpos : Pos} {x f : Str} {C : Addr} {st : Stmt}
/-! ### arguments that may be new objects -/
def taS (K : PySem.W.Frag) (x : XA) : TA := fun σ H Q => ∃ as ρ os H0 ss os', En K as ρ os σ H0 H ∧ x ρ os = some (ss, os') ∧ ∀ vs as' H0' H', Exs as H as' → En K as' ρ os' σ H0' H' → Gr as H0 H H0' H' → ArgsOk K as' H0' vs ss → Q vs H'
abbrev PXAS (X : Cx) (es : List Expr) (x : XA) : Prop := PA X es (taS X.K x)
theorem pxas_of (h : PXA X es ra) : PXAS X es ra := pa_imp h fun σ H Q q => by
  obtain ⟨as, ρ, os, H0, s, os', n, hx, k⟩ := q
  exact ⟨as, ρ, os, H0, s, os', n, hx, fun v H0' H' n1 g1 r1 => k v as H0' H' Exs.refl n1 g1 r1⟩
def xaS (xs : XS) (r : XA) : XA := fun ρ os => (xs ρ os).bind fun p => (r ρ p.2).map fun q => (p.1 :: q.1, q.2)
theorem ArgOk.exs {K : PySem.W.Frag} {as as' : List Addr} {H H0 : Hp} {v : V} {s : Sl} (e : Exs as H as') (h : ArgOk K as H0 v s) : ArgOk K as' H0 v s := by
  obtain ⟨bs, rfl, _⟩ := e
  exact h.app
theorem pxas_s (ha : PXS X e xs) (hr : PXAS X es ra) (hs : starEach (e :: es) X.env = (false, eval e X.env) :: starEach es X.env := by rfl) : PXAS X (e :: es) (xaS xs ra) := pa_imp (pa_cons ha hr hs) fun σ H Q q => by
  obtain ⟨as, ρ, os, H0, d, os', n, hx, k⟩ := q
  unfold xaS at hx
  cases h1 : xs ρ os with
  | none => rw [h1] at hx; cases hx
  | some p =>
    obtain ⟨s, os1⟩ := p
    rw [h1, Option.bind_some] at hx
    simp only at hx
    cases h2 : ra ρ os1 with
    | none => rw [h2] at hx; cases hx
    | some q =>
      rw [h2] at hx
      cases hx
      refine ⟨as, ρ, os, H0, s, os1, n, h1, fun v as1 H1 H1' e1 n1 g1 r1 => ⟨as1, ρ, os1, H1, q.1, q.2, n1, h2, fun vs as2 H2 H2' e2 n2 g2 r2 => ?_⟩⟩
      exact k (v :: vs) as2 H2 H2' (e1.trans e2 g1.kp) n2 (g1.trans g2 e1.mem) ⟨(r1.exs e2).mono g2.e0, r2⟩
/-- f(..) where an argument is a new object; it gives data -/
def xFnG (M : XM) (ra : XA) : XE := fun ρ os => (ra ρ os).bind fun p => (M p.1 p.2).bind fun q => (cutW os.length q.2).map fun w => (q.1, w)
theorem px_fnG {m : Nat} {g : Addr} {fd : FuncData} {ps : List Str} {M : XM} (F : FnG X.prog X.w X.K X.mg X.base k g fd m ps (spM X.K m M)) (hr : Rm k X.A) (hg : Gl X x) (hm : X.mg x = some (.ref g)) (hk : PySem.W.keepIn X.K (.ref g) = true) (hb : Binds X.K fd ps []) (ha : PXAS X (e :: es) ra)
    (hl : ∀ ρ os ss os', ra ρ os = some (ss, os') → ss.length = m) (hdb : (x == ("__debug__" : Str)) = false := by decide) (he : starEach (e :: es) X.env = (false, eval e X.env) :: starEach es X.env := by rfl) (hpl : (backTo pos (starEach es X.env)).any (·.1) = false := by rfl) :
    PX X (.Call (.Name x p) (e :: es) [] pos) (xFnG M ra) := pe_imp (pe_callG F hr hg hm hk hb ha hdb he hpl) fun σ H Q q => by
  obtain ⟨as, ρ, os, H0, d, os', n0, hx, k⟩ := q
  unfold xFnG at hx
  cases h1 : ra ρ os with
  | none => rw [h1] at hx; cases hx
  | some p =>
    obtain ⟨ss, os1⟩ := p
    rw [h1, Option.bind_some] at hx
    simp only at hx
    cases h2 : M ss os1 with
    | none => rw [h2] at hx; cases hx
    | some q =>
      obtain ⟨z, os2⟩ := q
      rw [h2, Option.bind_some] at hx
      simp only at hx
      cases h3 : cutW os.length os2 with
      | none => rw [h3] at hx; cases hx
      | some w =>
        rw [h3] at hx
        cases hx
        refine ⟨as, ρ, os, H0, ss, os1, n0, h1, fun vs as1 H1 H1' e1 n1 g1 r1 => ⟨by rw [args_len r1]; exact hl _ _ _ _ h1, as1, ss, os1, H1, _, os2, n1.sub, n1.ow, r1, h2, fun v H2 H2' w2 g2 r2 => ?_⟩⟩
        have gg : Gr as H0 H H2 H2' := g1.trans g2 e1.mem
        have w4 := w2.cut (as := as) (H := H) e1 (by rw [n0.ow.len]; exact h3)
        exact k v H2 H2' (n0.call w4 gg) gg r2
/-! new objects: a list of anything, dicts -/
theorem En.newOb {K : PySem.W.Frag} {as : List Addr} {ρ : List Sl} {os : Os} {σ : L2.St} {H0 H : Hp} {q : Addr} {ho : HO} {ob : Ob} (n : En K as ρ os σ H0 H) (hq : H q = none) (c : Cont K as H0 ho ob) :
    En K (as ++ [q]) ρ (os ++ [some ob]) σ H0 (upd H q ho) ∧ Gr as H0 H H0 (upd H q ho) ∧ (as ++ [q])[os.length]? = some q := by
  have e1 : ∀ b u, H b = some u → upd H q ho b = some u := fun b u e => by
    rw [upd_ne (ne_of_none e hq)]
    exact e
  have g : Gr as H0 H H0 (upd H q ho) := ⟨Ex.refl _, fun b o _ e => e1 b o e, fun _ _ _ e _ => e, fun b hb => by
    cases z : H b with
    | none => exact absurd z hb
    | some u =>
      rw [e1 b u z]
      simp, fun b o e => e1 b o (n.sub b o e)⟩
  have n2 : En K as ρ os σ H0 (upd H q ho) := ⟨g.sub, n.len, n.dat, n.ref, ⟨n.ow.nd, n.ow.len, fun a ha => g.kp a (n.ow.trk a ha), fun k a ob h1 h2 => by
    obtain ⟨q1, o, q2, q3⟩ := n.ow.at_ k a ob h1 h2
    exact ⟨q1, o, e1 a o q2, q3⟩⟩⟩
  have n3 := n2.own (ob := ob) (ho := ho) ρ.length (fresh_back n.sub hq) (fun z => n.ow.trk q z hq) upd_same c
  rw [List.set_eq_of_length_le (Nat.le_refl _), List.set_eq_of_length_le (by rw [n.len]; exact Nat.le_refl _)] at n3
  exact ⟨n3, g, by rw [← n.ow.len, List.getElem?_append_right (Nat.le_refl _)]; simp⟩
theorem exs_one {as : List Addr} {H : Hp} {q : Addr} (hq : H q = none) : Exs as H (as ++ [q]) := ⟨[q], rfl, by simpa using hq⟩
def xsDictK : XS := fun _ os => some (.o os.length, os ++ [some (.k [])])
def xsDictT : XS := fun _ os => some (.o os.length, os ++ [some (.T [])])
theorem pxs_dictK : PXS X (.Dict [] [] pos) xsDictK := pe_imp pe_dnewK fun σ H Q q => by
  obtain ⟨as, ρ, os, H0, d, os', n, hx, k⟩ := q
  cases hx
  intro q hq
  obtain ⟨n2, g2, e2⟩ := n.newOb (ob := .k []) (ho := .dK []) hq True.intro
  exact k _ _ _ _ (exs_one hq) n2 g2 ⟨q, e2, rfl⟩
theorem pxs_dictT : PXS X (.Dict [] [] pos) xsDictT := pe_imp pe_dnewT fun σ H Q q => by
  obtain ⟨as, ρ, os, H0, d, os', n, hx, k⟩ := q
  cases hx
  intro q hq
  obtain ⟨n2, g2, e2⟩ := n.newOb (ob := .T []) (ho := .dT []) hq True.intro
  exact k _ _ _ _ (exs_one hq) n2 g2 ⟨q, e2, rfl⟩
def xsLst (ra : XA) : XS := fun ρ os => (ra ρ os).bind fun p => if p.1.length ≤ sizeLine then some (.o p.2.length, p.2 ++ [some (.r p.1)]) else none
theorem pxs_lst (h : PXAS X es ra) : PXS X (.List es pos) (xsLst ra) := pe_imp (pe_lst h) fun σ H Q q => by
  obtain ⟨as, ρ, os, H0, d, os', n, hx, k⟩ := q
  unfold xsLst at hx
  cases h1 : ra ρ os with
  | none => rw [h1] at hx; cases hx
  | some p =>
    obtain ⟨ss, os1⟩ := p
    rw [h1, Option.bind_some] at hx
    simp only at hx
    split at hx
    · rename_i hz
      cases hx
      refine ⟨as, ρ, os, H0, ss, os1, n, h1, fun vs as1 H1 H1' e1 n1 g1 r1 => ⟨by rw [args_len r1]; exact hz, fun q hq => ?_⟩⟩
      obtain ⟨n2, g2, e2⟩ := n1.newOb (ob := .r ss) (ho := .lst vs) hq r1
      exact k _ _ _ _ (e1.trans (exs_one hq) g1.kp) n2 (g1.trans g2 e1.mem) ⟨q, e2, rfl⟩
    · cases hx
/-- a list of data, as a new object of one's own -/
def xsOwn (xi : XI) : XS := fun ρ os => (xi ρ os).map fun p => (.o p.2.length, p.2 ++ [some (.l p.1)])
theorem pxs_own {xi : XI} (h : PXF X e xi) : PXS X e (xsOwn xi) := pe_imp h fun σ H Q q => by
  obtain ⟨as, ρ, os, H0, s, os', n, hx, k⟩ := q
  unfold xsOwn at hx
  cases h1 : xi ρ os with
  | none => rw [h1] at hx; cases hx
  | some p =>
    obtain ⟨ds, os1⟩ := p
    rw [h1] at hx
    cases hx
    refine ⟨as, ρ, os, H0, ds, os1, n, h1, fun q vs H1 H1' hq n1 g1 h2 h3 h4 r => ?_⟩
    have n3 := n1.own (ob := .l ds) (ho := .lst vs) ρ.length h2 h3 h4 r
    rw [List.set_eq_of_length_le (Nat.le_refl _), List.set_eq_of_length_le (by rw [n1.len]; exact Nat.le_refl _)] at n3
    exact k _ _ _ _ (exs_one hq) n3 g1 ⟨q, by rw [← n1.ow.len, List.getElem?_append_right (Nat.le_refl _)]; simp, rfl⟩
/-! reading lists: data, or one's own -/
def lenV (os : Os) : Sl → Option Int
  | .d (.list c) => some c.length
  | .d (.tuple c) => some c.length
  | .o k => match os[k]? with
    | some (some (.l c)) => some c.length
    | some (some (.r c)) => some c.length
    | _ => none
  | _ => none
def xLenV (xr : XS) : XE := fun ρ os => (xr ρ os).bind fun p => (lenV p.2 p.1).map fun i => (.int i, p.2)
theorem px_lenV (hg : Gl X "len") (hm : X.mg "len" = none) (ha : PXV X e xr) (he : starEach [e] X.env = (false, eval e X.env) :: starEach [] X.env := by rfl) (hpl : (backTo pos (starEach [] X.env)).any (·.1) = false := by rfl) : PX X (.Call (.Name "len" p) [e] [] pos) (xLenV xr) :=
  pe_imp (pe_callB call_len_seq hg hm bt_len (pa_cons ha pa_nil he) (by decide) (by decide) he hpl) fun σ H Q q => by
    obtain ⟨as, ρ, os, H0, d, os', n, hx, k⟩ := q
    unfold xLenV at hx
    cases h1 : xr ρ os with
    | none => rw [h1] at hx; cases hx
    | some p =>
      obtain ⟨s, os1⟩ := p
      rw [h1, Option.bind_some] at hx
      simp only at hx
      cases h2 : lenV os1 s with
      | none => rw [h2] at hx; cases hx
      | some i =>
        rw [h2] at hx
        cases hx
        refine ⟨as, ρ, os, H0, s, _, n, h1, fun v H1 H1' n1 g1 r1 => ?_⟩
        have fin := k (.int i) H1 H1' n1 g1 (.int i)
        unfold lenV at h2
        split at h2
        · cases h2
          cases (show Da _ _ _ _ from r1) with
          | lst l1 l2 => exact ⟨_, _, rfl, .inl (ex_l n1.sub l1), by rw [l2.len]; exact fin⟩
        · cases h2
          cases (show Da _ _ _ _ from r1) with
          | tup l1 l2 => exact ⟨_, _, rfl, .inr (SqT.of (n1.sub _ _ l1)), by rw [l2.len]; exact fin⟩
        · obtain ⟨ad, e1, rfl⟩ := r1
          split at h2
          · rename_i c hc
            cases h2
            obtain ⟨q1, vs, q2, q3⟩ := n1.ow.l _ ad _ e1 hc
            exact ⟨_, _, rfl, .inl (SqL.of q2), by rw [q3.len]; exact fin⟩
          · rename_i c hc
            cases h2
            obtain ⟨q1, ho, q2, q3⟩ := n1.ow.at_ _ ad _ e1 hc
            obtain ⟨vs, rfl, r⟩ := q3.r_of
            exact ⟨_, _, rfl, .inl (SqL.of q2), by rw [args_len r]; exact fin⟩
          · cases h2
        · cases h2
/-- e[i] -/
def ixV (os : Os) (s : Sl) (i : PyData) : Option Sl := match s, i with
  | .d x, i => (ixD x i).map .d
  | .o k, .int j => match os[k]? with
    | some (some (.l c)) => (atI c j).map .d
    | some (some (.r c)) => atI c j
    | some (some (.t c)) => atI c j
    | _ => none
  | _, _ => none
def xrIx (xr : XS) (xi : XE) : XS := fun ρ os => (xr ρ os).bind fun p => (xi ρ p.2).bind fun q => (ixV q.2 p.1 q.1).map fun s => (s, q.2)
theorem args_atI {K : PySem.W.Frag} {as : List Addr} {H : Hp} {vs : List V} {ss : List Sl} {k : Int} {s : Sl} (h : ArgsOk K as H vs ss) (e : L2.atI ss k = some s) : ∃ v, L2.atI vs k = some v ∧ ArgOk K as H v s := by
  unfold L2.atI at e ⊢
  rw [args_len h]
  cases q : ixN ss.length k with
  | none => rw [q] at e; cases e
  | some j =>
    rw [q, Option.bind_some] at e
    obtain ⟨v, h1, h2⟩ := args_at h e
    exact ⟨v, by rw [Option.bind_some]; exact h1, h2⟩
theorem pxv_ix {xi : XE} (ha : PXV X a xr) (hb : PX X b xi) (hs : PlainIx b := by exact fun _ _ => rfl) : PXV X (.Subscript a b pos) (xrIx xr xi) := pe_imp (pe_ix ix_seq ha hb hs) fun σ H Q q => by
  obtain ⟨as, ρ, os, H0, d, os', n, hx, k⟩ := q
  unfold xrIx at hx
  cases h1 : xr ρ os with
  | none => rw [h1] at hx; cases hx
  | some p =>
    obtain ⟨s, os1⟩ := p
    rw [h1, Option.bind_some] at hx
    simp only at hx
    cases h2 : xi ρ os1 with
    | none => rw [h2] at hx; cases hx
    | some q =>
      obtain ⟨i, os2⟩ := q
      rw [h2, Option.bind_some] at hx
      simp only at hx
      cases h3 : ixV os2 s i with
      | none => rw [h3] at hx; cases hx
      | some z =>
        rw [h3] at hx
        cases hx
        refine ⟨as, ρ, os, H0, s, os1, n, h1, fun v H1 H1' n1 g1 r1 => ⟨as, ρ, os1, H1, i, _, n1, h2, fun u H2 H2' n2 g2 r2 => ?_⟩⟩
        have r3 := r1.mono g2.e0
        clear r1
        have fin := fun w (h : ArgOk X.K as H2 w d) => k w H2 H2' n2 (g1.tr g2) h
        unfold ixV at h3
        split at h3
        · rename_i y
          cases h4 : ixD y i with
          | none => rw [h4] at h3; cases h3
          | some z2 =>
            rw [h4] at h3
            cases h3
            have r1 : Da X.K H2 v y := r3
            cases r2 with
            | int j =>
              cases r1 with
              | lst l1 l2 =>
                obtain ⟨w, l3, l4⟩ := l2.atI h4
                exact .inl ⟨_, _, j, w, rfl, rfl, ex_l n2.sub l1, l3, fin w l4⟩
              | tup l1 l2 =>
                obtain ⟨w, l3, l4⟩ := l2.atI h4
                exact .inr (.inl ⟨_, _, j, w, rfl, rfl, SqT.of (n2.sub _ _ l1), l3, fin w l4⟩)
              | str z =>
                simp only [ixD] at h4
                split at h4
                · rename_i hz
                  cases h5 : atI z.cps.toList j with
                  | none => rw [h5] at h4; cases h4
                  | some c =>
                    rw [h5] at h4
                    cases h4
                    exact .inr (.inr ⟨z, j, c, rfl, rfl, hz, h5, fin _ (show Da _ _ _ _ from .str _)⟩)
                · cases h4
              | _ => cases h4
            | _ => cases r1 <;> cases h4
        · rename_i j
          cases r2
          obtain ⟨ad, e1, rfl⟩ := r3
          split at h3
          · rename_i c hc
            cases h4 : atI c j with
            | none => rw [h4] at h3; cases h3
            | some z2 =>
              rw [h4] at h3
              cases h3
              obtain ⟨q1, vs, q2, q3⟩ := n2.ow.l _ ad _ e1 hc
              obtain ⟨w, l3, l4⟩ := q3.atI h4
              exact .inl ⟨_, _, j, w, rfl, rfl, SqL.of q2, l3, fin w l4⟩
          · rename_i c hc
            obtain ⟨q1, ho, q2, q3⟩ := n2.ow.at_ _ ad _ e1 hc
            obtain ⟨vs, rfl, r⟩ := q3.r_of
            obtain ⟨w, l3, l4⟩ := args_atI r h3
            exact .inl ⟨_, _, j, w, rfl, rfl, SqL.of q2, l3, fin w l4⟩
          · rename_i c hc
            obtain ⟨q1, ho, q2, q3⟩ := n2.ow.at_ _ ad _ e1 hc
            obtain ⟨vs, rfl, r⟩ := q3.t_of
            obtain ⟨w, l3, l4⟩ := args_atI r h3
            exact .inr (.inl ⟨_, _, j, w, rfl, rfl, SqT.of q2, l3, fin w l4⟩)
          · cases h3
        · cases h3
end
end DL

set_option Elab.async false
set_option linter.all false
set_option maxRecDepth 100000
set_option maxHeartbeats 4000000
namespace DL
open PySem PySem.Spec PyProof.Rows L2 Evl
/-! ### walks over lists of one's own -/
def itemO (os : Os) (k i : Nat) : Option (Option Sl) := match os[k]? with
  | some (some (.l c)) => some (c[i]?.map .d)
  | some (some (.r c)) => some c[i]?
  | _ => none
/-- what stands there -/
def ListAt (K : PySem.W.Frag) (as : List Addr) (H0 H : Hp) (a : Addr) (os : Os) (k : Nat) : Prop := ∃ vs, H a = some (.lst vs) ∧ ∀ i r, itemO os k i = some r → match r with
  | none => vs.length ≤ i
  | some s => ∃ v, vs[i]? = some v ∧ ArgOk K as H0 v s
theorem listAt {K : PySem.W.Frag} {as : List Addr} {ρ : List Sl} {os : Os} {σ : L2.St} {H0 H : Hp} {a : Addr} {k i : Nat} {r : Option Sl} (n : En K as ρ os σ H0 H) (h : as[k]? = some a) (e : itemO os k i = some r) : ListAt K as H0 H a os k := by
  unfold itemO at e
  split at e
  · rename_i c hc
    obtain ⟨q1, vs, q2, q3⟩ := n.ow.l k a c h hc
    refine ⟨vs, q2, fun j r hj => ?_⟩
    simp only [itemO, hc] at hj
    cases hj
    cases z : c[j]? with
    | none =>
      simp only [Option.map_none]
      rw [q3.len]
      exact List.getElem?_eq_none_iff.mp z
    | some d =>
      simp only [Option.map_some]
      exact q3.at_ z
  · rename_i c hc
    obtain ⟨q1, ho, q2, q3⟩ := n.ow.at_ k a _ h hc
    obtain ⟨vs, rfl, rr⟩ := q3.r_of
    refine ⟨vs, q2, fun j r hj => ?_⟩
    simp only [itemO, hc] at hj
    cases hj
    cases z : c[j]? with
    | none =>
      simp only
      rw [args_len rr]
      exact List.getElem?_eq_none_iff.mp z
    | some d =>
      simp only
      exact args_at rr z
  · cases e
abbrev XGL := Sl → List Sl → Option (List Sl)
def gLO (K : PySem.W.Frag) (g : XGL) (js : List Nat) : TG := fun v σ H Q => ∃ as ρ os H0 s ρ', En K as ρ os σ H0 H ∧ ArgOk K as H0 v s ∧ g s ρ = some ρ' ∧ ∀ σ', En K as ρ' os σ' H0 H → (∀ vs, (∀ j ∈ js, j ∈ vs) → wipe σ' vs = wipe σ vs) → Q σ' H
abbrev PGL (X : Cx) (tg : Expr) (g : XGL) (js : List Nat) : Prop := PG X tg (gLO X.K g js)
def gLNm (i : Nat) : XGL := fun s ρ => some (ρ.set i s)
def gLD (xg : XG) : XGL := fun s ρ => match s with
  | .d x => xg x ρ
  | _ => none
def forLive (k : Nat) (g : XGL) (b : SE) : Nat → Nat → List Sl → Os → Option Out
  | 0, _, _, _ => none
  | m + 1, i, ρ, os => (itemO os k i).bind fun r => match r with
    | none => some (.nx ρ os)
    | some s => (g s ρ).bind fun ρ1 => (b ρ1 os).bind fun o => match o with
      | .nx ρ2 w => forLive k g b m (i + 1) ρ2 w
      | .ct ρ2 w => forLive k g b m (i + 1) ρ2 w
      | .bk ρ2 w => some (.nx ρ2 w)
      | .rt d w => some (.rt d w)
      | .ex C x r w => some (.ex C x r w)
      | .rv s w => some (.rv s w)
def lenO (os : Os) (k : Nat) : Option Nat := match os[k]? with
  | some (some (.l c)) => some c.length
  | some (some (.r c)) => some c.length
  | _ => none
def sForL (xr : XS) (g : XGL) (b : SE) : SE := fun ρ os => (xr ρ os).bind fun p => match p.1 with
  | .o k => (lenO p.2 k).bind fun n => forLive k g b (n + 1) 0 ρ p.2
  | _ => none
theorem item_of_len {os : Os} {k n : Nat} (h : lenO os k = some n) : ∃ r, itemO os k 0 = some r := by
  unfold lenO at h
  unfold itemO
  split at h <;> rename_i c hc
  · exact ⟨_, rfl⟩
  · exact ⟨_, rfl⟩
  · cases h
section
variable {X : Cx} {W : WX} {fr : Option Nat} {tg iter elt e : Expr} {sts : List Stmt} {s : SE} {xr : XS} {g : XGL} {xg : XG} {js : List Nat} {pos : Pos} {i : Nat}
theorem pgl_nm (h : PG X tg (gName i)) : PGL X tg (gLNm i) [i] := pg_imp h fun v σ H Q q => by
  obtain ⟨as, ρ, os, H0, s, ρ', n, r, hx, k⟩ := q
  cases hx
  exact k _ (n.setV i r) fun vs hv => wipe_set (hv i (by simp))
theorem pgl_d (h : PXG X tg xg js) : PGL X tg (gLD xg) js := pg_imp h fun v σ H Q q => by
  obtain ⟨as, ρ, os, H0, s, ρ', n, r, hx, k⟩ := q
  cases s with
  | d x => exact ⟨as, ρ, os, H0, x, ρ', n, r, hx, k⟩
  | _ => cases hx
theorem psx_forL (hp : PassesOwn (model X.prog X.w) X.A X.env X.xe) (hc : X.calm = true) (hi : PXV X iter xr) (hg : PGL X tg g js) (hb : PSXs X W fr sts s) (hs : ∀ x, foldedSetIterable iter X.env x = pure x := by intro _; rfl) :
    PSX X W fr (.For tg iter sts [] pos) (sForL xr g s) := ps_imp (ps_for hp hc (pi_list hi) hg hb hs) fun D σ H q => by
  obtain ⟨as0, Hs, as, ρ, os, H0, o, bs0, n, hx, k⟩ := q
  unfold sForL at hx
  cases h : xr ρ os with
  | none => rw [h] at hx; cases hx
  | some p =>
    obtain ⟨t, os1⟩ := p
    rw [h, Option.bind_some] at hx
    cases t with
    | o kk =>
      simp only at hx
      cases hl : lenO os1 kk with
      | none => rw [hl] at hx; cases hx
      | some n0 =>
        rw [hl, Option.bind_some] at hx
        refine ⟨as, ρ, os, H0, _, os1, n, h, fun v Ha Hb n1 g1 r1 => ?_⟩
        obtain ⟨ad, ek, rfl⟩ := r1
        obtain ⟨r0, e0⟩ := item_of_len hl
        have L0 := listAt n1 ek e0
        refine ⟨ad, rfl, ⟨_, SqL.of L0.choose_spec.1⟩, ?_⟩
        have kk2 := k.step Exs.refl g1
        refine ⟨fun i m σ2 H2 => ∃ as2 ρ2 os2 H2' f, Exs as Hb as2 ∧ En X.K as2 ρ2 os2 σ2 H2' H2 ∧ Gr as Ha Hb H2' H2 ∧ m = f ∧ forLive kk g s f i ρ2 os2 = some o,
          ⟨n0 + 1, as, ρ, os1, Ha, n0 + 1, Exs.refl, n1, Gr.refl n1.sub, rfl, hx⟩, ?_⟩
        rintro i m σ2 H2 ⟨as2, ρ2, os2, H2', f, e2, n2, g2, rfl, hr⟩
        have ek2 : as2[kk]? = some ad := by
          obtain ⟨bs, rfl, _⟩ := e2
          rw [List.getElem?_append_left (List.getElem?_eq_some_iff.mp ek).1]
          exact ek
        cases m with
        | zero => cases hr
        | succ m =>
          simp only [forLive] at hr
          cases q0 : itemO os2 kk i with
          | none => rw [q0] at hr; cases hr
          | some r =>
            rw [q0, Option.bind_some] at hr
            obtain ⟨vs, hv, hit⟩ := listAt n2 ek2 q0
            have hq := hit i r q0
            cases r with
            | none =>
              cases hr
              exact .inl ⟨⟨vs, SqL.of hv, hq⟩, kk2 as2 σ2 H2' H2 e2 n2 g2⟩
            | some t =>
              obtain ⟨v, hv2, ra⟩ := hq
              simp only at hr
              have hlt : i < vs.length := (List.getElem?_eq_some_iff.mp hv2).1
              refine .inr ⟨(walk_list (K := X.K) (a := ad) (xs := vs)).goes i H2 hlt (SqL.of hv), fun σ3 H3 => ∃ as2 ρ2 os2 H2', Exs as Hb as2 ∧ En X.K as2 ρ2 os2 σ3 H2' H3 ∧ Gr as Ha Hb H2' H3 ∧ forLive kk g s m (i + 1) ρ2 os2 = some o,
                fun σ3 H3 ⟨a1, a2, a3, a4, a5, a6, a7, a8⟩ => ⟨m, Nat.lt_succ_self m, a1, a2, a3, a4, m, a5, a6, a7, rfl, a8⟩, fun x H3 y => ?_⟩
              obtain ⟨e3, e4⟩ := (walk_list (K := X.K) (a := ad) (xs := vs)).yields i H2 x H3 hlt (SqL.of hv) y
              subst e3
              rw [hv2] at e4
              cases e4
              cases q1 : g t ρ2 with
              | none => rw [q1] at hr; cases hr
              | some ρ3 =>
                rw [q1, Option.bind_some] at hr
                refine ⟨as2, ρ2, os2, H2', t, ρ3, n2, ra, q1, fun σ4 n4 _ => ?_⟩
                cases q2 : s ρ3 os2 with
                | none => rw [q2] at hr; cases hr
                | some ob =>
                  rw [q2, Option.bind_some] at hr
                  have g23' : Gr as H0 H H2' H3 := g1.tr g2
                  have e2' : Exs as H as2 := Exs.refl.trans e2 g1.kp
                  refine ⟨as0, Hs, as2, ρ3, os2, H2', ob, bs0.step e2' g23'.kp, n4, q2, ?_⟩
                  cases ob with
                  | nx r4 w4 => exact fun as5 σ5 H5' H5 e5 n5 g5 => ⟨as5, r4, w4, H5', e2.trans e5 g2.kp, n5, g2.trans g5 e2.mem, hr⟩
                  | ct r4 w4 => exact fun as5 σ5 H5' H5 e5 n5 g5 => ⟨as5, r4, w4, H5', e2.trans e5 g2.kp, n5, g2.trans g5 e2.mem, hr⟩
                  | bk r4 w4 =>
                    cases hr
                    exact NxOk.step e2 g2 kk2
                  | rt d4 w4 =>
                    cases hr
                    exact RtOk.step e2 g2 kk2
                  | ex C x r4 w4 =>
                    cases hr
                    exact ExOk.step e2 g2 kk2
                  | rv s4 w4 =>
                    cases hr
                    exact RvOk.step e2 g2 kk2
    | _ => cases hx
/-! comprehensions over lists of one's own -/
def lcLive (k : Nat) (g : XGL) (tt : XT) (te : XE) (ρ : List Sl) : Nat → Nat → List PyData → Os → Option (List PyData × Os)
  | 0, _, _, _ => none
  | m + 1, i, acc, os => (itemO os k i).bind fun r => match r with
    | none => some (acc, os)
    | some s => (g s ρ).bind fun ρ1 => (tt ρ1 os).bind fun p => if p.1 = true then (te ρ1 p.2).bind fun q => if acc.length < sizeLine then lcLive k g tt te ρ m (i + 1) (acc ++ [q.1]) q.2 else none else lcLive k g tt te ρ m (i + 1) acc p.2
def lcL (xr : XS) (g : XGL) (tt : XT) (te : XE) (vs : List Nat) : XI := fun ρ os => (xr ρ os).bind fun p => match p.1 with
  | .o k => (lenO p.2 k).bind fun n => lcLive k g tt te (wipeR ρ vs) (n + 1) 0 [] p.2
  | _ => none
theorem to_lcL {K : PySem.W.Frag} {tt : XT} {te : XE} {vs : List Nat} (hj : ∀ j ∈ js, j ∈ vs) {σ : L2.St} {H : Hp} {Q : VK} (q : teF K (lcL xr g tt te vs) σ H Q) : tLc (iList K (teR K xr)) (gLO K g js) (ttO K tt) (teO K te) vs σ H Q := by
  obtain ⟨as, ρ, os, H0, ds, os', n, hx, k⟩ := q
  unfold lcL at hx
  cases h : xr ρ os with
  | none => rw [h] at hx; cases hx
  | some p =>
    obtain ⟨t, os1⟩ := p
    rw [h, Option.bind_some] at hx
    cases t with
    | o kk =>
      simp only at hx
      cases hl : lenO os1 kk with
      | none => rw [hl] at hx; cases hx
      | some n0 =>
        rw [hl, Option.bind_some] at hx
        refine ⟨as, ρ, os, H0, _, os1, n, h, fun v Ha Hb n1 g1 r1 => ?_⟩
        obtain ⟨ad, ek, rfl⟩ := r1
        obtain ⟨r0, e0⟩ := item_of_len hl
        have L0 := listAt n1 ek e0
        refine ⟨ad, rfl, ⟨_, SqL.of L0.choose_spec.1⟩, ?_⟩
        intro D hD
        have nD : D ∉ as := fun z => n1.ow.trk D z hD
        have hadD : ad ≠ D := fun z => nD (by rw [← z]; exact List.mem_of_getElem? ek)
        refine ⟨fun i m H2 => ∃ acc osi H2' vacc, En K as (wipeR ρ vs) osi (wipe σ vs) H2' H2 ∧ Gr as Ha Hb H2' H2 ∧ H2' D = none ∧ H2 D = some (.lst vacc) ∧ DaAll K H2' vacc acc ∧ lcLive kk g tt te (wipeR ρ vs) m i acc osi = some (ds, os'),
          ⟨n0 + 1, [], os1, Ha, [], (n1.wipe vs).away nD (fun a h => upd_ne h) (by rw [upd_same]; simp) (fresh_back n1.sub hD), gr_upd (Gr.refl n1.sub) hD (fresh_back n1.sub hD), fresh_back n1.sub hD, upd_same, .nil, hx⟩, ?_⟩
        rintro i m H2 ⟨acc, osi, H2', vacc, nI, gI, h2, h3, h4, hr⟩
        cases m with
        | zero => cases hr
        | succ m =>
          simp only [lcLive] at hr
          cases q0 : itemO osi kk i with
          | none => rw [q0] at hr; cases hr
          | some r =>
            rw [q0, Option.bind_some] at hr
            obtain ⟨ws, hv, hit⟩ := listAt nI ek q0
            have hq := hit i r q0
            cases r with
            | none =>
              cases hr
              refine .inl ⟨⟨ws, SqL.of hv, hq⟩, k D vacc H2' H2 ?_ (nI.back n1 gI.e0) (g1.tr gI) h2 nD h3 h4⟩
              cases z : H D with
              | none => rfl
              | some u => exact absurd hD (g1.kp D (by rw [z]; simp))
            | some t =>
              obtain ⟨v, hv2, ra⟩ := hq
              simp only at hr
              have hlt : i < ws.length := (List.getElem?_eq_some_iff.mp hv2).1
              refine .inr ⟨(walk_list (K := K) (a := ad) (xs := ws)).goes i H2 hlt (SqL.of hv), fun H3 => ∃ acc osi H2' vacc, En K as (wipeR ρ vs) osi (wipe σ vs) H2' H3 ∧ Gr as Ha Hb H2' H3 ∧ H2' D = none ∧ H3 D = some (.lst vacc) ∧ DaAll K H2' vacc acc ∧ lcLive kk g tt te (wipeR ρ vs) m (i + 1) acc osi = some (ds, os'),
                fun H3 p3 => ⟨m, Nat.lt_succ_self m, p3⟩, fun x H3 y => ?_⟩
              obtain ⟨e3, e4⟩ := (walk_list (K := K) (a := ad) (xs := ws)).yields i H2 x H3 hlt (SqL.of hv) y
              subst e3
              rw [hv2] at e4
              cases e4
              cases q1 : g t (wipeR ρ vs) with
              | none => rw [q1] at hr; cases hr
              | some ρ1 =>
                rw [q1, Option.bind_some] at hr
                refine ⟨as, wipeR ρ vs, osi, H2', t, ρ1, nI, ra, q1, fun σ4 n4 w4 => ⟨(w4 vs hj).trans wipe_wipe, ?_⟩⟩
                cases q2 : tt ρ1 osi with
                | none => rw [q2] at hr; cases hr
                | some p =>
                  obtain ⟨b, os5⟩ := p
                  rw [q2, Option.bind_some] at hr
                  simp only at hr
                  refine ⟨as, ρ1, osi, H2', b, os5, n4, q2, fun H5' H5 n5 g5 => ?_⟩
                  have D5 : H5 D = some (.lst vacc) := g5.e1 D _ nD h3
                  have D5' : H5' D = none := keep_none g5 nD h2 (by rw [h3]; simp)
                  have gA : Gr as Ha Hb H5' H5 := gI.tr g5
                  cases b with
                  | false =>
                    simp only [Bool.false_eq_true, if_false] at hr ⊢
                    exact ⟨acc, os5, H5', vacc, n5.back nI g5.e0, gA, D5', D5, DaAll.mono g5.e0 _ _ h4, hr⟩
                  | true =>
                    simp only [if_true] at hr ⊢
                    cases q3 : te ρ1 os5 with
                    | none => rw [q3] at hr; cases hr
                    | some p =>
                      obtain ⟨yv, os6⟩ := p
                      rw [q3, Option.bind_some] at hr
                      simp only at hr
                      split at hr
                      · rename_i hz
                        refine ⟨as, ρ1, os5, H5', yv, os6, n5, q3, fun v H6' H6 n6 g6 r6 => ?_⟩
                        have D6 : H6 D = some (.lst vacc) := g6.e1 D _ nD D5
                        have D6' : H6' D = none := keep_none g6 nD D5' (by rw [D5]; simp)
                        have h46 : DaAll K H6' vacc acc := DaAll.mono (g5.e0.trans g6.e0) _ _ h4
                        refine ⟨vacc, D6, by rw [h46.len]; exact hz, acc ++ [yv], os6, H6', vacc ++ [v], ?_, gr_upd (gA.tr g6) hD D6', D6', upd_same, h46.app (.cons r6 .nil), hr⟩
                        exact (n6.back nI (g5.e0.trans g6.e0)).away nD (fun a h => upd_ne h) (by rw [upd_same]; simp) D6'
                      · cases hr
    | _ => cases hx
theorem pxf_lcL {tt : XT} {te : XE} {ifs : List Expr} {scope : Scope} {own : List (Str × Nat)} (hc : X.calm = true) (hN : X.N.Nodup) (hi : PXV X iter xr) (ok : BlkOk X.N X.env.scope scope own)
    (hg : ∀ (s : Shared) (H : Hp) (C : Addr) (cl : List (Str × Addr)) (fp : List Addr), PGL (X.blk s H scope (compEnvC scope cl C X.env) fp) tg g js)
    (ht : ∀ (s : Shared) (H : Hp) (C : Addr) (cl : List (Str × Addr)) (fp : List Addr), PXTs (X.blk s H scope (compEnvC scope cl C X.env) fp) ifs tt)
    (he : ∀ (s : Shared) (H : Hp) (C : Addr) (cl : List (Str × Addr)) (fp : List Addr), PX (X.blk s H scope (compEnvC scope cl C X.env) fp) elt te)
    (hj : ∀ j ∈ js, j ∈ own.map (·.2)) (hs : ∀ x, foldedSetIterable iter X.env x = pure x := by intro _; rfl) : PXF X (.ListComp elt [⟨tg, iter, ifs, 0⟩] scope pos) (lcL xr g tt te (own.map (·.2))) :=
  pe_imp (pe_lc hc hN (pi_list hi) ok hg ht he hs) fun _ _ _ q => to_lcL hj q
theorem argsOk_snoc {K : PySem.W.Frag} {as : List Addr} {H : Hp} {v : V} {s : Sl} (r : ArgOk K as H v s) : ∀ {vs : List V} {ss : List Sl}, ArgsOk K as H vs ss → ArgsOk K as H (vs ++ [v]) (ss ++ [s])
  | [], [], _ => ⟨r, True.intro⟩
  | _ :: _, _ :: _, h => ⟨h.1, argsOk_snoc r h.2⟩
  | [], _ :: _, h => h.elim
  | _ :: _, [], h => h.elim
/-! x.append(e), x one's own by any expression; e data, or one's own -/
def appO (os : Os) (k : Nat) (s : Sl) : Option Os := match os[k]? with
  | some (some (.l c)) => match s with
    | .d x => if c.length < sizeLine then some (os.set k (some (.l (c ++ [x])))) else none
    | _ => none
  | some (some (.r c)) => if c.length < sizeLine then some (os.set k (some (.r (c ++ [s])))) else none
  | _ => none
def sAppV (xr : XS) (xs : XS) : SE := fun ρ os => (xr ρ os).bind fun p => match p.1 with
  | .o k => (lenO p.2 k).bind fun _ => (xs ρ p.2).bind fun q => (appO q.2 k q.1).map fun w => .nx ρ w
  | _ => none
theorem appO_ok {K : PySem.W.Frag} {as : List Addr} {ρ : List Sl} {os os' : Os} {σ : L2.St} {H0 H : Hp} {a : Addr} {k : Nat} {s : Sl} {v : V} (n : En K as ρ os σ H0 H) (h : as[k]? = some a) (r : ArgOk K as H0 v s) (e : appO os k s = some os') :
    H0 a = none ∧ ∃ vs, H a = some (.lst vs) ∧ vs.length < sizeLine ∧ En K as ρ os' σ H0 (upd H a (.lst (vs ++ [v]))) := by
  unfold appO at e
  cases hc : os[k]? with
  | none => rw [hc] at e; cases e
  | some z =>
    rw [hc] at e
    cases z with
    | none => cases e
    | some ob =>
      cases ob with
      | l c =>
        cases s with
        | d x =>
          simp only at e
          split at e
          · rename_i hz
            cases e
            obtain ⟨q1, vs, q2, q3⟩ := n.ow.l _ a _ h hc
            exact ⟨q1, vs, q2, by rw [q3.len]; exact hz, n.mut (ob := .l (c ++ [x])) h hc (q3.app (.cons r .nil))⟩
          · cases e
        | _ => cases e
      | r c =>
        simp only at e
        split at e
        · rename_i hz
          cases e
          obtain ⟨q1, ho, q2, q3⟩ := n.ow.at_ _ a _ h hc
          obtain ⟨vs, rfl, rr⟩ := q3.r_of
          exact ⟨q1, vs, q2, by rw [args_len rr]; exact hz, n.mut (ob := .r (c ++ [s])) h hc (argsOk_snoc r rr)⟩
        · cases e
      | _ => cases e
theorem psx_appV {xs : XS} (h : PS X (.Expr e pos) (tDrop (tBM X.K "list" rAppend (teR X.K xr) (tCons (teS X.K xs) tNil)))) : PSX X W fr (.Expr e pos) (sAppV xr xs) := ps_imp h fun D σ H q => by
  obtain ⟨as0, Hs, as, ρ, os, H0, o, bs0, n, hx, k⟩ := q
  unfold sAppV at hx
  cases h1 : xr ρ os with
  | none => rw [h1] at hx; cases hx
  | some p =>
    obtain ⟨t, os1⟩ := p
    rw [h1, Option.bind_some] at hx
    cases t with
    | o kk =>
      simp only at hx
      cases hl : lenO os1 kk with
      | none => rw [hl] at hx; cases hx
      | some n0 =>
        rw [hl, Option.bind_some] at hx
        cases h2 : xs ρ os1 with
        | none => rw [h2] at hx; cases hx
        | some q =>
          obtain ⟨s, os2⟩ := q
          rw [h2, Option.bind_some] at hx
          refine ⟨as, ρ, os, H0, _, os1, n, h1, fun v Ha Hb n1 g1 r1 => ?_⟩
          obtain ⟨ad, ek, rfl⟩ := r1
          obtain ⟨r0, e0⟩ := item_of_len hl
          have L0 := listAt n1 ek e0
          refine ⟨.inl ⟨rfl, _, SqL.of L0.choose_spec.1⟩, as, ρ, os1, Ha, s, os2, n1, h2, fun v as2 H2 H2' e2 n2 g2 r2 => ?_⟩
          have ek2 : as2[kk]? = some ad := by
            obtain ⟨bs, rfl, _⟩ := id e2
            rw [List.getElem?_append_left (List.getElem?_eq_some_iff.mp ek).1]
            exact ek
          have hm : ad ∈ as2 := List.mem_of_getElem? ek2
          have e2' : Exs as H as2 := Exs.refl.trans e2 g1.kp
          cases h5 : appO os2 kk s with
          | none => rw [h5] at hx; cases hx
          | some w =>
            rw [h5] at hx
            cases hx
            obtain ⟨q1, vs, q2, q3, q4⟩ := appO_ok n2 ek2 r2 h5
            exact ⟨ad, vs, v, rfl, rfl, q2, q3, k as2 σ H2 _ e2' q4 ((g1.tr g2).trans (Gr.mut n2.sub hm q1 (n2.ow.trk _ hm)) e2'.mem)⟩
    | _ => cases hx
end
end DL

set_option Elab.async false
set_option linter.all false
set_option maxRecDepth 100000
set_option maxHeartbeats 4000000
namespace DL
open PySem PySem.Spec PyProof.Rows L2 L2.DX Evl
/-! ### sorted(d.items()), whole numbers to whole numbers -/
section
variable {X : Cx}
def rItemsK : V → List V → Hp → VK → Prop := fun x xs H Q => ∃ (a : Addr) (kvs : List (Key × V)), x = .ref a ∧ xs = [] ∧ H a = some (.dK kvs) ∧ ∀ p, H p = none → Q (.ref p) (upd H p (itemsO p a))
theorem mt_itemsK : MtR X "dict.items" rItemsK := by
  intro pins s σ H x xs v us Q I rx rxs h
  obtain ⟨a, kvs, rfl, rfl, ha, q⟩ := h
  cases rx
  cases rxs
  obtain ⟨z, hd, vs, kv, o, es, ep, ho, hx, hdat, _⟩ := dk_of I.hok ha
  refine DT.callItems (es := es) (ep := ep) hd ⟨o, ho, hx, hdat⟩ ?_
  exact ⟨.ref s.heap.objs.size, upd H s.heap.objs.size (itemsO s.heap.objs.size a), I.laid (t' := s.toks) (fun b u e => Heap.get?_push_of_some _ e) (Nat.le_refl _) (itemsO_ok (Heap.get?_push_size _ rfl)), rfl, q _ (I.hok.fresh (Nat.le_refl _))⟩
/-- by the first number, then by the second -/
def leP (x y : Int × Int) : Prop := x.1 < y.1 ∨ (x.1 = y.1 ∧ x.2 ≤ y.2)
abbrev entK (x : Int × Int) : Key × V := (.inl x.1, .int x.2)
def rSortItK : List V → Hp → VK → Prop := fun us H Q => ∃ (p a : Addr) (ns : List (Int × Int)), us = [.ref p] ∧ H p = some (itemsO p a) ∧ H a = some (.dK (ns.map entK)) ∧
  ∀ (H' : Hp) (l : Addr) (ps : List (Addr × Int × Int)), (∀ b o, H b = some o → H' b = some o) → (ps.map (·.2)).Perm ns → (ps.map (·.2)).Pairwise leP → H l = none → H' l = some (.lst (ps.map fun z => V.ref z.1)) →
    (∀ z ∈ ps, H z.1 = none ∧ H' z.1 = some (.tup [.int z.2.1, .int z.2.2])) → Q (.ref l) H'
theorem pairs_at {P : Program} {w : World} : ∀ {es : List DictEntry} {vs : List (Key × Value)} {ns : List (Int × Int)}, Pairs (mixKind P w) es vs → KV (ns.map entK) vs → ∀ (j : Nat) (e : DictEntry), es[j]? = some e → ∃ (x : Int × Int) (t u : Tok), ns[j]? = some x ∧ e.key = .int x.1 t ∧ e.val = .int x.2 u
  | _, _, [], _, .nil, j, e, h => by
    rename_i p
    cases p
    simp at h
  | _, _, x :: ns, .cons h1 h2 p, kv, j, e, h => by
    cases kv with
    | cons r rs =>
      cases j with
      | zero =>
        simp at h
        subst h
        obtain ⟨r1, r2⟩ := r
        obtain ⟨u, ru⟩ := r2
        rw [← r1] at h1
        have h3 : keyIs (.inl x.1) _ = true := h1
        rcases keyIs_shape h3 with ⟨i, t, ei, ev⟩ | ⟨z, t, ei, ev⟩
        · cases ei
          exact ⟨x, t, u, rfl, ev, h2.trans ru⟩
        · cases ei
      | succ j =>
        simp at h
        obtain ⟨y, t, u, g1, g2, g3⟩ := pairs_at p rs j e h
        exact ⟨y, t, u, by simpa using g1, g2, g3⟩
def kfO (o : Obj) : Int × Int := match o.data with
  | .seq #[.int x _, .int y _] _ => (x, y)
  | _ => (0, 0)
def kfOf (h : Heap) (v : Value) : Int × Int := match v with
  | .ref b => match h.get? b with
    | some o => kfO o
    | none => (0, 0)
  | _ => (0, 0)
theorem cr_sortItK (hc : X.calm = true) : CallR X (.builtin "sorted") rSortItK := by
  intro pins s σ H xs us Q I r h
  obtain ⟨p, a, ns, rfl, hp, ha, q⟩ := h
  obtain rfl := Vals.ref1 r
  have view : s.heap.IsItemsView p a := (show ObjOk X.prog X.w H s.heap p (itemsO p a) from I.hok p _ hp).1
  obtain ⟨z, hd, vs, kv, o, es, ep, ho, hx, hdat, hko, hpr, hn⟩ := dk_of I.hok ha
  have l1 : ns.length = vs.length := by have := Paired.length kv; simpa using this
  have l2 : es.size = vs.length := by have := Pairs.length hpr; simpa using this
  have hh : X.A.handled = none := I.ok.hd hc
  have zl : ns.length ≤ sizeLine := by simpa using z
  refine DT.sortedI (es := es) (ep := ep) hh view ⟨o, ho, hx, hdat⟩ (by omega) fun h' tk as hk hlt hl hG => ?_
  have lak : as.length = ns.length := by omega
  have nd : as.Nodup := List.Pairwise.imp (fun h => Nat.ne_of_lt h) hG.rise
  have pr : ∀ (j : Nat) (b : Addr), as[j]? = some b → ∃ (x : Int × Int) (t u : Tok), ns[j]? = some x ∧ h'.get? b = some { cls := .type "tuple", data := .seq #[Value.int x.1 t, Value.int x.2 u] } := fun j b hj => by
    obtain ⟨en, he, hg⟩ := hG.pairs j b hj
    obtain ⟨x, t, u, g1, g2, g3⟩ := pairs_at hpr kv j en (by simpa using he)
    exact ⟨x, t, u, g1, by rw [hg, g2, g3]⟩
  have hob : (h'.push { cls := .type "list", data := .seq (as.map Value.ref).toArray }).get? h'.objs.size = some (seqObj "list" (as.map Value.ref).toArray 0) := Heap.get?_push_size _ rfl
  have kb : ∀ b o, s.heap.get? b = some o → (h'.push { cls := .type "list", data := .seq (as.map Value.ref).toArray }).get? b = some o := fun b o e => Heap.get?_push_of_some _ (hk b o e)
  have ne0 : ∀ b o, h'.get? b = some o → b ≠ h'.objs.size := fun b o e => Nat.ne_of_lt (Heap.lt_size e)
  generalize hh2 : h'.push { cls := .type "list", data := .seq (as.map Value.ref).toArray } = h2 at hob kb ⊢
  have ka : ∀ b o, h'.get? b = some o → h2.get? b = some o := fun b o e => by rw [← hh2]; exact Heap.get?_push_of_some _ e
  -- which pair a value is
  let kf : Value → Int × Int := kfOf h2
  have kf_at : ∀ (j : Nat) (b : Addr) (x : Int × Int), as[j]? = some b → ns[j]? = some x → kf (.ref b) = x := fun j b x hj hx => by
    obtain ⟨y, t, u, g1, g2⟩ := pr j b hj
    rw [hx] at g1
    cases g1
    show kfOf h2 (.ref b) = x
    unfold kfOf
    simp only [ka _ _ g2]
    rfl
  have isp : ∀ v ∈ as.map Value.ref, Srt.IsPair h2 v (kf v).1 (kf v).2 := fun v hv => by
    obtain ⟨b, hb, rfl⟩ := List.mem_map.mp hv
    obtain ⟨j, hj⟩ := List.mem_iff_getElem?.mp hb
    obtain ⟨x, t, u, g1, g2⟩ := pr j b hj
    rw [kf_at j b x hj g1]
    exact ⟨b, _, t, u, 0, rfl, ka _ _ g2, rfl, rfl⟩
  have zz : (as.map Value.ref).length ≤ sizeLine := by rw [List.length_map]; omega
  refine wpAny_call_entry PyProof.Rows.slot_list_sort ⟨_, hob, rfl⟩ PyProof.Rows.entry_list_sort
    (SrtO.list_sort_ord (s := { s with heap := h2, toks := tk }) (ltv := fun v u => SrtO.lexB (kf v) (kf u)) (SrtO.swo_lex kf) hob zz (fun h2' => SrtO.pairs_sortableO (s := { s with heap := h2, toks := tk }) (by omega) isp fun o e => ?_) fun out o1 o2 => ⟨.none, rfl, ?_⟩) (PyProof.Rows.args_list_sort _)
  · have e' : some o = some (seqObj "list" (as.map Value.ref).toArray 0) := e.symm.trans hob
    cases e'
    intro c
    exact absurd (Value.type.inj c) (by decide)
  · show EP X pins σ Q (.ref h'.objs.size) { s with heap := sortedHeap h2 h'.objs.size (as.map Value.ref) out.toArray, toks := tk }
    obtain ⟨zs, pz, ez⟩ := perm_lift (fun z : Addr × Int × Int => Value.ref z.1) o2.perm (as.zip ns) (by
      have : (as.zip ns).map (fun z => Value.ref z.1) = ((as.zip ns).map (·.1)).map Value.ref := by rw [List.map_map]; rfl
      rw [this, List.map_fst_zip (by rw [lak]; exact Nat.le_refl _)])
    have idx : ∀ z ∈ zs, ∃ j : Nat, as[j]? = some z.1 ∧ ns[j]? = some z.2 := fun z' hz' => by
      obtain ⟨j, hj⟩ := List.mem_iff_getElem?.mp (pz.mem_iff.mp hz')
      exact ⟨j, List.getElem?_zip_eq_some.mp hj⟩
    have hperm : (zs.map (·.2)).Perm ns := by
      have e := pz.map (·.2)
      rw [List.map_snd_zip (by rw [lak]; exact Nat.le_refl _)] at e
      exact e
    have hsort : (zs.map (·.2)).Pairwise leP := by
      rw [List.pairwise_map]
      have o3 : out.Pairwise (fun v u => SrtO.lexB (kf u) (kf v) = false) := o1
      rw [← ez, List.pairwise_map] at o3
      refine List.Pairwise.imp_of_mem (fun {x y} hx hy h => ?_) o3
      obtain ⟨j, j1, j2⟩ := idx x hx
      obtain ⟨i, i1, i2⟩ := idx y hy
      rw [kf_at j _ _ j1 j2, kf_at i _ _ i1 i2] at h
      have := SrtO.lexB_no.mp h
      unfold leP
      omega
    have kF : ∀ b o, b ≠ h'.objs.size → h2.get? b = some o → (sortedHeap h2 h'.objs.size (as.map Value.ref) out.toArray).get? b = some o := fun b o hb e => (PyProof.Rows.sortedHeap_old hb (Heap.lt_size e)).trans e
    have kS : ∀ b o, s.heap.get? b = some o → (sortedHeap h2 h'.objs.size (as.map Value.ref) out.toArray).get? b = some o := fun b o e => kF b o (ne0 _ _ (hk b o e)) (kb b o e)
    obtain ⟨eF, heF⟩ := PyProof.Rows.sortedHeap_at (vs := as.map Value.ref) (out := out.toArray) hob
    have I1 : Inv X pins σ H { s with heap := sortedHeap h2 h'.objs.size (as.map Value.ref) out.toArray, toks := tk } := I.kept (t' := tk) kS
    have hn0 : H h'.objs.size = none := I.hok.fresh (Nat.le_of_lt hlt)
    have hlen : (zs.map fun z => V.ref z.1).length ≤ sizeLine := by
      have e := hperm.length_eq
      rw [List.length_map] at e ⊢
      omega
    have rv : Vals (zs.map fun z => V.ref z.1) out := by
      rw [← ez]
      exact vals_maps (fun z : Addr × Int × Int => V.ref z.1) (fun z => Value.ref z.1) zs fun _ _ => rfl
    have I2 : Inv X pins σ (upd H h'.objs.size (.lst (zs.map fun z => V.ref z.1))) { s with heap := sortedHeap h2 h'.objs.size (as.map Value.ref) out.toArray, toks := tk } :=
      I1.take (h' := sortedHeap h2 h'.objs.size (as.map Value.ref) out.toArray) (t' := tk) (fun b ob _ e => e) (I.fpOk (Nat.le_of_lt hlt) hn0) ⟨hlen, out, eF, rv, heF⟩
    obtain ⟨H2, I3, g, qt⟩ := takeT (P := fun b vs => ∃ (j : Nat) (x : Int × Int), as[j]? = some b ∧ ns[j]? = some x ∧ vs = [.int x.1, .int x.2]) I as _ I2 nd fun b hb => by
      obtain ⟨j, hj⟩ := List.mem_iff_getElem?.mp hb
      obtain ⟨x, t, u, he, hg⟩ := pr j b hj
      have hbl : s.heap.objs.size ≤ b := Nat.le_of_lt (hG.above b hb)
      refine ⟨hbl, ?_, [.int x.1, .int x.2], ⟨j, x, hj, he, rfl⟩, fun H3 => ⟨(by show 2 ≤ sizeLine; decide), [Value.int x.1 t, Value.int x.2 u], .cons ⟨t, rfl⟩ (.cons ⟨u, rfl⟩ .nil), ⟨_, kF _ _ (ne0 _ _ hg) (ka _ _ hg), rfl, 0, rfl⟩⟩⟩
      rw [upd_ne (ne0 _ _ hg)]
      exact I.hok.fresh hbl
    have gr : ∀ b o, H b = some o → H2 b = some o := fun b o e => g b o (by rw [upd_ne (ne_of_none e hn0)]; exact e)
    refine ⟨.ref h'.objs.size, H2, I3, rfl, q H2 h'.objs.size zs gr hperm hsort hn0 (g _ _ upd_same) fun z' hz' => ?_⟩
    obtain ⟨i, i1, i2⟩ := idx z' hz'
    obtain ⟨vs', ⟨j, x, j1, j2, ev⟩, hH⟩ := qt z'.1 (List.mem_of_getElem? i1)
    have eij : i = j := (List.getElem?_inj (List.getElem?_eq_some_iff.mp i1).1 nd).mp (i1.trans j1.symm)
    subst eij
    have ee : x = z'.2 := Option.some.inj (j2.symm.trans i2)
    rw [ev, ee] at hH
    exact ⟨I.hok.fresh (Nat.le_of_lt (hG.above _ (List.mem_of_getElem? i1))), hH⟩
end
end DL

set_option Elab.async false
set_option linter.all false
set_option maxRecDepth 100000
set_option maxHeartbeats 4000000
/-! ### set(list of whole numbers); sorted of a set of any size -/
namespace L2
open PySem PySem.Spec PyProof.Rows
section
variable {P : Program} {w : World} {A : Around} {E : Value → Shared → Prop} {s : Shared}
set_option maxHeartbeats 8000000 in
theorem set_of_listI {l : Addr} {items : Array Value} (ns : List Int) {Q : Value → Shared → Prop} (hh : A.handled = none) (hl : s.heap.IsList l items) (hit : IntsAre items.toList ns) (hb : ns.length + 1 < scanBound)
    (h : ∀ (h' : Heap) (tk c : Nat), SetR w h' s.heap.objs.size (fun j => decide (j ∈ ns)) c → c ≤ ns.length → (∀ b o, s.heap.get? b = some o → h'.get? b = some o) → Q (.ref s.heap.objs.size) { s with heap := h', toks := tk }) : wpAny (model P w) A (call (.type "set") [.ref l]) Q E s := by
  have hisz : items.size = ns.length := by have q := IntsAre.length hit; rw [Array.length_toList] at q; exact q
  obtain ⟨c, tl, hmro⟩ := F.called_set.mro; have hmade := F.called_set.made; have hsub := F.called_set.sub
  refine wpAny_call (codeAny_of_tree ?_); show wpAny _ _ (callAny (.type "set") _) _ _ _
  refine wpAny_pure ⟨Code.quiet_builtin _ (by decide +kernel), codeAny_builtin F.entry_type_call ?_⟩; rw [Around.under_plain (weight_type_call_type "set" [.ref l] []) rfl]
  have h1 := F.called_set.notType; have h2 := F.called_set.canCreate; have hct := F.typeCall_set_1 (.ref l)
  repeat (any_goals (first | assumption | wp_step))
  refine codeAny_mono (code_set_led1 (.ref l) (E := E) (Q₁ := fun z s₁ => z = .ref s.heap.objs.size ∧ s₁ = { s with heap := s.heap.push { cls := .type "set", dict := none, data := .set #[] 0 (.fresh 0 0 (!w.params.followText "set-order")) } }) ⟨rfl, rfl⟩) fun r s₁ hr => ?_
  cases r with
  | error e => exact hr
  | ok fl =>
    cases fl with
    | ret z =>
      obtain ⟨rfl, rfl⟩ := hr
      have hS : (s.heap.push { cls := .type "set", dict := none, data := .set #[] 0 (.fresh 0 0 (!w.params.followText "set-order")) }).get? s.heap.objs.size = some { cls := .type "set", dict := none, data := .set #[] 0 (.fresh 0 0 (!w.params.followText "set-order")) } := Heap.get?_push_size s.heap rfl
      have hT : Shared.TypeIs { s with heap := s.heap.push { cls := .type "set", dict := none, data := .set #[] 0 (.fresh 0 0 (!w.params.followText "set-order")) } } (.ref s.heap.objs.size) "set" := ⟨{ cls := .type "set", dict := none, data := .set #[] 0 (.fresh 0 0 (!w.params.followText "set-order")) }, hS, rfl⟩
      have hli := F.called_set.init.lookup; have hbi := F.called_set.init.bind (.ref s.heap.objs.size)
      repeat (any_goals (first | assumption | wp_step))
      refine codeAny_mono (codeAny_call_builtin (R := wants (fun r s₂ => r = .none ∧ ∃ h' tk c, s₂ = { s with heap := h', toks := tk } ∧ SetR w h' s.heap.objs.size (fun j => decide (j ∈ ns)) c ∧ c ≤ ns.length ∧ (∀ b o, s.heap.get? b = some o → h'.get? b = some o)) E) F.called_set.init.plain F.entry_set_init (check_set_init_1 hT ?_)) fun r₂ s₂ hr₂ => ?_
      · obtain ⟨ol, hol, hcl, nl, hdl⟩ := hl; obtain ⟨ocls, odict, odata, oslots⟩ := ol; simp only at hcl hdl; subst hcl; subst hdl
        have hol' : (s.heap.push { cls := .type "set", dict := none, data := .set #[] 0 (.fresh 0 0 (!w.params.followText "set-order")) }).get? l = some { cls := .type "list", dict := odict, data := .seq items nl, slots := oslots } := Heap.get?_push_of_some _ hol
        have hsls := F.sub_list_set; have hslf := F.sub_list_frozenset; have hne : (Value.type "list" == Value.type "dict") = false := by decide
        have hl1 : (s.heap.push { cls := .type "set", dict := none, data := .set #[] 0 (.fresh 0 0 (!w.params.followText "set-order")) }).IsList l items := ⟨{ cls := .type "list", dict := odict, data := .seq items nl, slots := oslots }, hol', rfl, nl, rfl⟩
        unfold Builtin.«set.__init__» noKeywords Builtin.Frozenset.updateFrom; generalize hPI : pyIter = PI; wp_walk; subst hPI
        refine wpAny_pyIter_list hl1 ?_; refine wpAny_bind (wpAny_runValue ?_)
        have hlS : l < s.heap.objs.size := Heap.lt_size hol; have hh3 : A.in1.in1.in1.handled = none := by simp [hh]
        have hneI : l ≠ (s.heap.push { cls := .type "set", dict := none, data := .set #[] 0 (.fresh 0 0 (!w.params.followText "set-order")) }).objs.size := by rw [Heap.size_push]; exact Nat.ne_of_lt (Nat.lt_succ_of_lt hlS)
        have hSf : s.heap.objs.size ∉ [(s.heap.push { cls := .type "set", dict := none, data := .set #[] 0 (.fresh 0 0 (!w.params.followText "set-order")) }).objs.size, l] := by
          rw [Heap.size_push]; simp only [List.mem_cons, List.mem_singleton, List.not_mem_nil, or_false, not_or]; exact ⟨Nat.ne_of_lt (Nat.lt_succ_self _), Nat.ne_of_gt hlS⟩
        have hval : ∀ (i : Nat) (v : Value), items[i]? = some v → ∃ k t, ns[i]? = some k ∧ v = .int k t := fun i v hv => by
          have hi : i < ns.length := by rw [← hisz]; exact (Array.getElem?_eq_some_iff.mp hv).1
          obtain ⟨t, e⟩ := PyProof.Rows.IntsAre.int_at hit i v (by rw [Array.getElem?_toList]; exact hv)
          refine ⟨ns[i], t, List.getElem?_eq_getElem hi, ?_⟩; rw [e, List.getD_eq_getElem?_getD, List.getElem?_eq_getElem hi] <;> rfl
        refine set_update_ints ((Walks.list hh3 _ l hneI items).toS) s.heap.objs.size hSf ns hisz hb hval (items.size - 0) 0 _ (by omega) (Nat.zero_le _) ⟨⟨_, Heap.get?_push_size _ rfl, rfl, rfl⟩, (hl1.push _)⟩ ?hS0 ?hR
        case hS0 => exact ⟨0, Nat.le_refl 0, setR_new_at (Heap.get?_push_of_some _ hS)⟩
        case hR =>
          intro s' c' hm hc' hS'; obtain ⟨h', g2, d', tk', os'⟩ := s'
          have eg : g2 = s.gens := hm.gens; have ed : d' = s.drawn := hm.drawn; have eo : os' = s.os := hm.os
          subst eg; subst ed; subst eo; show wpAny _ _ _ _ _ _
          refine wpAny_pure ?_; show wpAny _ _ (ret Value.none) _ _ _; rw [hisz] at hc'
          refine wpAny_pure ⟨rfl, h', tk', c', rfl, hS', hc', fun b o e => ?_⟩
          have hb0 : b < s.heap.objs.size := Heap.lt_size e
          have hb2 : b ≠ (s.heap.push { cls := .type "set", dict := none, data := .set #[] 0 (.fresh 0 0 (!w.params.followText "set-order")) }).objs.size := by rw [Heap.size_push]; exact Nat.ne_of_lt (Nat.lt_succ_of_lt hb0)
          exact hm.heap b o (by simp only [List.mem_cons, List.mem_singleton, List.not_mem_nil, or_false, not_or]; exact ⟨Nat.ne_of_lt hb0, hb2⟩) (Heap.get?_push_of_some _ (Heap.get?_push_of_some _ e))
      · cases r₂ with
        | error e => exact hr₂
        | ok fl =>
          cases fl with
          | ret z =>
            obtain ⟨rfl, h', tk, c2, rfl, q1, q2, q3⟩ := hr₂
            repeat (any_goals (first | assumption | wp_step))
            first
              | exact h h' tk c2 q1 q2 q3
              | skip
          | _ => exact hr₂
    | _ => exact hr
end
end L2

set_option Elab.async false
set_option linter.all false
set_option maxRecDepth 100000
set_option maxHeartbeats 4000000
namespace L2
open PySem PySem.Spec PyProof.Rows
section
variable {P : Program} {w : World} {A : Around} {E : Value → Shared → Prop} {s : Shared} {a : Addr}
theorem sorted_set_any {S : Int → Bool} {n : Nat} {Q : Value → Shared → Prop} (R : SetR w s.heap a S n) (hh : A.handled = none) (hz0 : n ≤ sizeLine)
    (hQ : ∀ s' p (out : List Value) (c : Nat) (ns : List Int), (∀ b o, s.heap.get? b = some o → s'.heap.get? b = some o) → s'.gens = s.gens → s'.os = s.os → s.heap.objs.size ≤ p → s'.heap.get? p = some (seqObj "list" out.toArray c) → IntsAre out ns → ns.Pairwise (· < ·) → (∀ k, k ∈ ns ↔ S k = true) → ns.length = n → Q (.ref p) s') :
    wpAny (model P w) A (call (.builtin "sorted") [.ref a]) Q E s := by
  obtain ⟨o, es, ep, t, ho, hex, hd, g, nd, hm, hb, hf, hn, hr, hl⟩ := R
  refine Calls.call_function_entry kind_sorted plain_sorted entry_sorted (args_sorted1 _) ?_; unfold Builtin.«sorted»
  refine wpAny_bind (m := checkCount "sorted" 1 1 _) (wpAny_pure ?_)
  refine wpAny_bind (collect_set (A := A.in1) hh ⟨o, ho, hex.1, hd⟩ hf hb hr hl fun s1 vs k1 hz g1 o1 pm => ?_)
  have hvl : vs.length = n := by rw [pm.length_eq, List.length_map, Array.length_toList]; exact hn
  have hI : IntsAre vs (vs.map Builtin.Re.reRawOf) := ints_of vs fun v hv => by
    obtain ⟨e, he, q⟩ := List.mem_map.mp (pm.mem_iff.mp hv); obtain ⟨k, tk, h1, _⟩ := g e he; exact ⟨k, tk, by rw [← q]; exact h1⟩
  have pk : (vs.map Builtin.Re.reRawOf).Perm (es.toList.map keyOf) := by have q := pm.map Builtin.Re.reRawOf; rw [List.map_map] at q; exact q
  refine wpAny_bind (wpAny_newList ?_ (by rw [hvl]; exact hz0))
  have hoL : (s1.heap.push (seqObj "list" vs.toArray 0)).get? s1.heap.objs.size = some (seqObj "list" vs.toArray 0) := Heap.get?_push_size _ rfl
  refine wpAny_bind (wpAny_holding (wpAny_call_entry slot_list_sort ⟨_, hoL, rfl⟩ entry_list_sort (SrtO.list_sort_ord (s := { s1 with heap := s1.heap.push (seqObj "list" vs.toArray 0) }) SrtO.swo_int hoL (by rw [hvl]; exact hz0) (fun h2 => SrtO.ints_sortable hI h2) fun out b1 b2 => ⟨_, rfl, ?_⟩) (args_list_sort _)))
  obtain ⟨c, hc⟩ := sortedHeap_at (vs := vs) (out := out.toArray) hoL
  obtain ⟨a1, a2, a3⟩ := SrtO.ints_out hI b1 b2
  have pn : (out.map SrtO.iv).Perm (es.toList.map keyOf) := a2.trans pk
  refine wpAny_pure ⟨_, rfl, hQ _ s1.heap.objs.size out c _ (fun b u e => ?_) g1 o1 hz hc a1 (lt_of_le_nodup _ a3 (pn.nodup_iff.mpr nd)) (fun k => by rw [pn.mem_iff, ← hm k]) ?_⟩
  · have q := k1 b u e; have hlt := Heap.lt_size q
    show (sortedHeap (s1.heap.push (seqObj "list" vs.toArray 0)) s1.heap.objs.size vs out.toArray).get? b = some u
    rw [sortedHeap_old (Nat.ne_of_lt hlt) (by rw [size_push']; exact Nat.lt_succ_of_lt hlt)]; exact Heap.get?_push_of_some _ q
  · rw [pn.length_eq, List.length_map, Array.length_toList]; exact hn
end
end L2

set_option Elab.async false
set_option linter.all false
set_option maxRecDepth 100000
set_option maxHeartbeats 4000000
namespace DL
open PySem PySem.Spec PyProof.Rows L2 L2.DX Evl
section
variable {X : Cx} {W : WX} {fr : Option Nat} {a b c e o : Expr} {es : List Expr} {xa xb xe xk xz : XE} {xr xd : XS} {ra : XA} {pos p p2 p3 apos cpos pos' : Pos}
/-! ### sorted(set(xs)), whole numbers -/
def dedup (l : List Int) : List Int := l.foldr (fun x acc => if x ∈ acc then acc else x :: acc) []
theorem dedup_mem : ∀ (l : List Int) (x : Int), x ∈ dedup l ↔ x ∈ l
  | [], x => by simp [dedup]
  | y :: r, x => by
    have ih := dedup_mem r x
    have e : dedup (y :: r) = if y ∈ dedup r then dedup r else y :: dedup r := rfl
    rw [e]
    have ihy := dedup_mem r y
    split
    · rename_i hy
      rw [ih, List.mem_cons]
      exact ⟨.inr, fun h => h.elim (fun z => by rw [z]; exact ihy.mp hy) id⟩
    · rw [List.mem_cons, List.mem_cons, ih]
theorem dedup_nodup : ∀ l : List Int, (dedup l).Nodup
  | [] => .nil
  | y :: r => by
    have e : dedup (y :: r) = if y ∈ dedup r then dedup r else y :: dedup r := rfl
    rw [e]
    split
    · exact dedup_nodup r
    · rename_i h
      exact List.nodup_cons.mpr ⟨h, dedup_nodup r⟩
def setSort (l : List Int) : List Int := sortI (dedup l)
theorem lt_uniq : ∀ {l m : List Int}, l.Pairwise (· < ·) → m.Pairwise (· < ·) → (∀ x, x ∈ l ↔ x ∈ m) → l = m := fun {l m} h1 h2 h => by
  have n1 : l.Nodup := h1.imp fun h => Int.ne_of_lt h
  have n2 : m.Nodup := h2.imp fun h => Int.ne_of_lt h
  exact sort_uniq ((List.perm_ext_iff_of_nodup n1 n2).mpr h) (h1.imp fun h => Int.le_of_lt h) (h2.imp fun h => Int.le_of_lt h)
theorem setSort_lt (l : List Int) : (setSort l).Pairwise (· < ·) := lt_of_le_nodup _ (sortI_sorted _) ((sortI_perm _).nodup_iff.mpr (dedup_nodup l))
theorem setSort_mem (l : List Int) (x : Int) : x ∈ setSort l ↔ x ∈ l := by
  unfold setSort
  rw [(sortI_perm _).mem_iff, dedup_mem]
def rSetL (K : PySem.W.Frag) (w : World) : List V → Hp → VK → Prop := fun xs H Q => ∃ (a : Addr) (ns : List Int), xs = [.ref a] ∧ SqL K H a (ns.map V.int) ∧ ns.length + 1 < scanBound ∧
  ∀ p c, H p = none → c ≤ ns.length → Q (.ref p) (upd H p (SetO w p (fun j => decide (j ∈ ns)) c))
theorem cr_setL (hc : X.calm = true) : CallR X (.type "set") (rSetL X.K X.w) := by
  intro pins s σ H vs us Q I r h
  obtain ⟨a, ns, rfl, hs, hb, q⟩ := h
  obtain ⟨its, rv, hl, hz⟩ := I.list hs
  rw [Vals.ref1 r]
  refine set_of_listI ns (I.ok.hd hc) hl.isList (by simpa using rv.ints) hb fun h' tk c new hc' k => ?_
  have hn : H s.heap.objs.size = none := I.hok.fresh (Nat.le_refl _)
  exact ⟨.ref _, upd H s.heap.objs.size (SetO X.w s.heap.objs.size (fun j => decide (j ∈ ns)) c), I.laid (t' := tk) (fun b u e => k b u e) (Nat.le_refl _) (setO_new new), rfl, q _ c hn hc'⟩
def rSortS (w : World) : List V → Hp → VK → Prop := fun vs H Q => ∃ (a : Addr) (S : Int → Bool) (n : Nat), vs = [V.ref a] ∧ H a = some (SetO w a S n) ∧ n ≤ sizeLine ∧
  ∀ (ns : List Int) (p : Addr), ns.Pairwise (· < ·) → (∀ k : Int, k ∈ ns ↔ S k = true) → ns.length = n → H p = none → Q (.ref p) (upd H p (.lst (ns.map V.int)))
theorem cr_sortS (hc : X.calm = true) : CallR X (.builtin "sorted") (rSortS X.w) := by
  intro pins s σ H vs us Q I r h
  obtain ⟨a, S, n, rfl, ha, hz, q⟩ := h
  have R := setO_get I ha
  rw [Vals.ref1 r]
  refine sorted_set_any R (I.ok.hd hc) hz fun s' p out c ns k g o hp hg hi hs hm hl => ?_
  have hlen : (ns.map V.int).length ≤ sizeLine := by rw [List.length_map, hl]; exact hz
  have hn : H p = none := I.hok.fresh hp
  have J : Inv X pins σ (upd H p (.lst (ns.map V.int))) { s with heap := s'.heap, gens := s'.gens, drawn := s'.drawn, toks := s'.toks } := I.call (ch := []) (Un.laid k hp hn) (I.hok.laid k hp ⟨hlen, out, c, vals_of_ints hi, hg⟩) (by rw [g]; exact I.bare) (fun _ z => nomatch z)
  have e : s' = { s with heap := s'.heap, gens := s'.gens, drawn := s'.drawn, toks := s'.toks } := by
    obtain ⟨h1, g1, d1, t1, o1⟩ := s'
    have o : o1 = s.os := o
    subst o
    rfl
  rw [e]
  exact ⟨.ref p, _, J, rfl, q ns p hs hm hl hn⟩
def setSortD : PyData → Option PyData
  | .list c => (intsOf c).bind fun ns => if ns.length + 1 < 4096 then some (.list ((setSort ns).map .int)) else none
  | _ => none
theorem bt_set : bootBuiltins "set" = some (.type "set") := by decide +kernel
theorem px_sortSet (hc : X.calm = true) (hg : Gl X "sorted") (hm : X.mg "sorted" = none) (hg2 : Gl X "set") (hm2 : X.mg "set" = none) (ha : PX X e xe)
    (he : starEach [.Call (.Name "set" p2) [e] [] p3] X.env = (false, eval (.Call (.Name "set" p2) [e] [] p3) X.env) :: starEach [] X.env := by rfl) (hpl : (backTo pos (starEach [] X.env)).any (·.1) = false := by rfl)
    (he2 : starEach [e] X.env = (false, eval e X.env) :: starEach [] X.env := by rfl) (hpl2 : (backTo p3 (starEach [] X.env)).any (·.1) = false := by rfl) : PX X (.Call (.Name "sorted" p) [.Call (.Name "set" p2) [e] [] p3] [] pos) (xUn setSortD xe) :=
  pe_imp (pe_callB (cr_sortS hc) hg hm bt_sorted (pa_cons (pe_callTy (cr_setL hc) hg2 hm2 bt_set (pa_cons ha pa_nil he2) (by decide) (by decide) he2 hpl2) pa_nil he) (by decide) (by decide) he hpl) fun σ H Q q => by
    obtain ⟨as, ρ, os, H0, d, os', n, hx, k⟩ := q
    obtain ⟨x, h1, h3⟩ := xUn_some hx
    refine ⟨as, ρ, os, H0, x, os', n, h1, fun v H1 H1' n1 g1 r1 => ?_⟩
    cases r1 with
    | lst l1 l2 =>
      simp only [setSortD] at h3
      rename_i a0 vs0 ds0
      cases h4 : intsOf ds0 with
      | none => rw [h4] at h3; cases h3
      | some ns =>
        rw [h4, Option.bind_some] at h3
        split at h3
        · rename_i hb
          cases h3
          have hd := intsOf_eq h4
          subst hd
          have hv := da_ints l2
          subst hv
          refine ⟨_, ns, rfl, ex_l n1.sub l1, hb, fun q c hq hcn => ?_⟩
          refine ⟨q, _, c, rfl, upd_same, by have : scanBound = 4096 := rfl; have : sizeLine = 16777216 := rfl; omega, fun ms z hs hm hl hz => ?_⟩
          have em : ms = setSort ns := lt_uniq hs (setSort_lt ns) fun y => by rw [hm y, setSort_mem]; simp
          subst em
          have hzq : z ≠ q := fun y => by rw [y, upd_same] at hz; cases hz
          have hz1 : H1' z = none := by rw [upd_ne hzq] at hz; exact hz
          have g2 : Gr [] H1 H1' (upd H1 z (.lst ((setSort ns).map V.int))) (upd (upd H1' q (SetO X.w q (fun j => decide (j ∈ ns)) c)) z (.lst ((setSort ns).map V.int))) := by
            refine ⟨Ex.new (fresh_back n1.sub hz1), fun b u _ e => ?_, fun b u _ e hb2 => ?_, fun b hb2 => ?_, fun b u e => ?_⟩
            · rw [upd_ne (ne_of_none e hz1), upd_ne (ne_of_none e hq)]
              exact e
            · rw [upd_ne (fun y => hb2 (by rw [y]; exact hz1))] at e
              exact e
            · rw [upd_ne (fun y => hb2 (by rw [y]; exact hz1)), upd_ne (fun y => hb2 (by rw [y]; exact hq))]
              exact hb2
            · by_cases y : b = z
              · subst y
                rw [upd_same] at e ⊢
                exact e
              · rw [upd_ne y] at e ⊢
                have e2 := n1.sub b u e
                rw [upd_ne (ne_of_none e2 hq)]
                exact e2
          exact k _ _ _ (n1.grow g2) (g1.tr0 g2) (.lst (SqL.of upd_same) (ints_da _))
        · cases h3
    | _ => cases h3
/-! ### sorted(d.items()) -/
def pairsOf : List (Key × PyData) → Option (List (Int × Int))
  | [] => some []
  | (.inl i, .int j) :: r => (pairsOf r).map ((i, j) :: ·)
  | _ => none
def leB (x y : Int × Int) : Bool := decide (x.1 < y.1) || (decide (x.1 = y.1) && decide (x.2 ≤ y.2))
theorem leB_iff {x y : Int × Int} : leB x y = true ↔ leP x y := by simp [leB, leP]
def insP (x : Int × Int) : List (Int × Int) → List (Int × Int)
  | [] => [x]
  | y :: r => if leB x y = true then x :: y :: r else y :: insP x r
def sortP : List (Int × Int) → List (Int × Int)
  | [] => []
  | x :: r => insP x (sortP r)
theorem insP_perm (x : Int × Int) : ∀ l, (insP x l).Perm (x :: l)
  | [] => List.Perm.refl _
  | y :: r => by
    unfold insP
    split
    · exact List.Perm.refl _
    · exact ((insP_perm x r).cons y).trans (List.Perm.swap x y r)
theorem sortP_perm : ∀ l, (sortP l).Perm l
  | [] => List.Perm.refl _
  | x :: r => (insP_perm x _).trans ((sortP_perm r).cons x)
theorem leP_tr {x y z : Int × Int} (h : leP x y) (g : leP y z) : leP x z := by unfold leP at *; omega
theorem leP_anti {x y : Int × Int} (h : leP x y) (g : leP y x) : x = y := by
  unfold leP at *
  exact Prod.ext (by omega) (by omega)
theorem insP_sorted (x : Int × Int) : ∀ {l}, l.Pairwise leP → (insP x l).Pairwise leP
  | [], _ => by simp [insP]
  | y :: r, h => by
    obtain ⟨h1, h2⟩ := List.pairwise_cons.mp h
    unfold insP
    split
    · rename_i hxy
      refine List.pairwise_cons.mpr ⟨fun z hz => ?_, h⟩
      rcases List.mem_cons.mp hz with e | e
      · rw [e]; exact leB_iff.mp hxy
      · exact leP_tr (leB_iff.mp hxy) (h1 z e)
    · rename_i hxy
      refine List.pairwise_cons.mpr ⟨fun z hz => ?_, insP_sorted x h2⟩
      rcases List.mem_cons.mp ((insP_perm x r).mem_iff.mp hz) with e | e
      · rw [e]
        have : ¬ leP x y := fun q => hxy (leB_iff.mpr q)
        unfold leP at this ⊢
        omega
      · exact h1 z e
theorem sortP_sorted : ∀ l, (sortP l).Pairwise leP
  | [] => .nil
  | x :: r => insP_sorted x (sortP_sorted r)
theorem sortP_uniq : ∀ {l m : List (Int × Int)}, l.Perm m → l.Pairwise leP → m.Pairwise leP → l = m
  | [], m, p, _, _ => List.Perm.nil_eq p
  | x :: r, [], p, _, _ => absurd p.length_eq (by simp)
  | x :: r, y :: t, p, h1, h2 => by
    obtain ⟨a1, a2⟩ := List.pairwise_cons.mp h1
    obtain ⟨b1, b2⟩ := List.pairwise_cons.mp h2
    have e : x = y := by
      have i1 : y ∈ x :: r := p.mem_iff.mpr (by simp)
      have i2 : x ∈ y :: t := p.mem_iff.mp (by simp)
      rcases List.mem_cons.mp i1 with q | q
      · exact q.symm
      · rcases List.mem_cons.mp i2 with q2 | q2
        · exact q2
        · exact leP_anti (a1 y q) (b1 x q2)
    subst e
    rw [sortP_uniq ((List.perm_cons x).mp p) a2 b2]
def tupP (x : Int × Int) : PyData := .tuple [.int x.1, .int x.2]
def xSortItems (xr : XS) : XE := fun ρ os => (xr ρ os).bind fun p => (obAt p.2 p.1).bind fun q => match q.2 with
  | .k ps => (pairsOf ps).map fun ns => (.list ((sortP ns).map tupP), p.2)
  | _ => none
theorem pairs_rel {K : PySem.W.Frag} {H0 : Hp} : ∀ {kvs : List (Key × V)} {ps : List (Key × PyData)} {ns : List (Int × Int)}, PsOk K H0 kvs ps → pairsOf ps = some ns → kvs = ns.map entK
  | [], [], _, _, e => by cases e; rfl
  | kv :: kvs, q :: ps, ns, h, e => by
    obtain ⟨h1, h2, h3⟩ := h
    obtain ⟨kk, kw⟩ := kv
    obtain ⟨qk, qd⟩ := q
    cases h1
    cases kk with
    | inl i =>
      cases qd with
      | int j =>
        simp only [pairsOf] at e
        cases e2 : pairsOf ps with
        | none => rw [e2] at e; cases e
        | some ms =>
          rw [e2] at e
          cases e
          cases h2
          rw [pairs_rel h3 e2]
          rfl
      | _ => simp [pairsOf] at e
    | inr z => simp [pairsOf] at e
  | [], _ :: _, _, h, _ => h.elim
  | _ :: _, [], _, h, _ => h.elim
theorem da_tups {K : PySem.W.Frag} {H : Hp} : ∀ (zs : List (Addr × Int × Int)), (∀ z ∈ zs, H z.1 = some (.tup [.int z.2.1, .int z.2.2])) → DaAll K H (zs.map fun z => V.ref z.1) ((zs.map (·.2)).map tupP)
  | [], _ => .nil
  | z :: r, h => .cons (.tup (h z (by simp)) (.cons (.int _) (.cons (.int _) .nil))) (da_tups r fun y hy => h y (by simp [hy]))
theorem px_sortItems (hc : X.calm = true) (hg : Gl X "sorted") (hm : X.mg "sorted" = none) (ho : PXV X o xr)
    (he : starEach [.Call (.Attribute o "items" apos) [] [] cpos] X.env = (false, eval (.Call (.Attribute o "items" apos) [] [] cpos) X.env) :: starEach [] X.env := by rfl) (hpl : (backTo pos (starEach [] X.env)).any (·.1) = false := by rfl)
    (hbase : attributeBase o "items" X.env (eval o X.env) = eval o X.env := by rfl) (hline : (apos.endLine == cpos.line) = true := by rfl) : PX X (.Call (.Name "sorted" p) [.Call (.Attribute o "items" apos) [] [] cpos] [] pos) (xSortItems xr) :=
  pe_imp (pe_callB (cr_sortItK hc) hg hm bt_sorted (pa_cons (pe_bm0 PySem.F.plainAttrs_dict PySem.F.slot_dict_items PySem.F.type_dict_items mt_itemsK ho hbase hline) pa_nil he) (by decide) (by decide) he hpl) fun σ H Q q => by
    obtain ⟨as, ρ, os, H0, d, os', n, hx, k⟩ := q
    unfold xSortItems at hx
    cases h1 : xr ρ os with
    | none => rw [h1] at hx; cases hx
    | some p1 =>
      obtain ⟨s, os1⟩ := p1
      rw [h1, Option.bind_some] at hx
      simp only at hx
      cases h2 : obAt os1 s with
      | none => rw [h2] at hx; cases hx
      | some q2 =>
        obtain ⟨j, ob⟩ := q2
        rw [h2, Option.bind_some] at hx
        cases ob with
        | k ps =>
          simp only at hx
          cases h3 : pairsOf ps with
          | none => rw [h3] at hx; cases hx
          | some ns =>
            rw [h3] at hx
            cases hx
            obtain ⟨rfl, h4⟩ := obAt_some h2
            refine ⟨as, ρ, os, H0, _, _, n, h1, fun v H1 H1' n1 g1 r1 => ?_⟩
            obtain ⟨ad, e1, rfl⟩ := r1
            obtain ⟨q1, ho', q2, q3⟩ := n1.ow.at_ j ad _ e1 h4
            obtain ⟨kvs, rfl, r⟩ := q3.k_of
            have ek := pairs_rel r h3
            subst ek
            refine ⟨.inr (.inr (.inl ⟨rfl, .inl ⟨_, q2⟩⟩)), ad, _, rfl, rfl, q2, fun z hz => ?_⟩
            have hza : ad ≠ z := ne_of_none q2 hz
            refine ⟨z, ad, ns, rfl, upd_same, by rw [upd_ne hza]; exact q2, fun H' l zs kp hp hs hl hl2 ht => ?_⟩
            have em : zs.map (·.2) = sortP ns := sortP_uniq (hp.trans (sortP_perm ns).symm) hs (sortP_sorted ns)
            have kp1 : ∀ b o, H1' b = some o → H' b = some o := fun b o e => kp b o (by rw [upd_ne (ne_of_none e hz)]; exact e)
            have hnone : ∀ b, upd H1' z (itemsO z ad) b = none → H1' b = none := fun b hb => by
              by_cases y : b = z
              · rw [y, upd_same] at hb
                cases hb
              · rw [upd_ne y] at hb
                exact hb
            -- the stable part: the new list and its pairs too
            let H2 : Hp := fun b => match H1' b with
              | some _ => H1 b
              | none => if b = l ∨ b ∈ zs.map (fun (z : Addr × Int × Int) => z.1) then H' b else none
            have e0 : Ex H1 H2 := fun b u e => by
              show (match H1' b with | some _ => H1 b | none => _) = some u
              rw [n1.sub b u e]
              exact e
            have g2 : Gr [] H1 H1' H2 H' := by
              refine ⟨e0, fun b u _ e => kp1 b u e, fun b u _ e hb => ?_, fun b hb => ?_, fun b u e => ?_⟩
              · have e : (match H1' b with | some _ => H1 b | none => if b = l ∨ b ∈ zs.map (fun (z : Addr × Int × Int) => z.1) then H' b else none) = some u := e
                cases y : H1' b with
                | none => exact absurd y hb
                | some t => rw [y] at e; exact e
              · cases y : H1' b with
                | none => exact absurd y hb
                | some t => rw [kp1 b t y]; simp
              · have e : (match H1' b with | some _ => H1 b | none => if b = l ∨ b ∈ zs.map (fun (z : Addr × Int × Int) => z.1) then H' b else none) = some u := e
                cases y : H1' b with
                | none =>
                  rw [y] at e
                  simp only at e
                  split at e
                  · exact e
                  · cases e
                | some t =>
                  rw [y] at e
                  exact kp1 b u (n1.sub b u e)
            have hl3 : H2 l = some (.lst (zs.map fun z => V.ref z.1)) := by
              show (match H1' l with | some _ => H1 l | none => if l = l ∨ l ∈ zs.map (fun (z : Addr × Int × Int) => z.1) then H' l else none) = _
              rw [hnone l hl]
              simp [hl2]
            refine k (.ref l) H2 H' (n1.grow g2) (g1.tr0 g2) (.lst (SqL.of hl3) ?_)
            rw [← em]
            refine da_tups zs fun y hy => ?_
            obtain ⟨y1, y2⟩ := ht y hy
            show (match H1' y.1 with | some _ => H1 y.1 | none => if y.1 = l ∨ y.1 ∈ zs.map (fun (z : Addr × Int × Int) => z.1) then H' y.1 else none) = _
            rw [hnone _ y1]
            simp only
            rw [if_pos (.inr (List.mem_map.mpr ⟨y, hy, rfl⟩))]
            exact y2
        | _ => cases hx
end
end DL

set_option Elab.async false
set_option linter.all false
set_option maxRecDepth 100000
set_option maxHeartbeats 4000000
namespace DL
open PySem PySem.Spec PyProof.Rows L2 Evl
section
variable {X : Cx} {W : WX} {fr : Option Nat} {k n : Nat} {a b c e o : Expr} {es : List Expr} {xa xb xe xk xz : XE} {xt : XT} {xr xs xd : XS} {ra : XA} {xi xj : XI} {pos p p2 p3 apos cpos pos' : Pos} {x : Str} {st : Stmt}
/-- a if t else b, new lists both -/
def fIf (t : XT) (xi xj : XI) : XI := fun ρ os => (t ρ os).bind fun p => if p.1 = true then xi ρ p.2 else xj ρ p.2
theorem pxf_if (hc : PXT X c xt) (ha : PXF X a xi) (hb : PXF X b xj) : PXF X (.IfExp c a b pos) (fIf xt xi xj) := pe_imp (pe_ifExp hc ha hb) fun σ H Q q => by
  obtain ⟨as, ρ, os, H0, d, os', n, hx, k⟩ := q
  unfold fIf at hx
  cases h1 : xt ρ os with
  | none => rw [h1] at hx; cases hx
  | some p =>
    obtain ⟨c, os1⟩ := p
    rw [h1, Option.bind_some] at hx
    refine ⟨as, ρ, os, H0, c, os1, n, h1, fun H0' H' n1 g1 => ?_⟩
    have back : ∀ {q : Addr}, H' q = none → H q = none := fun {q} hq => by
      cases z : H q with
      | none => rfl
      | some u => exact absurd hq (g1.kp q (by rw [z]; simp))
    cases c with
    | true => exact ⟨as, ρ, os1, H0', d, os', n1, by simpa using hx, fun q vs H2 H2' hq n2 g2 h2 h3 h4 r => k q vs H2 H2' (back hq) n2 (g1.tr g2) h2 h3 h4 r⟩
    | false => exact ⟨as, ρ, os1, H0', d, os', n1, by simpa using hx, fun q vs H2 H2' hq n2 g2 h2 h3 h4 r => k q vs H2 H2' (back hq) n2 (g1.tr g2) h2 h3 h4 r⟩
/-- e[i], e a new object of one's own -/
theorem pxs_ix {xi : XE} (ha : PXS X a xs) (hb : PX X b xi) (hs : PlainIx b := by exact fun _ _ => rfl) : PXS X (.Subscript a b pos) (xrIx xs xi) := pe_imp (pe_ix ix_seq ha hb hs) fun σ H Q q => by
  obtain ⟨as, ρ, os, H0, d, os', n, hx, k⟩ := q
  unfold xrIx at hx
  cases h1 : xs ρ os with
  | none => rw [h1] at hx; cases hx
  | some p =>
    obtain ⟨s, os1⟩ := p
    rw [h1, Option.bind_some] at hx
    simp only at hx
    cases h2 : xi ρ os1 with
    | none => rw [h2] at hx; cases hx
    | some q =>
      obtain ⟨i, os2⟩ := q
      rw [h2, Option.bind_some] at hx
      simp only at hx
      cases h3 : ixV os2 s i with
      | none => rw [h3] at hx; cases hx
      | some z =>
        rw [h3] at hx
        cases hx
        refine ⟨as, ρ, os, H0, s, os1, n, h1, fun v as1 H1 H1' ex1 n1 g1 r1 => ⟨as1, ρ, os1, H1, i, _, n1, h2, fun u H2 H2' n2 g2 r2 => ?_⟩⟩
        have r3 := r1.mono g2.e0
        clear r1
        have fin := fun w (h : ArgOk X.K as1 H2 w d) => k w as1 H2 H2' ex1 n2 (g1.trans g2 ex1.mem) h
        unfold ixV at h3
        split at h3
        · rename_i y
          cases h4 : ixD y i with
          | none => rw [h4] at h3; cases h3
          | some z2 =>
            rw [h4] at h3
            cases h3
            have r1 : Da X.K H2 v y := r3
            cases r2 with
            | int j =>
              cases r1 with
              | lst l1 l2 =>
                obtain ⟨w, l3, l4⟩ := l2.atI h4
                exact .inl ⟨_, _, j, w, rfl, rfl, ex_l n2.sub l1, l3, fin w l4⟩
              | tup l1 l2 =>
                obtain ⟨w, l3, l4⟩ := l2.atI h4
                exact .inr (.inl ⟨_, _, j, w, rfl, rfl, SqT.of (n2.sub _ _ l1), l3, fin w l4⟩)
              | str z =>
                simp only [ixD] at h4
                split at h4
                · rename_i hz
                  cases h5 : atI z.cps.toList j with
                  | none => rw [h5] at h4; cases h4
                  | some c =>
                    rw [h5] at h4
                    cases h4
                    exact .inr (.inr ⟨z, j, c, rfl, rfl, hz, h5, fin _ (show Da _ _ _ _ from .str _)⟩)
                · cases h4
              | _ => cases h4
            | _ => cases r1 <;> cases h4
        · rename_i j
          cases r2
          obtain ⟨ad, e1, rfl⟩ := r3
          split at h3
          · rename_i c hc
            cases h4 : atI c j with
            | none => rw [h4] at h3; cases h3
            | some z2 =>
              rw [h4] at h3
              cases h3
              obtain ⟨q1, vs, q2, q3⟩ := n2.ow.l _ ad _ e1 hc
              obtain ⟨w, l3, l4⟩ := q3.atI h4
              exact .inl ⟨_, _, j, w, rfl, rfl, SqL.of q2, l3, fin w l4⟩
          · rename_i c hc
            obtain ⟨q1, ho, q2, q3⟩ := n2.ow.at_ _ ad _ e1 hc
            obtain ⟨vs, rfl, r⟩ := q3.r_of
            obtain ⟨w, l3, l4⟩ := args_atI r h3
            exact .inl ⟨_, _, j, w, rfl, rfl, SqL.of q2, l3, fin w l4⟩
          · rename_i c hc
            obtain ⟨q1, ho, q2, q3⟩ := n2.ow.at_ _ ad _ e1 hc
            obtain ⟨vs, rfl, r⟩ := q3.t_of
            obtain ⟨w, l3, l4⟩ := args_atI r h3
            exact .inr (.inl ⟨_, _, j, w, rfl, rfl, SqT.of q2, l3, fin w l4⟩)
          · cases h3
        · cases h3
/-! ### handing back an object of one's own -/
/-- return e, e a list of data of one's own that was made here: a new list -/
def sRetV (n0 : Nat) (xs : XS) : SE := fun ρ os => (xs ρ os).bind fun p => match p.1 with
  | .o j => if n0 ≤ j then match p.2[j]? with
    | some (some (.l ds)) => some (.rt (.list ds) (p.2.set j none))
    | _ => none
    else none
  | _ => none
theorem psx_retV {n0 : Nat} (he : PXS X e xs) : PSX X W (some n0) (.Return (some e) pos) (sRetV n0 xs) := ps_imp (ps_ret he) fun D σ H q => by
  obtain ⟨as0, Hs, as, ρ, os, H0, o, bs0, n, hx, k⟩ := q
  unfold sRetV at hx
  cases h1 : xs ρ os with
  | none => rw [h1] at hx; cases hx
  | some p =>
    obtain ⟨s, os1⟩ := p
    rw [h1, Option.bind_some] at hx
    cases s with
    | o j =>
      simp only at hx
      split at hx
      · rename_i hj
        split at hx
        · rename_i ds h4
          cases hx
          obtain ⟨ds', e0, k⟩ := k
          cases e0
          refine ⟨as, ρ, os, H0, _, _, n, h1, fun v as1 H1 H1' ex1 n1 g1 r1 => ?_⟩
          obtain ⟨adr, e1, rfl⟩ := r1
          obtain ⟨q1, vs, q2, q3⟩ := n1.ow.l j adr _ e1 h4
          have b1 := bs0.step ex1 g1.kp
          refine k adr vs as1 H1 H1' ?_ ex1 ⟨n1.ow.nd, by rw [List.length_set]; exact n1.ow.len, n1.ow.trk, fun m b es h1 h5 => ?_⟩ g1 q1 q2 q3
          · obtain ⟨bb, rfl, hb⟩ := b1.ex
            have hl := b1.len n0 rfl
            rw [List.getElem?_append_right (by omega)] at e1
            exact hb adr (List.mem_of_getElem? e1)
          · by_cases z : j = m
            · subst z
              rw [List.getElem?_set_self (List.getElem?_eq_some_iff.mp h4).1] at h5
              cases h5
            · rw [List.getElem?_set_ne z] at h5
              exact n1.ow.at_ m b es h1 h5
        · cases hx
      · cases hx
    | _ => cases hx
/-- return e, as it is -/
def sRetS (xs : XS) : SE := fun ρ os => (xs ρ os).map fun p => .rv p.1 p.2
theorem psx_retS (he : PXS X e xs) : PSX X W fr (.Return (some e) pos) (sRetS xs) := ps_imp (ps_ret he) fun D σ H q => by
  obtain ⟨as0, Hs, as, ρ, os, H0, o, bs0, n, hx, k⟩ := q
  unfold sRetS at hx
  cases h1 : xs ρ os with
  | none => rw [h1] at hx; cases hx
  | some p =>
    rw [h1] at hx
    cases hx
    exact ⟨as, ρ, os, H0, p.1, p.2, n, h1, fun v as1 H1 H1' ex1 n1 g1 r1 => k v as1 H1 H1' ex1 n1.ow g1 r1⟩
abbrev XMS := List Sl → Os → Option (Sl × Os)
/-- the promise of a def that hands back an object of one's own -/
def spS (K : PySem.W.Frag) (n : Nat) (M : XMS) : Sp := fun vs H Q _ => vs.length = n ∧ ∃ as ss os H0 s os', Ex H0 H ∧ Own K as os H0 H ∧ ArgsOk K as H0 vs ss ∧ M ss os = some (s, os') ∧
  ∀ v as' H0' H', Exs as H as' → Own K as' os' H0' H' → Gr as H0 H H0' H' → ArgOk K as' H0' v s → Q v H'
def mOfS (n N : Nat) (s : SE) : XMS := fun ss os => if ss.length = n then (s (ss ++ List.replicate (N - n) .u) os).bind fun o => match o with
  | .rv s w => some (s, w)
  | .rt d w => some (.d d, w)
  | .nx _ w => some (.d .none, w)
  | _ => none
  else none
theorem fn_s {P : Program} {w : World} {K : PySem.W.Frag} {mg : Str → Option Value} {base : Heap} {x qual : Str} {st : Stmt} {f : Addr} {fd : FuncData} {N ps : List Str} {k : Nat} {sM : SE} (F : Fun K x qual st f fd) (S : FnScope N ps (defScope st))
    (hbody : ∀ (W : WX) (cdv : Value) (A : Around) (outer : List Env) (s : Shared) (H : Hp) (E : XK), Rm k (A.deeper (envOfC qual (defScope st) s.heap.objs.size f cdv)) →
      PSXs (cxOf (L2.CX P w) P w K mg base N qual (defScope st) f cdv A outer s H E).nox W none (defBody st) sM) : FnG P w K mg base (k + 1) f fd ps.length ps (spS K ps.length (mOfS ps.length N.length sM)) := by
  refine fn_g F S rfl (fun vs H Q E h => h.1) fun cdv A outer s H vs Q E hr h => ⟨_, hbody (fun _ _ _ _ => True) cdv A outer s H E hr, ?_⟩
  obtain ⟨hlen, as, ss, os, H0, d, os', h1, h2, h3, h4, h5⟩ := h
  have hpl : ps.length ≤ N.length := by have := congrArg List.length S.pre; rw [List.length_take] at this; omega
  unfold mOfS at h4
  split at h4
  · rename_i hn
    cases q : sM (ss ++ List.replicate (N.length - ps.length) .u) os with
    | none => rw [q] at h4; cases h4
    | some o =>
      rw [q, Option.bind_some] at h4
      refine ⟨as, H, as, _, os, H0, o, bs_start, en_start h1 h2 h3 hn hpl, q, ?_⟩
      cases o with
      | rv s2 w2 =>
        cases h4
        exact fun v as' H0' H' e2 n2 g2 r2 => h5 v as' H0' H' e2 n2 g2 r2
      | rt d2 w2 =>
        cases h4
        exact fun v as' H0' H' e2 n2 g2 r2 => h5 v as' H0' H' e2 n2 g2 r2
      | nx r2 w2 =>
        cases h4
        exact fun as' σ' H0' H' e2 n2 g2 => h5 .non as' H0' H' e2 n2.ow g2 (show Da _ _ _ _ from .non)
      | _ => cases h4
  · cases h4
def xsFn (M : XMS) (ra : XA) : XS := fun ρ os => (ra ρ os).bind fun p => M p.1 p.2
theorem En.callS {K : PySem.W.Frag} {as as' : List Addr} {ρ : List Sl} {os os' : Os} {σ : L2.St} {H0 H H0' H' : Hp} (n : En K as ρ os σ H0 H) (e : Exs as H as') (w : Own K as' os' H0' H') (g : Gr as H0 H H0' H') : En K as' ρ os' σ H0' H' :=
  ⟨g.sub, n.len, fun i x h => by
    obtain ⟨v, e1, r⟩ := n.dat i x h
    exact ⟨v, e1, Da.mono g.e0 _ _ r⟩, fun i j h => by
    obtain ⟨a, h1, h2⟩ := n.ref i j h
    obtain ⟨bs, rfl, _⟩ := e
    exact ⟨a, by rw [List.getElem?_append_left (List.getElem?_eq_some_iff.mp h1).1]; exact h1, h2⟩, w⟩
theorem pxs_fn {g : Addr} {fd : FuncData} {ps : List Str} {M : XMS} {m : Nat} (F : FnG X.prog X.w X.K X.mg X.base k g fd m ps (spS X.K m M)) (hr : Rm k X.A) (hg : Gl X x) (hm : X.mg x = some (.ref g)) (hk : PySem.W.keepIn X.K (.ref g) = true) (hb : Binds X.K fd ps []) (ha : PXAS X (e :: es) ra)
    (hl : ∀ ρ os ss os', ra ρ os = some (ss, os') → ss.length = m) (hdb : (x == ("__debug__" : Str)) = false := by decide) (he : starEach (e :: es) X.env = (false, eval e X.env) :: starEach es X.env := by rfl) (hpl : (backTo pos (starEach es X.env)).any (·.1) = false := by rfl) :
    PXS X (.Call (.Name x p) (e :: es) [] pos) (xsFn M ra) := pe_imp (pe_callG F hr hg hm hk hb ha hdb he hpl) fun σ H Q q => by
  obtain ⟨as, ρ, os, H0, d, os', n0, hx, k⟩ := q
  unfold xsFn at hx
  cases h1 : ra ρ os with
  | none => rw [h1] at hx; cases hx
  | some p =>
    obtain ⟨ss, os1⟩ := p
    rw [h1, Option.bind_some] at hx
    exact ⟨as, ρ, os, H0, ss, os1, n0, h1, fun vs as1 H1 H1' e1 n1 g1 r1 => ⟨by rw [args_len r1]; exact hl _ _ _ _ h1, as1, ss, os1, H1, d, os', n1.sub, n1.ow, r1, hx, fun v as2 H2 H2' e2 w2 g2 r2 => k v as2 H2 H2' (e1.trans e2 g1.kp) (n0.callS (e1.trans e2 g1.kp) w2 (g1.trans g2 e1.mem)) (g1.trans g2 e1.mem) r2⟩⟩
/-- a list of one's own cut: a new one -/
def xsSl (xr : XS) (lo hi : XO) : XS := fun ρ os => (xr ρ os).bind fun p => (lo ρ p.2).bind fun l => (hi ρ l.2).bind fun u => match p.1 with
  | .o j => match u.2[j]? with
    | some (some (.l c)) => some (.o u.2.length, u.2 ++ [some (.l (cutD c l.1 u.1))])
    | some (some (.r c)) => some (.o u.2.length, u.2 ++ [some (.r (cutD c l.1 u.1))])
    | _ => none
  | _ => none
theorem argsOk_take {K : PySem.W.Frag} {as : List Addr} {H : Hp} : ∀ {vs : List V} {ss : List Sl} (n : Nat), ArgsOk K as H vs ss → ArgsOk K as H (vs.take n) (ss.take n)
  | _, _, 0, _ => True.intro
  | [], [], _ + 1, _ => True.intro
  | _ :: _, _ :: _, n + 1, h => ⟨h.1, argsOk_take n h.2⟩
  | [], _ :: _, _ + 1, h => h.elim
  | _ :: _, [], _ + 1, h => h.elim
theorem argsOk_drop {K : PySem.W.Frag} {as : List Addr} {H : Hp} : ∀ {vs : List V} {ss : List Sl} (n : Nat), ArgsOk K as H vs ss → ArgsOk K as H (vs.drop n) (ss.drop n)
  | _, _, 0, h => h
  | [], [], _ + 1, _ => True.intro
  | _ :: _, _ :: _, n + 1, h => argsOk_drop n h.2
  | [], _ :: _, _ + 1, h => h.elim
  | _ :: _, [], _ + 1, h => h.elim
theorem argsOk_cutD {K : PySem.W.Frag} {as : List Addr} {H : Hp} {vs : List V} {ss : List Sl} (h : ArgsOk K as H vs ss) (lo hi : Option Int) : ArgsOk K as H (cutV vs lo hi) (cutD ss lo hi) := by
  unfold cutV cutD
  rw [args_len h]
  exact argsOk_take _ (argsOk_drop _ h)
theorem pxs_slice {lo hi : Option Expr} {xl xh : XO} (he : PXV X e xr) (hl : PXO X lo xl) (hu : PXO X hi xh) : PXS X (.Subscript e (.Slice lo hi none p2) pos) (xsSl xr xl xh) := pe_imp (pe_slice sl_list he hl hu) fun σ H Q q => by
  obtain ⟨as, ρ, os, H0, d, os', n, hx, k⟩ := q
  unfold xsSl at hx
  cases h1 : xr ρ os with
  | none => rw [h1] at hx; cases hx
  | some p =>
    obtain ⟨s, os1⟩ := p
    rw [h1, Option.bind_some] at hx
    simp only at hx
    cases h2 : xl ρ os1 with
    | none => simp only [h2] at hx; cases hx
    | some l =>
      simp only [h2, Option.bind_some] at hx
      cases h3 : xh ρ l.2 with
      | none => rw [h3] at hx; cases hx
      | some u =>
        rw [h3, Option.bind_some] at hx
        cases s with
        | o j =>
          simp only at hx
          refine ⟨as, ρ, os, H0, _, os1, n, h1, fun v H1 H1' n1 g1 r1 => ⟨as, ρ, os1, H1, l.1, l.2, n1, h2, fun H2 H2' n2 g2 => ⟨as, ρ, l.2, H2, u.1, u.2, n2, h3, fun H3 H3' n3 g3 => ?_⟩⟩⟩
          obtain ⟨ad, e1, rfl⟩ := r1
          have gg := (g1.tr g2).tr g3
          split at hx
          · rename_i c hc
            cases hx
            obtain ⟨q1, vs, q2, q3⟩ := n3.ow.l _ ad _ e1 hc
            refine ⟨ad, vs, rfl, SqL.of q2, fun q hq => ?_⟩
            obtain ⟨n4, g4, e4⟩ := n3.newOb (ob := .l (cutD c l.1 u.1)) (ho := .lst (cutV vs l.1 u.1)) hq (q3.cut _ _)
            have hq0 : H q = none := by
              cases z : H q with
              | none => rfl
              | some u => exact absurd hq (gg.kp q (by rw [z]; simp))
            exact k _ _ _ _ (exs_one hq0) n4 (gg.tr g4) ⟨q, e4, rfl⟩
          · rename_i c hc
            cases hx
            obtain ⟨q1, ho, q2, q3⟩ := n3.ow.at_ _ ad _ e1 hc
            obtain ⟨vs, rfl, r⟩ := q3.r_of
            refine ⟨ad, vs, rfl, SqL.of q2, fun q hq => ?_⟩
            obtain ⟨n4, g4, e4⟩ := n3.newOb (ob := .r (cutD c l.1 u.1)) (ho := .lst (cutV vs l.1 u.1)) hq (argsOk_cutD r _ _)
            have hq0 : H q = none := by
              cases z : H q with
              | none => rfl
              | some u => exact absurd hq (gg.kp q (by rw [z]; simp))
            exact k _ _ _ _ (exs_one hq0) n4 (gg.tr g4) ⟨q, e4, rfl⟩
          · cases hx
        | _ => cases hx
/-! d.get(k, z) -/
def xGetD (xd : XS) (xk xz : XE) : XE := fun ρ os => (xd ρ os).bind fun p => (obAt p.2 p.1).bind fun _ => (xk ρ p.2).bind fun q => (xz ρ q.2).bind fun z => (obAt z.2 p.1).bind fun ob => (getO ob.2 q.1).map fun r => (r.getD z.1, z.2)
theorem isD_of {K : PySem.W.Frag} {as : List Addr} {H0 H : Hp} {a : Addr} {o : HO} {ob : Ob} {d : PyData} {r : Option PyData} (h : H a = some o) (c : Cont K as H0 o ob) (e : getO ob d = some r) : IsD H a := by
  cases ob with
  | k ps =>
    obtain ⟨kvs, rfl, _⟩ := c.k_of
    exact .inl ⟨kvs, .inl h⟩
  | T ps =>
    obtain ⟨kvs, rfl, _⟩ := c.T_of
    exact .inr ⟨kvs, .inl h⟩
  | _ => cases e
def isDict : Ob → Bool
  | .k _ => true
  | .T _ => true
  | _ => false
def xGet2 (xd : XS) (xk xz : XE) : XE := fun ρ os => (xd ρ os).bind fun p => (obAt p.2 p.1).bind fun ob => if isDict ob.2 = true then xGetD xd xk xz ρ os else none
theorem px_getD (hu : X.A.units + 1 < cLine) (hd : PXV X a xd) (hk : PX X b xk) (hz : PX X c xz) (m : M2 X a "get" apos b c cpos := by exact ⟨rfl, rfl, rfl, rfl⟩) : PX X (.Call (.Attribute a "get" apos) [b, c] [] cpos) (xGet2 xd xk xz) := pe_imp (pe_dget2 hu hd hk hz m) fun σ H Q q => by
  obtain ⟨as, ρ, os, H0, d, os', n, hx, k⟩ := q
  unfold xGet2 xGetD at hx
  cases h1 : xd ρ os with
  | none => rw [h1] at hx; cases hx
  | some p =>
    obtain ⟨s, os1⟩ := p
    simp only [h1, Option.bind_some] at hx
    cases h0 : obAt os1 s with
    | none => simp only [h0] at hx; cases hx
    | some ob0 =>
      obtain ⟨j0, ob0⟩ := ob0
      simp only [h0, Option.bind_some] at hx
      split at hx
      · rename_i hdict
        cases h2 : xk ρ os1 with
        | none => rw [h2] at hx; cases hx
        | some q =>
          obtain ⟨y, os2⟩ := q
          rw [h2, Option.bind_some] at hx
          simp only at hx
          cases h3 : xz ρ os2 with
          | none => rw [h3] at hx; cases hx
          | some z =>
            obtain ⟨z, os3⟩ := z
            rw [h3, Option.bind_some] at hx
            simp only at hx
            cases h4 : obAt os3 s with
            | none => rw [h4] at hx; cases hx
            | some ob1 =>
              obtain ⟨j1, ob1⟩ := ob1
              rw [h4, Option.bind_some] at hx
              simp only at hx
              cases h5 : getO ob1 y with
              | none => rw [h5] at hx; cases hx
              | some r =>
                rw [h5] at hx
                cases hx
                obtain ⟨rfl, h6⟩ := obAt_some h0
                obtain ⟨e7, h7⟩ := obAt_some h4
                cases e7
                refine ⟨as, ρ, os, H0, _, os1, n, h1, fun v H1 H1' n1 g1 r1 => ?_⟩
                obtain ⟨ad, e1, rfl⟩ := r1
                obtain ⟨q1, ho, q2, q3⟩ := n1.ow.at_ j0 ad _ e1 h6
                have isd : IsD H1' ad := by
                  cases ob0 with
                  | k ps =>
                    obtain ⟨kvs, rfl, _⟩ := q3.k_of
                    exact .inl ⟨kvs, .inl q2⟩
                  | T ps =>
                    obtain ⟨kvs, rfl, _⟩ := q3.T_of
                    exact .inr ⟨kvs, .inl q2⟩
                  | _ => cases hdict
                refine ⟨ad, rfl, isd, as, ρ, os1, H1, y, os2, n1, h2, fun w H2 H2' n2 g2 r2 => ⟨as, ρ, os2, H2, z, _, n2, h3, fun u H3 H3' n3 g3 r3 => ?_⟩⟩
                obtain ⟨p1, ho2, p2, p3⟩ := n3.ow.at_ j0 ad _ e1 h7
                obtain ⟨r', hg, hr⟩ := getO_ok n3.sub p2 p3 (r2.mono g3.e0) h5
                refine ⟨r', hg, ?_⟩
                rcases hr with ⟨z1, z2⟩ | ⟨x, v2, z1, z2, z3⟩
                · subst z1 z2
                  exact k u H3 H3' n3 ((g1.tr g2).tr g3) r3
                · subst z1 z2
                  exact k v2 H3 H3' n3 ((g1.tr g2).tr g3) z3
      · cases hx
end
end DL

set_option Elab.async false
set_option linter.all false
set_option maxRecDepth 100000
set_option maxHeartbeats 4000000
namespace DL
open PySem PySem.Spec PyProof.Rows L2 L2.DX Evl
/-! a, b, .. = e, f, ..: of anything -/
def setAll (ρ : List Sl) : List Nat → List Sl → List Sl
  | [], _ => ρ
  | j :: js, s :: ss => setAll (ρ.set j s) js ss
  | _ :: _, [] => ρ
def setAllσ (σ : L2.St) : List Nat → List V → L2.St
  | [], _ => σ
  | j :: js, v :: vs => setAllσ (σ.set j (some v)) js vs
  | _ :: _, [] => σ
theorem En.setAll {K : PySem.W.Frag} {as : List Addr} {os : Os} {H0 H : Hp} : ∀ {js : List Nat} {vs : List V} {ss : List Sl} {ρ : List Sl} {σ : L2.St}, En K as ρ os σ H0 H → ArgsOk K as H0 vs ss → En K as (DL.setAll ρ js ss) os (setAllσ σ js vs) H0 H
  | [], _, _, _, _, n, _ => by unfold DL.setAll setAllσ; exact n
  | _ :: _, [], [], _, _, n, _ => n
  | j :: js, v :: vs, s :: ss, _, _, n, r => En.setAll (js := js) (n.setV j r.1) r.2
  | _ :: _, [], _ :: _, _, _, _, r => r.elim
  | _ :: _, _ :: _, [], _, _, _, r => r.elim
theorem args_length {K : PySem.W.Frag} {as : List Addr} {H0 : Hp} : ∀ {vs : List V} {ss : List Sl}, ArgsOk K as H0 vs ss → vs.length = ss.length
  | [], [], _ => rfl
  | _ :: _, _ :: _, r => by rw [List.length_cons, List.length_cons, args_length r.2]
  | [], _ :: _, r => r.elim
  | _ :: _, [], r => r.elim
section
variable {X : Cx} {W : WX} {fr : Option Nat} {st : Stmt} {ra : XA} {es tgs : List Expr} {pos p1 p2 : Pos}
def sTupV (js : List Nat) (ra : XA) : SE := fun ρ os => (ra ρ os).bind fun p => if p.1.length = js.length then some (.nx (setAll ρ js p.1) p.2) else none
theorem to_tupV {K : PySem.W.Frag} {js : List Nat} {D : Ends} {σ : L2.St} {H : Hp} (q : tsO fr K W (sTupV js ra) D σ H) : taS K ra σ H fun vs H1 => vs.length = js.length ∧ D.nx (setAllσ σ js vs) H1 := by
  obtain ⟨as0, Hs, as, ρ, os, H0, o, bs0, n, hx, k⟩ := q
  unfold sTupV at hx
  cases h1 : ra ρ os with
  | none => rw [h1] at hx; cases hx
  | some p =>
    obtain ⟨ss, os1⟩ := p
    rw [h1, Option.bind_some] at hx
    simp only at hx
    split at hx
    · rename_i hl
      cases hx
      exact ⟨as, ρ, os, H0, ss, os1, n, h1, fun vs as' H0' H' e2 n1 g1 r1 => ⟨(args_length r1).trans hl, k as' _ H0' H' e2 (n1.setAll r1) g1⟩⟩
    · cases hx
theorem psx_tup2 {i j : Nat} (h : PS X st (tPar i j (taS X.K ra))) : PSX X W fr st (sTupV [i, j] ra) := ps_imp h fun D σ H q => by
  obtain ⟨as, ρ, os, H0, ss, os', n, hx, k⟩ := to_tupV q
  refine ⟨as, ρ, os, H0, ss, os', n, hx, fun vs as' H0' H' e2 n1 g1 r1 => ?_⟩
  obtain ⟨hl, hd⟩ := k vs as' H0' H' e2 n1 g1 r1
  match vs, hl, hd with
  | [v, w], _, hd => exact ⟨v, w, rfl, hd⟩
theorem psx_tup3 {i j l : Nat} (h : PS X st (tPar3 i j l (taS X.K ra))) : PSX X W fr st (sTupV [i, j, l] ra) := ps_imp h fun D σ H q => by
  obtain ⟨as, ρ, os, H0, ss, os', n, hx, k⟩ := to_tupV q
  refine ⟨as, ρ, os, H0, ss, os', n, hx, fun vs as' H0' H' e2 n1 g1 r1 => ?_⟩
  obtain ⟨hl, hd⟩ := k vs as' H0' H' e2 n1 g1 r1
  match vs, hl, hd with
  | [v, w, u], _, hd => exact ⟨v, w, u, rfl, hd⟩
def gsN : List Nat → TGs
  | [] => gNil
  | j :: js => gCons (gName j) (gsN js)
theorem gsN_of {H : Hp} {Q : L2.St → Hp → Prop} : ∀ {js : List Nat} {vs : List V} {σ : L2.St}, vs.length = js.length → Q (setAllσ σ js vs) H → gsN js vs σ H Q
  | [], [], _, _, q => ⟨rfl, q⟩
  | _ :: _, _ :: _, _, l, q => ⟨_, _, rfl, gsN_of (by simpa using l) q⟩
  | [], _ :: _, _, l, _ => by simp at l
  | _ :: _, [], _, l, _ => by simp at l
theorem psx_tupN {js : List Nat} {kk : Nat} (hc : X.calm = true) (ha : PXAS X es ra) (hg : PGs X tgs (gsN js)) (hj : js.length ≤ sizeLine) (hn : (assignEach tgs X.env).length = js.length := by rfl) (hst : (assignEach tgs X.env).findIdx? (·.1) = none := by rfl)
    (hs : swapsWithSole [.Tuple tgs kk p1] (.Tuple es kk p2) pos.line X.env = pure false := by rfl) (hw : swappedStores [.Tuple tgs kk p1] (.Tuple es kk p2) X.env = pure none := by rfl)
    (h1 : (assignEach [.Tuple tgs kk p1] X.env).map (·.2) = [assign (.Tuple tgs kk p1) X.env] := by rfl) :
    PSX X W fr (.Assign [.Tuple tgs kk p1] (.Tuple es kk p2) pos) (sTupV js ra) := ps_imp (ps_asg (pe_tup ha) (pg_tup (n := js.length) hc hg hn hst) hs hw h1) fun D σ H q => by
  obtain ⟨as, ρ, os, H0, ss, os', n, hx, k⟩ := to_tupV q
  refine ⟨as, ρ, os, H0, ss, os', n, hx, fun vs as' H0' H' e2 n1 g1 r1 => ?_⟩
  have hk := fun (z : Hp) (hz : En X.K as' ρ os' σ H0' z) (gz : Gr as H0 H H0' z) => k vs as' H0' z e2 hz gz r1
  refine ⟨by rw [(hk H' n1 g1).1]; exact hj, fun p hp => ?_⟩
  have h0 : H0' p = none := fresh_back n1.sub hp
  have nD : p ∉ as' := fun z => n1.ow.trk p z hp
  have hn : H p = none := by
    cases z : H p with
    | none => rfl
    | some u => exact absurd hp (g1.kp p (by rw [z]; simp))
  obtain ⟨hl, hd⟩ := hk _ (n1.away (H' := upd H' p (.tup vs)) nD (fun a h => upd_ne h) (by rw [upd_same]; simp) h0) (gr_upd g1 hn h0)
  exact ⟨p, vs, rfl, SqT.of upd_same, hl, gsN_of hl hd⟩
end
/-! comprehensions over a list of one's own that is made there -/
section
variable {X : Cx} {elt tg iter : Expr} {pos : Pos} {xs : XS} {g : XGL} {js : List Nat}
def lcLS (xs : XS) (g : XGL) (tt : XT) (te : XE) (vs : List Nat) : XI := fun ρ os => (xs ρ os).bind fun p => match p.1 with
  | .o k => (lenO p.2 k).bind fun n => (lcLive k g tt te (wipeR ρ vs) (n + 1) 0 [] p.2).bind fun q => (cutW os.length q.2).map fun w => (q.1, w)
  | _ => none
theorem to_lcLS {K : PySem.W.Frag} {tt : XT} {te : XE} {vs : List Nat} (hj : ∀ j ∈ js, j ∈ vs) {σ : L2.St} {H : Hp} {Q : VK} (q : teF K (lcLS xs g tt te vs) σ H Q) : tLc (iList K (teS K xs)) (gLO K g js) (ttO K tt) (teO K te) vs σ H Q := by
  obtain ⟨as, ρ, os, H0, ds, os', n, hx, k⟩ := q
  unfold lcLS at hx
  cases h : xs ρ os with
  | none => rw [h] at hx; cases hx
  | some p =>
    obtain ⟨t, os1⟩ := p
    rw [h, Option.bind_some] at hx
    cases t with
    | o kk =>
      simp only at hx
      cases hl : lenO os1 kk with
      | none => rw [hl] at hx; cases hx
      | some n0 =>
        rw [hl, Option.bind_some] at hx
        cases hx0 : lcLive kk g tt te (wipeR ρ vs) (n0 + 1) 0 [] os1 with
        | none => rw [hx0] at hx; cases hx
        | some q9 =>
        obtain ⟨ds9, os9⟩ := q9
        rw [hx0, Option.bind_some] at hx
        simp only at hx
        cases hc9 : cutW os.length os9 with
        | none => rw [hc9] at hx; cases hx
        | some os8 =>
        rw [hc9] at hx
        cases hx
        refine ⟨as, ρ, os, H0, _, os1, n, h, fun v as' Ha Hb ee n1 g1 r1 => ?_⟩
        obtain ⟨ad, ek, rfl⟩ := r1
        obtain ⟨r0, e0⟩ := item_of_len hl
        have L0 := listAt n1 ek e0
        refine ⟨ad, rfl, ⟨_, SqL.of L0.choose_spec.1⟩, ?_⟩
        intro D hD
        have nD : D ∉ as' := fun z => n1.ow.trk D z hD
        have nDa : D ∉ as := fun z => by
          obtain ⟨bs, rfl, _⟩ := ee
          exact nD (List.mem_append_left _ z)
        have hadD : ad ≠ D := fun z => nD (by rw [← z]; exact List.mem_of_getElem? ek)
        refine ⟨fun i m H2 => ∃ acc osi H2' vacc, En K as' (wipeR ρ vs) osi (wipe σ vs) H2' H2 ∧ Gr as' Ha Hb H2' H2 ∧ H2' D = none ∧ H2 D = some (.lst vacc) ∧ DaAll K H2' vacc acc ∧ lcLive kk g tt te (wipeR ρ vs) m i acc osi = some (ds, os9),
          ⟨n0 + 1, [], os1, Ha, [], (n1.wipe vs).away nD (fun a h => upd_ne h) (by rw [upd_same]; simp) (fresh_back n1.sub hD), gr_upd (Gr.refl n1.sub) hD (fresh_back n1.sub hD), fresh_back n1.sub hD, upd_same, .nil, hx0⟩, ?_⟩
        rintro i m H2 ⟨acc, osi, H2', vacc, nI, gI, h2, h3, h4, hr⟩
        cases m with
        | zero => cases hr
        | succ m =>
          simp only [lcLive] at hr
          cases q0 : itemO osi kk i with
          | none => rw [q0] at hr; cases hr
          | some r =>
            rw [q0, Option.bind_some] at hr
            obtain ⟨ws, hv, hit⟩ := listAt nI ek q0
            have hq := hit i r q0
            cases r with
            | none =>
              cases hr
              have lo : as.length = os.length := n.ow.len
              rw [← lo] at hc9
              have nb := nI.back n1 gI.e0
              have nc : En K as ρ os' σ H2' H2 := ⟨nb.sub, nb.len, nb.dat, fun i2 k2 e2 => n.ref i2 k2 e2, Own.cut ee nb.ow hc9⟩
              refine .inl ⟨⟨ws, SqL.of hv, hq⟩, k D vacc H2' H2 ?_ nc (g1.trans gI ee.mem) h2 nDa h3 h4⟩
              cases z : H D with
              | none => rfl
              | some u => exact absurd hD (g1.kp D (by rw [z]; simp))
            | some t =>
              obtain ⟨v, hv2, ra⟩ := hq
              simp only at hr
              have hlt : i < ws.length := (List.getElem?_eq_some_iff.mp hv2).1
              refine .inr ⟨(walk_list (K := K) (a := ad) (xs := ws)).goes i H2 hlt (SqL.of hv), fun H3 => ∃ acc osi H2' vacc, En K as' (wipeR ρ vs) osi (wipe σ vs) H2' H3 ∧ Gr as' Ha Hb H2' H3 ∧ H2' D = none ∧ H3 D = some (.lst vacc) ∧ DaAll K H2' vacc acc ∧ lcLive kk g tt te (wipeR ρ vs) m (i + 1) acc osi = some (ds, os9),
                fun H3 p3 => ⟨m, Nat.lt_succ_self m, p3⟩, fun x H3 y => ?_⟩
              obtain ⟨e3, e4⟩ := (walk_list (K := K) (a := ad) (xs := ws)).yields i H2 x H3 hlt (SqL.of hv) y
              subst e3
              rw [hv2] at e4
              cases e4
              cases q1 : g t (wipeR ρ vs) with
              | none => rw [q1] at hr; cases hr
              | some ρ1 =>
                rw [q1, Option.bind_some] at hr
                refine ⟨as', wipeR ρ vs, osi, H2', t, ρ1, nI, ra, q1, fun σ4 n4 w4 => ⟨(w4 vs hj).trans wipe_wipe, ?_⟩⟩
                cases q2 : tt ρ1 osi with
                | none => rw [q2] at hr; cases hr
                | some p =>
                  obtain ⟨b, os5⟩ := p
                  rw [q2, Option.bind_some] at hr
                  simp only at hr
                  refine ⟨as', ρ1, osi, H2', b, os5, n4, q2, fun H5' H5 n5 g5 => ?_⟩
                  have D5 : H5 D = some (.lst vacc) := g5.e1 D _ nD h3
                  have D5' : H5' D = none := keep_none g5 nD h2 (by rw [h3]; simp)
                  have gA : Gr as' Ha Hb H5' H5 := gI.tr g5
                  cases b with
                  | false =>
                    simp only [Bool.false_eq_true, if_false] at hr ⊢
                    exact ⟨acc, os5, H5', vacc, n5.back nI g5.e0, gA, D5', D5, DaAll.mono g5.e0 _ _ h4, hr⟩
                  | true =>
                    simp only [if_true] at hr ⊢
                    cases q3 : te ρ1 os5 with
                    | none => rw [q3] at hr; cases hr
                    | some p =>
                      obtain ⟨yv, os6⟩ := p
                      rw [q3, Option.bind_some] at hr
                      simp only at hr
                      split at hr
                      · rename_i hz
                        refine ⟨as', ρ1, os5, H5', yv, os6, n5, q3, fun v H6' H6 n6 g6 r6 => ?_⟩
                        have D6 : H6 D = some (.lst vacc) := g6.e1 D _ nD D5
                        have D6' : H6' D = none := keep_none g6 nD D5' (by rw [D5]; simp)
                        have h46 : DaAll K H6' vacc acc := DaAll.mono (g5.e0.trans g6.e0) _ _ h4
                        refine ⟨vacc, D6, by rw [h46.len]; exact hz, acc ++ [yv], os6, H6', vacc ++ [v], ?_, gr_upd (gA.tr g6) hD D6', D6', upd_same, h46.app (.cons r6 .nil), hr⟩
                        exact (n6.back nI (g5.e0.trans g6.e0)).away nD (fun a h => upd_ne h) (by rw [upd_same]; simp) D6'
                      · cases hr
    | _ => cases hx
theorem pxf_lcLS {tt : XT} {te : XE} {ifs : List Expr} {scope : Scope} {own : List (Str × Nat)} (hc : X.calm = true) (hN : X.N.Nodup) (hi : PXS X iter xs) (ok : BlkOk X.N X.env.scope scope own)
    (hg : ∀ (s : Shared) (H : Hp) (C : Addr) (cl : List (Str × Addr)) (fp : List Addr), PGL (X.blk s H scope (compEnvC scope cl C X.env) fp) tg g js)
    (ht : ∀ (s : Shared) (H : Hp) (C : Addr) (cl : List (Str × Addr)) (fp : List Addr), PXTs (X.blk s H scope (compEnvC scope cl C X.env) fp) ifs tt)
    (he : ∀ (s : Shared) (H : Hp) (C : Addr) (cl : List (Str × Addr)) (fp : List Addr), PX (X.blk s H scope (compEnvC scope cl C X.env) fp) elt te)
    (hj : ∀ j ∈ js, j ∈ own.map (·.2)) (hs : ∀ x, foldedSetIterable iter X.env x = pure x := by intro _; rfl) : PXF X (.ListComp elt [⟨tg, iter, ifs, 0⟩] scope pos) (lcLS xs g tt te (own.map (·.2))) :=
  pe_imp (pe_lc hc hN (pi_list hi) ok hg ht he hs) fun _ _ _ q => to_lcLS hj q
end
/-! sorted(d.items()) as a new list -/
section
variable {X : Cx} {o : Expr} {xr : XS} {pos p apos cpos : Pos}
def fSortItems (xr : XS) : XI := fun ρ os => (xr ρ os).bind fun p => (obAt p.2 p.1).bind fun q => match q.2 with
  | .k ps => (pairsOf ps).map fun ns => ((sortP ns).map tupP, p.2)
  | _ => none
theorem pxf_sortItems (hc : X.calm = true) (hg : Gl X "sorted") (hm : X.mg "sorted" = none) (ho : PXV X o xr)
    (he : starEach [.Call (.Attribute o "items" apos) [] [] cpos] X.env = (false, eval (.Call (.Attribute o "items" apos) [] [] cpos) X.env) :: starEach [] X.env := by rfl) (hpl : (backTo pos (starEach [] X.env)).any (·.1) = false := by rfl)
    (hbase : attributeBase o "items" X.env (eval o X.env) = eval o X.env := by rfl) (hline : (apos.endLine == cpos.line) = true := by rfl) : PXF X (.Call (.Name "sorted" p) [.Call (.Attribute o "items" apos) [] [] cpos] [] pos) (fSortItems xr) :=
  pe_imp (pe_callB (cr_sortItK hc) hg hm bt_sorted (pa_cons (pe_bm0 PySem.F.plainAttrs_dict PySem.F.slot_dict_items PySem.F.type_dict_items mt_itemsK ho hbase hline) pa_nil he) (by decide) (by decide) he hpl) fun σ H Q q => by
    obtain ⟨as, ρ, os, H0, d, os', n, hx, k⟩ := q
    unfold fSortItems at hx
    cases h1 : xr ρ os with
    | none => rw [h1] at hx; cases hx
    | some p1 =>
      obtain ⟨s, os1⟩ := p1
      rw [h1, Option.bind_some] at hx
      simp only at hx
      cases h2 : obAt os1 s with
      | none => rw [h2] at hx; cases hx
      | some q2 =>
        obtain ⟨j, ob⟩ := q2
        rw [h2, Option.bind_some] at hx
        cases ob with
        | k ps =>
          simp only at hx
          cases h3 : pairsOf ps with
          | none => rw [h3] at hx; cases hx
          | some ns =>
            rw [h3] at hx
            cases hx
            obtain ⟨rfl, h4⟩ := obAt_some h2
            refine ⟨as, ρ, os, H0, _, _, n, h1, fun v H1 H1' n1 g1 r1 => ?_⟩
            obtain ⟨ad, e1, rfl⟩ := r1
            obtain ⟨q1, ho', q2, q3⟩ := n1.ow.at_ j ad _ e1 h4
            obtain ⟨kvs, rfl, r⟩ := q3.k_of
            have ek := pairs_rel r h3
            subst ek
            refine ⟨.inr (.inr (.inl ⟨rfl, .inl ⟨_, q2⟩⟩)), ad, _, rfl, rfl, q2, fun z hz => ?_⟩
            have hza : ad ≠ z := ne_of_none q2 hz
            refine ⟨z, ad, ns, rfl, upd_same, by rw [upd_ne hza]; exact q2, fun H' l zs kp hp hs hl hl2 ht => ?_⟩
            have em : zs.map (·.2) = sortP ns := sortP_uniq (hp.trans (sortP_perm ns).symm) hs (sortP_sorted ns)
            have kp1 : ∀ b o, H1' b = some o → H' b = some o := fun b o e => kp b o (by rw [upd_ne (ne_of_none e hz)]; exact e)
            have hnone : ∀ b, upd H1' z (itemsO z ad) b = none → H1' b = none := fun b hb => by
              by_cases y : b = z
              · rw [y, upd_same] at hb
                cases hb
              · rw [upd_ne y] at hb
                exact hb
            have hlz : l ∉ zs.map (fun (z : Addr × Int × Int) => z.1) := fun hm => by
              obtain ⟨y, hy, e⟩ := List.mem_map.mp hm
              obtain ⟨_, y2⟩ := ht y hy
              rw [e, hl2] at y2
              cases y2
            let H2 : Hp := fun b => match H1' b with
              | some _ => H1 b
              | none => if b ∈ zs.map (fun (z : Addr × Int × Int) => z.1) then H' b else none
            have e0 : Ex H1 H2 := fun b u e => by
              show (match H1' b with | some _ => H1 b | none => _) = some u
              rw [n1.sub b u e]
              exact e
            have g2 : Gr [] H1 H1' H2 H' := by
              refine ⟨e0, fun b u _ e => kp1 b u e, fun b u _ e hb => ?_, fun b hb => ?_, fun b u e => ?_⟩
              · have e : (match H1' b with | some _ => H1 b | none => if b ∈ zs.map (fun (z : Addr × Int × Int) => z.1) then H' b else none) = some u := e
                cases y : H1' b with
                | none => exact absurd y hb
                | some t => rw [y] at e; exact e
              · cases y : H1' b with
                | none => exact absurd y hb
                | some t => rw [kp1 b t y]; simp
              · have e : (match H1' b with | some _ => H1 b | none => if b ∈ zs.map (fun (z : Addr × Int × Int) => z.1) then H' b else none) = some u := e
                cases y : H1' b with
                | none =>
                  rw [y] at e
                  simp only at e
                  split at e
                  · exact e
                  · cases e
                | some t =>
                  rw [y] at e
                  exact kp1 b u (n1.sub b u e)
            have hl3 : H2 l = none := by
              show (match H1' l with | some _ => H1 l | none => if l ∈ zs.map (fun (z : Addr × Int × Int) => z.1) then H' l else none) = _
              rw [hnone l hl]
              simp only
              rw [if_neg hlz]
            have hn1 : H1' l = none := hnone l hl
            have hn0 : H l = none := by
              cases z : H l with
              | none => rfl
              | some u => exact absurd hn1 (g1.kp l (by rw [z]; simp))
            refine k l _ H2 H' hn0 (n1.grow g2) (g1.tr0 g2) hl3 (fun z => n1.ow.trk l z hn1) hl2 ?_
            rw [← em]
            refine da_tups zs fun y hy => ?_
            obtain ⟨y1, y2⟩ := ht y hy
            show (match H1' y.1 with | some _ => H1 y.1 | none => if y.1 ∈ zs.map (fun (z : Addr × Int × Int) => z.1) then H' y.1 else none) = _
            rw [hnone _ y1]
            simp only
            rw [if_pos (List.mem_map.mpr ⟨y, hy, rfl⟩)]
            exact y2
        | _ => cases hx
end
end DL

set_option Elab.async false
set_option linter.all false
set_option maxRecDepth 100000
set_option maxHeartbeats 4000000
namespace DL
open PySem PySem.Spec PyProof.Rows L2 L2.DX Evl
section
variable {X : Cx} {W : WX} {fr : Option Nat} {st : Stmt} {ra : XA} {e : Expr} {es tgs : List Expr} {pos p p1 p2 : Pos} {xr xs : XS} {x : Str} {k : Nat}
/-- an argument that may be one's own -/
def xaV (xr : XS) (r : XA) : XA := fun ρ os => (xr ρ os).bind fun p => (r ρ p.2).map fun q => (p.1 :: q.1, q.2)
theorem pxa_v (ha : PXV X e xr) (hr : PXA X es ra) (hs : starEach (e :: es) X.env = (false, eval e X.env) :: starEach es X.env := by rfl) : PXA X (e :: es) (xaV xr ra) := pa_imp (pa_cons ha hr hs) fun σ H Q q => by
  obtain ⟨as, ρ, os, H0, d, os', n, hx, k⟩ := q
  unfold xaV at hx
  cases h1 : xr ρ os with
  | none => rw [h1] at hx; cases hx
  | some p =>
    obtain ⟨s, os1⟩ := p
    rw [h1, Option.bind_some] at hx
    cases h2 : ra ρ os1 with
    | none => simp only [h2] at hx; cases hx
    | some q =>
      obtain ⟨ss, os2⟩ := q
      simp only [h2] at hx
      cases hx
      exact ⟨as, ρ, os, H0, s, os1, n, h1, fun v H1 H1' n1 g1 r1 => ⟨as, ρ, os1, H1, ss, _, n1, h2, fun vs H2 H2' n2 g2 r2 => k (v :: vs) H2 H2' n2 (g1.tr g2) ⟨r1.mono g2.e0, r2⟩⟩⟩
theorem xaV_len {m : Nat} (hr : ∀ ρ os ss os', ra ρ os = some (ss, os') → ss.length = m) (ρ : List Sl) (os : Os) (ss : List Sl) (os' : Os) (h : xaV xr ra ρ os = some (ss, os')) : ss.length = m + 1 := by
  unfold xaV at h
  cases h1 : xr ρ os with
  | none => rw [h1] at h; cases h
  | some p =>
    rw [h1, Option.bind_some] at h
    cases h2 : ra ρ p.2 with
    | none => rw [h2] at h; cases h
    | some q =>
      rw [h2] at h
      cases h
      rw [List.length_cons, hr _ _ _ _ h2]
theorem xaS_len {m : Nat} (hr : ∀ ρ os ss os', ra ρ os = some (ss, os') → ss.length = m) (ρ : List Sl) (os : Os) (ss : List Sl) (os' : Os) (h : xaS xs ra ρ os = some (ss, os')) : ss.length = m + 1 := xaV_len hr ρ os ss os' h
/-- f(..) where an argument is a new object; it gives a new list -/
def fFnG (M : XMF) (ra : XA) : XI := fun ρ os => (ra ρ os).bind fun p => (M p.1 p.2).bind fun q => (cutW os.length q.2).map fun w => (q.1, w)
theorem pxf_fnG {m : Nat} {g : Addr} {fd : FuncData} {ps : List Str} {M : XMF} (F : FnG X.prog X.w X.K X.mg X.base k g fd m ps (spF X.K m M)) (hr : Rm k X.A) (hg : Gl X x) (hm : X.mg x = some (.ref g)) (hk : PySem.W.keepIn X.K (.ref g) = true) (hb : Binds X.K fd ps []) (ha : PXAS X (e :: es) ra)
    (hl : ∀ ρ os ss os', ra ρ os = some (ss, os') → ss.length = m) (hdb : (x == ("__debug__" : Str)) = false := by decide) (he : starEach (e :: es) X.env = (false, eval e X.env) :: starEach es X.env := by rfl) (hpl : (backTo pos (starEach es X.env)).any (·.1) = false := by rfl) :
    PXF X (.Call (.Name x p) (e :: es) [] pos) (fFnG M ra) := pe_imp (pe_callG F hr hg hm hk hb ha hdb he hpl) fun σ H Q q => by
  obtain ⟨as, ρ, os, H0, d, os', n0, hx, k⟩ := q
  unfold fFnG at hx
  cases h1 : ra ρ os with
  | none => rw [h1] at hx; cases hx
  | some p =>
    obtain ⟨ss, os1⟩ := p
    rw [h1, Option.bind_some] at hx
    simp only at hx
    cases h2 : M ss os1 with
    | none => rw [h2] at hx; cases hx
    | some q =>
      obtain ⟨z, os2⟩ := q
      rw [h2, Option.bind_some] at hx
      simp only at hx
      cases h3 : cutW os.length os2 with
      | none => rw [h3] at hx; cases hx
      | some w =>
        rw [h3] at hx
        cases hx
        refine ⟨as, ρ, os, H0, ss, os1, n0, h1, fun vs as1 H1 H1' e1 n1 g1 r1 => ⟨by rw [args_len r1]; exact hl _ _ _ _ h1, as1, ss, os1, H1, _, os2, n1.sub, n1.ow, r1, h2, fun v ws H2 H2' hp w2 g2 r2 r3 r4 => ?_⟩⟩
        have gg : Gr as H0 H H2 H2' := g1.trans g2 e1.mem
        have w4 := w2.cut (as := as) (H := H) e1 (by rw [n0.ow.len]; exact h3)
        refine k v ws H2 H2' ?_ (n0.call w4 gg) gg r2 (fun z => ?_) r3 r4
        · cases z : H v with
          | none => rfl
          | some u => exact absurd hp (g1.kp v (by rw [z]; simp))
        · obtain ⟨bs, rfl, _⟩ := e1
          exact n1.ow.trk v (List.mem_append_left _ z) hp
theorem ps_lcFL {own : List (Str × Nat)} {xg : XGL} {js : List Nat} {tt : XT} {te : XE} {g : TG} (hj : ∀ j ∈ js, j ∈ own.map (·.2))
    (h : PS X st (tAsg (tLc (iList X.K (teR X.K xr)) (gLO X.K xg js) (ttO X.K tt) (teO X.K te) (own.map (·.2))) g)) : PS X st (tAsg (teF X.K (lcL xr xg tt te (own.map (·.2)))) g) := ps_impE h fun _ _ _ q => to_lcL hj q
theorem ps_lcFLS {own : List (Str × Nat)} {xg : XGL} {js : List Nat} {tt : XT} {te : XE} {g : TG} (hj : ∀ j ∈ js, j ∈ own.map (·.2))
    (h : PS X st (tAsg (tLc (iList X.K (teS X.K xs)) (gLO X.K xg js) (ttO X.K tt) (teO X.K te) (own.map (·.2))) g)) : PS X st (tAsg (teF X.K (lcLS xs xg tt te (own.map (·.2)))) g) := ps_impE h fun _ _ _ q => to_lcLS hj q
theorem Rm.u1 {k : Nat} {A : Around} (r : Rm k A) : A.units + 1 < cLine := by have := r.u65; omega
end
theorem walk_gz {ι : Type} {l : PySem.W.OpenLaw} {n k : Nat} {q : Program} {loose : List Str} {XP : (Str → Option Value) → Heap → Prop} {YP : World → Heap → Prop} {d : DefRec} {K : Params → PySem.W.Frag} {M : ι → XM} {x : Str}
    (hn : l.most = some n) (hn2 : n ≤ sizeLine) (hdf : d.params.defaults = []) (hr : Rm k callerA) (hY : ∀ (w : World) (h : Heap), YP w h → (K w.params).In h)
    (F : ∀ (w : World) (mg : Str → Option Value) (fa : Addr) (h : Heap), (K w.params).In h → h.Ns mainGlobals mg → mg d.name = some (.ref fa) →
      ∃ (z : ι) (fd : FuncData), (∀ (s : Shared) (u : Value), BindsTo s fd ⟨[u], []⟩ [(x, u)]) ∧ ∀ base : Heap, (K w.params).In base → base.Ns mainGlobals mg → FnG l.prog w (K w.params) mg base k fa fd 1 [x] (spM (K w.params) 1 (M z)))
    (hM : ∀ (z : ι) (ns : List Int), ns.length ≤ n → ∃ w', M z [.d (.list (ns.map PyData.int))] [] = some (.bool true, w')) :
    PySem.W.WalkO q loose XP YP l.row.toRowW d [] (fun f vs => PySem.call f vs) := by
  refine Att.attach_call hn hdf fun w s0 s1 mg mb fa o pm cd doc a vs ns G Y ho hd hcd hmg hobj hints hlen hg => ?_
  have KX := hY w _ Y
  obtain ⟨z, fd, hb, hF⟩ := F w mg fa _ KX G.T.g hmg
  exact end_g KX G.T.g G.T.b G.T.builtins G.T.nolimit hg hobj hints (Nat.le_trans hlen hn2) hr hF hb (hM z ns hlen)
end DL

set_option Elab.async false
set_option linter.all false
set_option maxRecDepth 100000
set_option maxHeartbeats 4000000
namespace DL
open PySem PySem.Spec PyProof.Rows L2 L2.DX Evl
section
variable {X : Cx} {W : WX} {fr : Option Nat} {st : Stmt} {ra : XA} {a b e o : Expr} {es tgs : List Expr} {pos p p1 p2 apos cpos : Pos} {xa xb xe xk : XE} {xr xs : XS} {xi : XI} {x : Str} {k : Nat}
/-! texts -/
/-- s[lo:hi] of a text -/
def xSlS (xe : XE) (lo hi : XO) : XE := fun ρ os => (xe ρ os).bind fun p => (lo ρ p.2).bind fun l => (hi ρ l.2).bind fun u => match p.1 with
  | .str z => if z.length ≤ sizeLine then some (.str (cutS z l.1 u.1), u.2) else none
  | _ => none
theorem px_sls {lo hi : Option Expr} {xl xh : XO} (he : PX X e xe) (hl : PXO X lo xl) (hu : PXO X hi xh) : PX X (.Subscript e (.Slice lo hi none p2) pos) (xSlS xe xl xh) := pe_imp (pe_slice sl_str he hl hu) fun σ H Q q => by
  obtain ⟨as, ρ, os, H0, d, os', n, hx, k⟩ := q
  unfold xSlS at hx
  cases h1 : xe ρ os with
  | none => rw [h1] at hx; cases hx
  | some p =>
    obtain ⟨d1, os1⟩ := p
    rw [h1, Option.bind_some] at hx
    cases h2 : xl ρ os1 with
    | none => simp only [h2] at hx; cases hx
    | some l =>
      simp only [h2, Option.bind_some] at hx
      cases h3 : xh ρ l.2 with
      | none => rw [h3] at hx; cases hx
      | some u =>
        rw [h3, Option.bind_some] at hx
        cases d1 with
        | str z =>
          simp only at hx
          split at hx
          · rename_i hz
            cases hx
            refine ⟨as, ρ, os, H0, _, os1, n, h1, fun v H0' H' n1 g1 r1 => ⟨as, ρ, os1, H0', l.1, l.2, n1, h2, fun H2' H2 n2 g2 => ⟨as, ρ, l.2, H2', u.1, u.2, n2, h3, fun H3' H3 n3 g3 => ?_⟩⟩⟩
            cases r1
            exact ⟨z, rfl, hz, k _ H3' H3 n3 ((g1.tr g2).tr g3) (.str _)⟩
          · cases hx
        | _ => cases hx
/-- s.join(e) -/
def xJoin (xa xb : XE) : XE := fun ρ os => (xa ρ os).bind fun p => (xb ρ p.2).bind fun q => match p.1, q.1 with
  | .str s, .list c => (strsOf c).bind fun ys => if (ys.map (·.length)).sum + ys.length * s.length ≤ 16777216 then some (.str (Txt.join s ys), q.2) else none
  | _, _ => none
theorem px_join (ho : PX X o xa) (he : PX X e xb) (hs : starEach [e] X.env = [(false, eval e X.env)] := by rfl) (hbase : attributeBase o "join" X.env (eval o X.env) = eval o X.env := by rfl) (hline : (apos.endLine == pos.line) = true := by rfl) :
    PX X (.Call (.Attribute o "join" apos) [e] [] pos) (xJoin xa xb) := pe_imp (pe_join ho he hs hbase hline) fun σ H Q q => by
  obtain ⟨as, ρ, os, H0, d, os', n, hx, k⟩ := q
  unfold xJoin at hx
  cases h1 : xa ρ os with
  | none => rw [h1] at hx; cases hx
  | some p =>
    obtain ⟨d1, os1⟩ := p
    rw [h1, Option.bind_some] at hx
    cases h2 : xb ρ os1 with
    | none => simp only [h2] at hx; cases hx
    | some q =>
      obtain ⟨d2, os2⟩ := q
      simp only [h2, Option.bind_some] at hx
      split at hx
      · rename_i s c
        cases h3 : strsOf c with
        | none => rw [h3] at hx; cases hx
        | some ys =>
          rw [h3, Option.bind_some] at hx
          split at hx
          · rename_i hz
            cases hx
            have e1 := strsOf_eq h3
            subst e1
            refine ⟨as, ρ, os, H0, _, os1, n, h1, fun v H0' H' n1 g1 r1 => ?_⟩
            cases r1
            refine ⟨⟨s, rfl⟩, as, ρ, os1, H0', _, _, n1, h2, fun w H2' H2 n2 g2 r2 => ?_⟩
            cases r2 with
            | lst h4 h5 =>
              have e2 := daS h5
              subst e2
              exact ⟨s, _, ys, rfl, rfl, .inl (ex_l n2.sub h4), hz, k _ H2' H2 n2 (g1.tr g2) (.str _)⟩
          · cases hx
      · cases hx
/-- s.count(e) -/
def cntS : PyData → PyData → Option PyData
  | .str s, .str c => some (.int (Txt.count s c))
  | _, _ => none
theorem px_count (ho : PX X o xa) (he : PX X e xb) (hs : starEach [e] X.env = [(false, eval e X.env)] := by rfl) (hbase : attributeBase o "count" X.env (eval o X.env) = eval o X.env := by rfl) (hline : (apos.endLine == pos.line) = true := by rfl) :
    PX X (.Call (.Attribute o "count" apos) [e] [] pos) (xOp cntS xa xb) := pe_imp (pe_m1 PySem.F.slot_str_count PySem.F.type_str_count mt_count ho he hs hbase hline) fun σ H Q q => by
  obtain ⟨as, ρ, os, H0, d, os', n, hx, k⟩ := q
  obtain ⟨d1, os1, d2, h1, h2, h3⟩ := xOp_some hx
  unfold cntS at h3
  split at h3
  · rename_i s c
    cases h3
    refine ⟨as, ρ, os, H0, _, os1, n, h1, fun v H0' H' n1 g1 r1 => ?_⟩
    cases r1
    refine ⟨⟨s, rfl⟩, as, ρ, os1, H0', _, _, n1, h2, fun w H2' H2 n2 g2 r2 => ?_⟩
    cases r2
    exact ⟨s, c, rfl, rfl, k _ H2' H2 n2 (g1.tr g2) (.int _)⟩
  · cases h3
/-! a dict of the module -/
def xKd (tbl : List (Str × PyData)) (xk : XE) : XE := fun ρ os => (xk ρ os).bind fun p => match p.1 with
  | .str z => (tbl.lookup z).map fun d => (d, p.2)
  | _ => none
def KdOk (K : PySem.W.Frag) (w : World) (a : Addr) (tbl : List (Str × PyData)) : Prop := ∀ z d, tbl.lookup z = some d → ∃ v, KDct K w a z v ∧ ∀ H, Da K H v d
theorem kd_nil {K : PySem.W.Frag} {w : World} {a : Addr} : KdOk K w a [] := fun z d h => by cases h
theorem kd_cons {K : PySem.W.Frag} {w : World} {a : Addr} {es : Array DictEntry} {n : Nat} {z : Str} {u : Value} {v : V} {d : PyData} {tbl : List (Str × PyData)} (hl : K.lookup a = some ⟨.type "dict", none, .dict es n, #[]⟩) (hk : PySem.W.KeysLit w.params es.toList) (hu : PySem.W.nsIn K a z = some (some u)) (r : RelV v u) (hd : ∀ H, Da K H v d) (t : KdOk K w a tbl) : KdOk K w a ((z, d) :: tbl) := fun y c h => by
  rw [List.lookup_cons] at h
  by_cases e : y = z
  · subst e
    simp at h
    subst h
    exact ⟨v, ⟨es, n, u, hl, hk, hu, r⟩, hd⟩
  · have : (y == z) = false := by simpa using e
    rw [this] at h
    exact t y c h
theorem px_kd {x : Str} {p : Addr} {tbl : List (Str × PyData)} {p1 : Pos} (hg : Gl X x) (hm : X.mg x = some (.ref p)) (ht : KdOk X.K X.w p tbl) (hk : PX X b xk) (hs : PlainIx b) (hdb : (x == ("__debug__" : Str)) = false := by decide) : PX X (.Subscript (.Name x p1) b pos) (xKd tbl xk) :=
  pe_imp (pe_ix ix_kdict (pe_glob hg hm (v := .ref p) rfl hdb) hk hs) fun σ H Q q => by
    obtain ⟨as, ρ, os, H0, d, os', n, hx, k⟩ := q
    unfold xKd at hx
    cases h1 : xk ρ os with
    | none => rw [h1] at hx; cases hx
    | some p1 =>
      obtain ⟨d1, os1⟩ := p1
      rw [h1, Option.bind_some] at hx
      cases d1 with
      | str z =>
        simp only at hx
        cases h2 : tbl.lookup z with
        | none => rw [h2] at hx; cases hx
        | some c =>
          rw [h2] at hx
          cases hx
          obtain ⟨v, h3, h4⟩ := ht z _ h2
          refine ⟨as, ρ, os, H0, _, _, n, h1, fun u H0' H' n1 g1 r1 => ?_⟩
          cases r1
          exact ⟨p, z, v, rfl, rfl, h3, k v H0' H' n1 g1 (h4 _)⟩
      | _ => cases hx
/-! x.extend(e) -/
def sExt (i : Nat) (xi : XI) : SE := fun ρ os => (ownAt ρ os i).bind fun _ => (xi ρ os).bind fun p => (ownAt ρ p.2 i).bind fun q => if q.2.length + p.1.length ≤ sizeLine then some (.nx ρ (p.2.set q.1 (some (.l (q.2 ++ p.1))))) else none
theorem psx_ext {i : Nat} (h : PS X (.Expr e pos) (tDrop (tBM X.K "list" rExtend (tVar i) (tCons (teF X.K xi) tNil)))) : PSX X W fr (.Expr e pos) (sExt i xi) := ps_imp h fun D σ H q => by
  obtain ⟨as0, Hs, as, ρ, os, H0, out, bs0, n, hx, k⟩ := q
  unfold sExt at hx
  cases h0 : ownAt ρ os i with
  | none => rw [h0] at hx; cases hx
  | some q0 =>
    obtain ⟨j0, ds0⟩ := q0
    rw [h0, Option.bind_some] at hx
    cases h1 : xi ρ os with
    | none => rw [h1] at hx; cases hx
    | some p =>
      obtain ⟨ds, os1⟩ := p
      rw [h1, Option.bind_some] at hx
      simp only at hx
      cases h2 : ownAt ρ os1 i with
      | none => rw [h2] at hx; cases hx
      | some q1 =>
        obtain ⟨j, ds1⟩ := q1
        rw [h2, Option.bind_some] at hx
        simp only at hx
        split at hx
        · rename_i hz
          cases hx
          obtain ⟨h3, h4⟩ := ownAt_some h2
          obtain ⟨h5, h6⟩ := ownAt_some h0
          rw [h5] at h3
          cases h3
          obtain ⟨adr, e1, e2⟩ := n.ref i j0 h5
          have hm : adr ∈ as := List.mem_of_getElem? e1
          obtain ⟨_, vs0, q0, _⟩ := n.ow.l j0 adr ds0 e1 h6
          refine ⟨_, e2, .inl ⟨rfl, vs0, SqL.of q0⟩, as, ρ, os, H0, ds, os1, n, h1, fun p vs H0' H' hp n1 g1 h7 h8 h9 r1 => ?_⟩
          obtain ⟨q1, ws, q2, q3⟩ := n1.ow.l j0 adr ds1 e1 h4
          refine ⟨adr, p, ws, vs, rfl, rfl, q2, h9, by rw [q3.len, r1.len]; exact hz, ?_⟩
          exact k as σ H0' _ Exs.refl (n1.mut e1 h4 (q3.app r1)) (g1.tr (Gr.mut n1.sub hm q1 (n1.ow.trk _ hm)))
        · cases hx
/-! a, b, .. = a list -/
def gLs (n : Nat) (xs : List PyData → List Sl → Option (List Sl)) : XG := fun d ρ => match d with
  | .list ds => if ds.length = n then xs ds ρ else none
  | _ => none
theorem pxg_lst {kk : Nat} {xs : List PyData → List Sl → Option (List Sl)} {js : List Nat} {n : Nat} (hc : X.calm = true) (h : PXGs X es xs js) (hn : (assignEach es X.env).length = n := by rfl) (hst : (assignEach es X.env).findIdx? (·.1) = none := by rfl) :
    PXG X (.Tuple es kk pos) (gLs n xs) js := pg_imp (pg_lst hc h hn hst) fun v σ H Q q => by
  obtain ⟨as, ρ, os, H0, d, ρ', en, r, hx, k⟩ := q
  cases r with
  | @lst a vs ds r1 r2 =>
    simp only [gLs] at hx
    split at hx
    · rename_i hl
      exact ⟨a, vs, rfl, ex_l en.sub r1, by rw [r2.len]; exact hl, as, ρ, os, H0, ds, ρ', en, r2, hx, k⟩
    · cases hx
  | _ => cases hx
/-! a range that is kept -/
def sRng (i : Nat) (ra : XA) : SE := fun ρ os => (ra ρ os).bind fun p => match p.1 with
  | [.d (.int lo), .d (.int hi)] => some (.nx (ρ.set i (.o p.2.length)) (p.2 ++ [some (.g lo hi)]))
  | _ => none
def iRngV (xr : XS) : XI := fun ρ os => (xr ρ os).bind fun p => (obAt p.2 p.1).bind fun q => match q.2 with
  | .g lo hi => if -(2 ^ 62) ≤ lo ∧ lo < 2 ^ 62 ∧ -(2 ^ 62) ≤ hi ∧ hi < 2 ^ 62 then some (rangeD lo (hi - lo).toNat, p.2) else none
  | _ => none
theorem psx_rng0 {i : Nat} (h : PS X st (tAsg (fun σ H Q => taO X.K ra σ H fun vs H1 => ∃ lo hi, vs = [V.int lo, V.int hi] ∧ ∀ p, H1 p = none → Q (.ref p) (upd H1 p (.rng lo hi))) (gName i))) : PSX X W fr st (sRng i ra) := ps_imp h fun D σ H q => by
  obtain ⟨as0, Hs, as, ρ, os, H0, out, bs0, n, hx, k⟩ := q
  unfold sRng at hx
  cases h1 : ra ρ os with
  | none => rw [h1] at hx; cases hx
  | some p =>
    obtain ⟨ss, os1⟩ := p
    rw [h1, Option.bind_some] at hx
    simp only at hx
    split at hx
    · rename_i lo hi
      cases hx
      refine ⟨as, ρ, os, H0, _, os1, n, h1, fun vs H0' H' n1 g1 r1 => ?_⟩
      match vs, r1 with
      | [v, w], r1 =>
        have q1 : Da X.K H0' v (.int lo) := r1.1
        have q2 : Da X.K H0' w (.int hi) := r1.2.1
        cases q1
        cases q2
        refine ⟨lo, hi, rfl, fun p hp => ?_⟩
        have h0 : H0' p = none := fresh_back n1.sub hp
        have nD : p ∉ as := fun z => n1.ow.trk p z hp
        have hn : H p = none := by
          cases z : H p with
          | none => rfl
          | some u => exact absurd hp (g1.kp p (by rw [z]; simp))
        have n2 := n1.away (H' := upd H' p (.rng lo hi)) nD (fun a h => upd_ne h) (by rw [upd_same]; simp) h0
        exact k (as ++ [p]) _ H0' _ ⟨[p], rfl, by simpa using hn⟩ (n2.own (ob := .g lo hi) i h0 nD upd_same ⟨rfl, rfl⟩) (gr_upd g1 hn h0)
    · cases hx
theorem psx_rng {i : Nat} {y : Str} {pos' : Pos} (hg : Gl X "range") (hm : X.mg "range" = none) (hN : X.N.Nodup) (hi : X.N[i]? = some y) (hx : Loc X.env.scope y) (ha : PXA X [a, b] ra) (hs : swapsWith (.Call (.Name "range" p1) [a, b] [] p) (some (.Name y pos')) pos.line X.env = pure false := by rfl)
    (he : starEach [a, b] X.env = (false, eval a X.env) :: starEach [b] X.env := by rfl) (hpl : (backTo p (starEach [b] X.env)).any (·.1) = false := by rfl) (hf : X.fn y = true ∨ X.env.scope.names.lookup y = some .local := by first | exact .inl rfl | exact .inr rfl | assumption) :
    PSX X W fr (.Assign [.Name y pos'] (.Call (.Name "range" p1) [a, b] [] p) pos) (sRng i ra) :=
  psx_rng0 (ps_imp (ps_set hN hi hx (pe_callTy cr_range2 hg hm (by decide +kernel) ha (by decide) (by decide) he hpl) hs hf) fun D σ H q => q)
theorem pi_rngV {tg l : Expr} {tl : TE} (hl : PE X l tl) : PI X tg l (fun σ H R => tl σ H fun x H1 => ∃ q lo hi, x = .ref q ∧ H1 q = some (.rng lo hi) ∧ (-(2 ^ 62) ≤ lo ∧ lo < 2 ^ 62 ∧ -(2 ^ 62) ≤ hi ∧ hi < 2 ^ 62) ∧ R (Itr lo (hi - lo).toNat) H1) := by
  refine ⟨fun pins s σ H R I h => thn (hl.run pins s σ H _ I h) fun v s1 ⟨x, H1, I1, r1, q1⟩ => ?_⟩
  obtain ⟨q, lo, hi, rfl, hq, ⟨z1, z2, z3, z4⟩, k⟩ := q1
  cases r1
  obtain ⟨t, u, v, e⟩ := (show ObjOk X.prog X.w H1 s1.heap q (.rng lo hi) from I1.hok _ _ hq)
  refine wpAny_pyIter_range (show IsRange s1.heap q lo hi 1 t u v from e) (small_one z1 z2 z3 z4) ?_
  refine ⟨s1.heap.objs.size, [s1.heap.objs.size], _, _, H1, rfl, I1.kept (t' := s1.toks) fun b o e => Heap.get?_push_of_some _ e, turn_range _ lo (hi - lo).toNat, ?_, fun b hb => ?_, k⟩
  · have e1 : lo + ((0 : Nat) : Int) * 1 = lo := by simp
    have e2 : (((hi - lo).toNat : Nat) : Int) - ((0 : Nat) : Int) = Builtin.Range.rangeSize lo hi 1 := by rw [rangeSize_one]; split <;> omega
    show IsRangeIter _ _ (lo + ((0 : Nat) : Int) * 1) ((((hi - lo).toNat : Nat) : Int) - ((0 : Nat) : Int)) 1
    rw [e1, e2]
    exact Heap.get?_push_size _ rfl
  · have e : b = s1.heap.objs.size := by simpa using hb
    subst e
    exact I1.fpOk (Nat.le_refl _) (I1.hok.fresh (Nat.le_refl _))
theorem pxi_rngV {tg l : Expr} (hl : PXV X l xr) : PXI X tg l (iRngV xr) := pi_imp (pi_rngV hl) fun σ H R q => by
  obtain ⟨as, ρ, os, H0, items, os', n, hx, k⟩ := q
  unfold iRngV at hx
  cases h1 : xr ρ os with
  | none => rw [h1] at hx; cases hx
  | some p =>
    obtain ⟨s, os1⟩ := p
    rw [h1, Option.bind_some] at hx
    cases h2 : obAt os1 s with
    | none => simp only [h2] at hx; cases hx
    | some q =>
      obtain ⟨j, ob⟩ := q
      simp only [h2, Option.bind_some] at hx
      cases ob with
      | g lo hi =>
        simp only at hx
        split at hx
        · rename_i hz
          cases hx
          obtain ⟨rfl, h4⟩ := obAt_some h2
          refine ⟨as, ρ, os, H0, _, _, n, h1, fun v H0' H' n1 g1 r1 => ?_⟩
          obtain ⟨ad, e1, rfl⟩ := r1
          obtain ⟨q1, ho, q2, q3⟩ := n1.ow.at_ j ad _ e1 h4
          obtain rfl := q3.g_of
          exact ⟨ad, lo, hi, rfl, q2, hz, k _ H0' H' n1 g1 walkD_range⟩
        · cases hx
      | _ => cases hx
/-! {k: v, ..}[e], k texts -/
def xDisp : List (Str × XE) → List Sl → Os → Option (List (Str × PyData) × Os)
  | [], _, os => some ([], os)
  | (z, x) :: r, ρ, os => (x ρ os).bind fun p => (xDisp r ρ p.2).map fun q => ((z, p.1) :: q.1, q.2)
def mergeP (l : List (Str × PyData)) : List (Key × PyData) := l.foldl (fun acc kv => putP acc (.inr kv.1) kv.2) []
def xPick (ps : List (Str × XE)) (xk : XE) : XE := fun ρ os => (xDisp ps ρ os).bind fun q => (xk ρ q.2).bind fun r => match r.1 with
  | .str z => (valP (mergeP q.1) (.inr z)).map fun d => (d, r.2)
  | _ => none
def trsOf (K : PySem.W.Frag) : List (Str × XE) → List (TE × TE)
  | [] => []
  | (z, x) :: r => (tC (.str z), teO K x) :: trsOf K r
theorem ppx_nil : PPs X pos [] [] (trsOf X.K []) := pps_nil
theorem ppx_cons {z : Str} {j : Nat} {v : Expr} {ks : List (Option Expr)} {vs : List Expr} {ps : List (Str × XE)} (hv : PX X v xa) (hr : PPs X pos ks vs (trsOf X.K ps)) : PPs X pos (some (.Constant (.str z) j p1) :: ks) (v :: vs) (trsOf X.K ((z, xa) :: ps)) := pps_cons pe_str hv hr
/-- values for the texts -/
def PairsOk (K : PySem.W.Frag) (H0 : Hp) : List (V × V) → List (Str × PyData) → Prop
  | [], [] => True
  | p :: r, q :: t => p.1 = .str q.1 ∧ Da K H0 p.2 q.2 ∧ PairsOk K H0 r t
  | _, _ => False
theorem PairsOk.len {K : PySem.W.Frag} {H0 : Hp} : ∀ {ps : List (V × V)} {l : List (Str × PyData)}, PairsOk K H0 ps l → ps.length = l.length
  | [], [], _ => rfl
  | _ :: _, _ :: _, h => by rw [List.length_cons, List.length_cons, PairsOk.len h.2.2]
  | [], _ :: _, h => h.elim
  | _ :: _, [], h => h.elim
theorem to_pairs {K : PySem.W.Frag} {as : List Addr} {ρ : List Sl} {σ : L2.St} : ∀ {ps : List (Str × XE)} {os os' : Os} {H0 H : Hp} {l : List (Str × PyData)} {Q : List (V × V) → Hp → Prop}, En K as ρ os σ H0 H → xDisp ps ρ os = some (l, os') →
    (∀ vs H0' H', En K as ρ os' σ H0' H' → Gr as H0 H H0' H' → PairsOk K H0' vs l → Q vs H') → tPairs (trsOf K ps) σ H Q
  | [], os, os', H0, H, l, Q, n, h, k => by
    cases h
    exact k [] H0 H n (Gr.refl n.sub) True.intro
  | (z, x) :: r, os, os', H0, H, l, Q, n, h, k => by
    unfold xDisp at h
    cases h1 : x ρ os with
    | none => rw [h1] at h; cases h
    | some p =>
      obtain ⟨d, os1⟩ := p
      rw [h1, Option.bind_some] at h
      cases h2 : xDisp r ρ os1 with
      | none => simp only [h2] at h; cases h
      | some q =>
        obtain ⟨l2, os2⟩ := q
        simp only [h2] at h
        cases h
        refine ⟨as, ρ, os, H0, d, os1, n, h1, fun v H0' H' n1 g1 r1 => ?_⟩
        exact to_pairs n1 h2 fun vs H2' H2 n2 g2 r2 => k _ H2' H2 n2 (g1.tr g2) ⟨rfl, Da.mono g2.e0 _ _ r1, r2⟩
theorem keys_of_pairs {K : PySem.W.Frag} {H0 : Hp} : ∀ {ps : List (V × V)} {l : List (Str × PyData)}, PairsOk K H0 ps l → ∃ kvs : List (Key × V), ps = kvs.map (fun kv => (kV kv.1, kv.2)) ∧ PsOk K H0 kvs (l.map fun q => ((.inr q.1 : Key), q.2)) ∧ kvs.length = l.length
  | [], [], _ => ⟨[], rfl, True.intro, rfl⟩
  | p :: r, q :: t, h => by
    obtain ⟨kvs, e1, e2, e3⟩ := keys_of_pairs h.2.2
    refine ⟨(.inr q.1, p.2) :: kvs, ?_, ⟨rfl, h.2.1, e2⟩, by simp [e3]⟩
    obtain ⟨p1, p2⟩ := p
    have : p1 = .str q.1 := h.1
    subst this
    rw [e1]
    rfl
  | [], _ :: _, h => h.elim
  | _ :: _, [], h => h.elim
theorem merge_rel {K : PySem.W.Frag} {H0 : Hp} : ∀ {l : List (Str × PyData)} {kvs acc : List (Key × V)} {ps : List (Key × PyData)}, PsOk K H0 kvs (l.map fun q => ((.inr q.1 : Key), q.2)) → PsOk K H0 acc ps → PsOk K H0 (mergeK acc kvs) (l.foldl (fun acc kv => putP acc (.inr kv.1) kv.2) ps)
  | [], [], _, _, _, h => h
  | q :: l, p :: kvs, acc, ps, h, g => by
    obtain ⟨p1, p2⟩ := p
    obtain ⟨e, r, t⟩ := h
    have e' : p1 = .inr q.1 := e
    subst e'
    exact merge_rel (l := l) (kvs := kvs) t (put_rel r g)
  | [], _ :: _, _, _, h, _ => h.elim
  | _ :: _, [], _, _, h, _ => h.elim
theorem px_pick {keys : List (Option Expr)} {values : List Expr} {ps : List (Str × XE)} {b : Expr} (hu : X.A.units + 1 < cLine) (h : PPs X p1 keys values (trsOf X.K ps)) (hb : PX X b xk) (hall : keys.all (·.isSome) = true) (hl : keys.length = values.length) (h0 : keys ≠ []) (h15 : ps.length ≤ 15) (h15' : keys.length ≤ 15) (hs : NoSl b := by exact fun _ _ => rfl) :
    PX X (.Subscript (.Dict keys values p1) b pos) (xPick ps xk) := pe_imp (pe_dget hu (pe_disp h hall hl h0 h15') hb hs) fun σ H Q q => by
  obtain ⟨as, ρ, os, H0, d, os', n, hx, k⟩ := q
  unfold xPick at hx
  cases h1 : xDisp ps ρ os with
  | none => rw [h1] at hx; cases hx
  | some p =>
    obtain ⟨l, os1⟩ := p
    rw [h1, Option.bind_some] at hx
    cases h2 : xk ρ os1 with
    | none => simp only [h2] at hx; cases hx
    | some r =>
      obtain ⟨y, os2⟩ := r
      simp only [h2, Option.bind_some] at hx
      cases y with
      | str z =>
        simp only at hx
        cases h3 : valP (mergeP l) (.inr z) with
        | none => rw [h3] at hx; cases hx
        | some c =>
          rw [h3] at hx
          cases hx
          intro D hD
          have nD : D ∉ as := fun z => n.ow.trk D z hD
          have h0D : H0 D = none := fresh_back n.sub hD
          have n1 := n.away (H' := upd H D (.dK [])) nD (fun a h => upd_ne h) (by rw [upd_same]; simp) h0D
          have g1 : Gr as H0 H H0 (upd H D (.dK [])) := gr_upd (Gr.refl n.sub) hD h0D
          refine to_pairs n1 h1 fun vs H2' H2 n2 g2 r2 => ?_
          have D2 : H2 D = some (.dK []) := g2.e1 D _ nD upd_same
          have D2' : H2' D = none := keep_none g2 nD h0D (by rw [upd_same]; simp)
          obtain ⟨kvs, e1, e2, e3⟩ := keys_of_pairs r2
          have hl2 : kvs.length ≤ 15 := by
            rw [e3]
            have : ∀ (ps : List (Str × XE)) (os os1 : Os) (l : List (Str × PyData)), xDisp ps ρ os = some (l, os1) → l.length = ps.length := fun ps => by
              induction ps with
              | nil => intro os os1 l h; cases h; rfl
              | cons a r ih =>
                intro os os1 l h
                obtain ⟨z, x⟩ := a
                unfold xDisp at h
                cases q1 : x ρ os with
                | none => rw [q1] at h; cases h
                | some p =>
                  rw [q1, Option.bind_some] at h
                  cases q2 : xDisp r ρ p.2 with
                  | none => rw [q2] at h; cases h
                  | some q =>
                    rw [q2] at h
                    cases h
                    simp [ih _ _ _ q2]
            rw [this ps os os1 l h1]
            exact h15
          refine ⟨D2, kvs, e1, hl2, ?_⟩
          have gA := g1.tr g2
          have n3 := n2.away (H' := upd H2 D (.dK (mergeK [] kvs))) nD (fun a h => upd_ne h) (by rw [upd_same]; simp) D2'
          have g3 : Gr as H0 H H2' (upd H2 D (.dK (mergeK [] kvs))) := gr_upd gA hD D2'
          refine ⟨as, ρ, os1, H2', _, _, n3, h2, fun w H4' H4 n4 g4 r4 => ?_⟩
          cases r4
          have D4 : H4 D = some (.dK (mergeK [] kvs)) := g4.e1 D _ nD upd_same
          have mr : PsOk X.K H4' (mergeK [] kvs) (mergeP l) := merge_rel (PsOk.mono g4.e0 e2) True.intro
          obtain ⟨v, v1, v2⟩ := (val_rel (k := (.inr z : Key)) mr).2 _ h3
          exact ⟨D, v, rfl, by rw [← v1]; exact DGet.k (k := (.inr z : Key)) D4, k v H4' H4 n4 (g3.tr g4) v2⟩
      | _ => cases hx
end
section
variable {P : Program} {w : World} {K : PySem.W.Frag} {mg : Str → Option Value} {base : Heap} {k n : Nat} {f : Addr} {fd : FuncData} {ps : List Str}
theorem FnG.never_M (h : ps.length = n := by rfl) : FnG P w K mg base k f fd n ps (spM K n fun _ _ => none) := ⟨h, fun vs H Q E z => z.1, fun A outer s H args us vs Q E hr e0 hb r z => by
  obtain ⟨_, _, _, _, _, _, _, _, _, _, z, _⟩ := z
  cases z⟩
theorem FnG.never_F (h : ps.length = n := by rfl) : FnG P w K mg base k f fd n ps (spF K n fun _ _ => none) := ⟨h, fun vs H Q E z => z.1, fun A outer s H args us vs Q E hr e0 hb r z => by
  obtain ⟨_, _, _, _, _, _, _, _, _, _, z, _⟩ := z
  cases z⟩
theorem FnG.never_S (h : ps.length = n := by rfl) : FnG P w K mg base k f fd n ps (spS K n fun _ _ => none) := ⟨h, fun vs H Q E z => z.1, fun A outer s H args us vs Q E hr e0 hb r z => by
  obtain ⟨_, _, _, _, _, _, _, _, _, _, z, _⟩ := z
  cases z⟩
end
section
variable {X : Cx} {pos p : Pos} {x : Str} {k : Nat} {f : Addr} {fd : FuncData} {ps : List Str} {M : XM} {MF : XMF}
theorem px_fn0 (F : FnG X.prog X.w X.K X.mg X.base k f fd 0 ps (spM X.K 0 M)) (hr : Rm k X.A) (hg : Gl X x) (hm : X.mg x = some (.ref f)) (hk : PySem.W.keepIn X.K (.ref f) = true) (hb : Binds X.K fd ps []) (hdb : (x == ("__debug__" : Str)) = false := by decide) :
    PX X (.Call (.Name x p) [] [] pos) (xFn M xaNil) := pe_imp (pe_callG0 F hr hg hm hk hb hdb) fun σ H Q q => by
  have := to_fn (n := 0) (fun ρ os ss os' h => xaNil_len h) q
  exact ta_nil this
theorem pxf_fn0 (F : FnG X.prog X.w X.K X.mg X.base k f fd 0 ps (spF X.K 0 MF)) (hr : Rm k X.A) (hg : Gl X x) (hm : X.mg x = some (.ref f)) (hk : PySem.W.keepIn X.K (.ref f) = true) (hb : Binds X.K fd ps []) (hdb : (x == ("__debug__" : Str)) = false := by decide) :
    PXF X (.Call (.Name x p) [] [] pos) (fFn MF xaNil) := pe_imp (pe_callG0 F hr hg hm hk hb hdb) fun σ H Q q => by
  have := to_fnf (n := 0) (fun ρ os ss os' h => xaNil_len h) q
  exact ta_nil this
end
end DL

set_option Elab.async false
set_option linter.all false
set_option maxRecDepth 100000
set_option maxHeartbeats 4000000
namespace DL
open PySem PySem.Spec PyProof.Rows L2 Evl

/-! ### what the combinators give at their arguments -/
section
variable {ρ : List Sl} {os os1 os2 : Os} {xa xb xc : XE} {ta tb : XT} {ra : XA} {a b : SE} {xi xj : XI}
def slD : Option Sl → Option PyData
  | some (.d x) => some x
  | _ => none
def slO : Option Sl → Option Nat
  | some (.o x) => some x
  | _ => none
@[simp] theorem slD_d {x : PyData} : slD (some (.d x)) = some x := id rfl
@[simp] theorem slO_o {x : Nat} : slO (some (.o x)) = some x := id rfl
@[simp] theorem a_var {i : Nat} : xVar i ρ os = (slD ρ[i]?).map fun d => (d, os) := by
  unfold xVar
  generalize ρ[i]? = z
  match z with
  | none => rfl
  | some .u => rfl
  | some (.d _) => rfl
  | some (.o _) => rfl
@[simp] theorem a_c {d : PyData} : xC d ρ os = some (d, os) := id rfl
@[simp] theorem a_op {f : PyData → PyData → Option PyData} : xOp f xa xb ρ os = (xa ρ os).bind fun p => (xb ρ p.2).bind fun q => (f p.1 q.1).map fun z => (z, q.2) := id rfl
@[simp] theorem a_un {f : PyData → Option PyData} : xUn f xa ρ os = (xa ρ os).bind fun p => (f p.1).map fun z => (z, p.2) := id rfl
def boolOf : PyData → Option Bool
  | .bool b => some b
  | _ => none
@[simp] theorem a_bool : xBool xa ρ os = (xa ρ os).bind fun p => (boolOf p.1).map fun b => (b, p.2) := by
  unfold xBool
  congr 1
  funext p
  cases p.1 <;> rfl
@[simp] theorem a_truth : xTruth xa ρ os = (xa ρ os).bind fun p => (truthD p.1).map fun b => (b, p.2) := id rfl
@[simp] theorem a_notT : xNotT ta ρ os = (ta ρ os).map fun p => (!p.1, p.2) := id rfl
@[simp] theorem a_andT : xAndT ta tb ρ os = (ta ρ os).bind fun p => if p.1 = true then tb ρ p.2 else some (false, p.2) := id rfl
@[simp] theorem a_orT : xOrT ta tb ρ os = (ta ρ os).bind fun p => if p.1 = true then some (true, p.2) else tb ρ p.2 := id rfl
@[simp] theorem a_andV : xAndV xa xb ρ os = (xa ρ os).bind fun p => (boolOf p.1).bind fun b => if b = true then xb ρ p.2 else some (.bool false, p.2) := by
  unfold xAndV
  congr 1
  funext p
  obtain ⟨d, w⟩ := p
  cases d with
  | bool b => cases b <;> rfl
  | _ => rfl
@[simp] theorem a_if : xIf ta xa xb ρ os = (ta ρ os).bind fun p => if p.1 = true then xa ρ p.2 else xb ρ p.2 := id rfl
@[simp] theorem a_nil : xaNil ρ os = some ([], os) := id rfl
@[simp] theorem a_d : xaD xa ra ρ os = (xa ρ os).bind fun p => (ra ρ p.2).map fun q => (.d p.1 :: q.1, q.2) := id rfl
@[simp] theorem a_o {i : Nat} : xaO i ra ρ os = (slO ρ[i]?).bind fun k => (ra ρ os).map fun q => (.o k :: q.1, q.2) := by
  unfold xaO
  generalize ρ[i]? = z
  match z with
  | none => rfl
  | some .u => rfl
  | some (.d _) => rfl
  | some (.o _) => rfl
@[simp] theorem a_call {f : List PyData → Option PyData} : xCall f ra ρ os = (ra ρ os).bind fun p => (datas p.1).bind fun ds => (f ds).map fun z => (z, p.2) := id rfl
@[simp] theorem a_fn {M : XM} : xFn M ra ρ os = (ra ρ os).bind fun p => M p.1 p.2 := id rfl
@[simp] theorem a_ffn {M : XMF} : fFn M ra ρ os = (ra ρ os).bind fun p => M p.1 p.2 := id rfl
@[simp] theorem a_F : xF xi ρ os = (xi ρ os).map fun p => (.list p.1, p.2) := id rfl
@[simp] theorem a_fLst : fLst ra ρ os = (ra ρ os).bind fun p => (datas p.1).bind fun ds => if ds.length ≤ sizeLine then some (ds, p.2) else none := id rfl
def listOf : PyData → Option (List PyData)
  | .list c => some c
  | _ => none
@[simp] theorem a_iLst : iLst xa ρ os = (xa ρ os).bind fun p => (listOf p.1).map fun c => (c, p.2) := by
  unfold iLst
  congr 1
  funext p
  cases p.1 <;> rfl
@[simp] theorem a_yes : xYes ρ os = some (true, os) := id rfl
@[simp] theorem a_next : sNext ρ os = some (.nx ρ os) := id rfl
@[simp] theorem a_brk : sBrk ρ os = some (.bk ρ os) := id rfl
@[simp] theorem a_cnt : sCnt ρ os = some (.ct ρ os) := id rfl
@[simp] theorem a_seq : sSeq a b ρ os = (a ρ os).bind fun o => match o with
  | .nx ρ1 w => b ρ1 w
  | o => some o := by
  unfold sSeq
  congr 1
@[simp] theorem a_sIf : sIf ta a b ρ os = (ta ρ os).bind fun p => if p.1 = true then a ρ p.2 else b ρ p.2 := id rfl
@[simp] theorem a_asg {g : XG} : sAsg xa g ρ os = (xa ρ os).bind fun p => (g p.1 ρ).map fun r => .nx r p.2 := id rfl
@[simp] theorem a_own {i : Nat} : sOwn i xi ρ os = (xi ρ os).map fun p => .nx (ρ.set i (.o p.2.length)) (p.2 ++ [some (.l p.1)]) := id rfl
@[simp] theorem a_drop : sDrop xa ρ os = (xa ρ os).map fun p => .nx ρ p.2 := id rfl
@[simp] theorem a_ret : sRet xa ρ os = (xa ρ os).map fun p => .rt p.1 p.2 := id rfl
@[simp] theorem a_retF : sRetF xi ρ os = (xi ρ os).map fun p => .rt (.list p.1) p.2 := id rfl
@[simp] theorem a_retN : sRetN ρ os = some (.rt .none os) := id rfl
@[simp] theorem a_for {g : XG} : sFor xi g a ρ os = (xi ρ os).bind fun p => forRun g a p.1 ρ p.2 := id rfl
@[simp] theorem a_par {i j : Nat} : sPar i j xa xb ρ os = (xa ρ os).bind fun p => (xb ρ p.2).map fun q => .nx ((ρ.set i (.d p.1)).set j (.d q.1)) q.2 := id rfl
@[simp] theorem a_parO {i j : Nat} : sParO i j xi xb ρ os = (xi ρ os).bind fun p => (xb ρ p.2).map fun q => .nx ((ρ.set i (.o q.2.length)).set j (.d q.1)) (q.2 ++ [some (.l p.1)]) := id rfl
@[simp] theorem a_view : xView xa ρ os = (xa (ρ.map (viewS os)) []).bind fun p => if flatD p.1 = true then some (p.1, os) else none := id rfl
@[simp] theorem a_tview : tView ta ρ os = (ta (ρ.map (viewS os)) []).map fun p => (p.1, os) := id rfl
@[simp] theorem a_nm {i : Nat} {d : PyData} : gNm i d ρ = some (ρ.set i (.d d)) := id rfl
@[simp] theorem a_tp {n : Nat} {xs : List PyData → List Sl → Option (List Sl)} {ds : List PyData} : gTp n xs (.tuple ds) ρ = if ds.length = n then xs ds ρ else none := id rfl
@[simp] theorem a_gnil : gsNil [] ρ = some ρ := id rfl
@[simp] theorem a_gcons {g : XG} {r : List PyData → List Sl → Option (List Sl)} {d : PyData} {ds : List PyData} : gsCons g r (d :: ds) ρ = (g d ρ).bind (r ds) := id rfl
@[simp] theorem a_zp : iZp ra ρ os = (ra ρ os).bind fun p => match p.1 with
  | [.d (.list xs), .d (.list ys)] => some (zipD xs ys, p.2)
  | _ => none := id rfl
@[simp] theorem a_sl {lo hi : XO} : xSl xa lo hi ρ os = (xa ρ os).bind fun p => (lo ρ p.2).bind fun l => (hi ρ l.2).bind fun u => (listOf p.1).map fun ds => (cutD ds l.1 u.1, u.2) := by
  unfold xSl
  congr 1
  funext p
  congr 1
  funext l
  congr 1
  funext u
  cases p.1 <;> rfl
@[simp] theorem a_oN : oNone ρ os = some (none, os) := id rfl
@[simp] theorem a_oS : oSome xa ρ os = (xa ρ os).bind fun p => match p.1 with
  | .int i => some (some i, p.2)
  | _ => none := id rfl
@[simp] theorem datas_nil : datas [] = some [] := id rfl
@[simp] theorem datas_d {x : PyData} {r : List Sl} : datas (.d x :: r) = (datas r).map (x :: ·) := id rfl
end
/-- nothing leans on what comes later -/
def Tidy (os : Os) : Prop := os.all (oLt os.length) = true
theorem cutW_self {os : Os} (h : Tidy os) : cutW os.length os = some os := by
  unfold cutW
  unfold Tidy at h
  rw [List.take_length, if_pos h]
theorem cutW_app {os w : Os} (h : Tidy os) : cutW os.length (os ++ w) = some os := by
  unfold cutW
  unfold Tidy at h
  rw [List.take_left, if_pos h]
theorem cutW_of {os os' w : Os} {n : Nat} (e : os'.length = n) (h : Tidy os') : cutW n (os' ++ w) = some os' := by
  subst e
  exact cutW_app h
theorem obLt_mono {n m : Nat} (h : n ≤ m) {o : Option Ob} (e : oLt n o = true) : oLt m o = true := by
  have hs : ∀ s : Sl, slLt n s = true → slLt m s = true := fun s hs => by
    cases s with
    | o k =>
      have : k < n := by simpa [slLt] using hs
      simp [slLt]
      omega
    | _ => rfl
  cases o with
  | none => rfl
  | some ob =>
    cases ob with
    | r xs =>
      simp only [oLt, obLt, List.all_eq_true] at e ⊢
      exact fun x hx => hs x (e x hx)
    | t xs =>
      simp only [oLt, obLt, List.all_eq_true] at e ⊢
      exact fun x hx => hs x (e x hx)
    | i C fs =>
      simp only [oLt, obLt, List.all_eq_true] at e ⊢
      exact fun x hx => hs _ (e x hx)
    | _ => rfl
theorem Tidy.app {os w : Os} (h : Tidy os) (e : w.all (oLt (os.length + w.length)) = true) : Tidy (os ++ w) := by
  unfold Tidy at h ⊢
  rw [List.all_append, List.length_append, e, Bool.and_true]
  rw [List.all_eq_true] at h ⊢
  exact fun x hx => obLt_mono (Nat.le_add_right _ _) (h x hx)
theorem Tidy.l {os : Os} {ds : List PyData} (h : Tidy os) : Tidy (os ++ [some (.l ds)]) := h.app (by simp [oLt, obLt])
theorem Tidy.n {os : Os} (h : Tidy os) : Tidy (os ++ [none]) := h.app (by simp [oLt])
theorem Tidy.set {os : Os} {k : Nat} {o : Option Ob} (h : Tidy os) (e : oLt os.length o = true) : Tidy (os.set k o) := by
  unfold Tidy at h ⊢
  rw [List.length_set]
  rw [List.all_eq_true] at h ⊢
  intro x hx
  rcases List.mem_or_eq_of_mem_set hx with z | z
  · exact h x z
  · rw [z]
    exact e
theorem Tidy.setl {os : Os} {k : Nat} {ds : List PyData} (h : Tidy os) : Tidy (os.set k (some (.l ds))) := h.set rfl
theorem Tidy.nil : Tidy [] := id rfl
theorem Tidy.one {ds : List PyData} : Tidy [some (.l ds)] := Tidy.nil.l
def outM (os : Os) : Out → Option (PyData × Os)
  | .rt d w => (cutW os.length w).map fun w' => (d, w')
  | .nx _ w => (cutW os.length w).map fun w' => (.none, w')
  | _ => none
def outF (os : Os) : Out → Option (List PyData × Os)
  | .rt (.list ds) w => (cutW os.length w).map fun w' => (ds, w')
  | _ => none
def outN : Out → Option (PyData × Os)
  | .rt d w => some (d, w)
  | .nx _ w => some (.none, w)
  | _ => none
def outS : Out → Option (Sl × Os)
  | .rv s w => some (s, w)
  | .rt d w => some (.d d, w)
  | .nx _ w => some (.d .none, w)
  | _ => none
@[simp] theorem outM_rt {os w : Os} {d : PyData} : outM os (.rt d w) = (cutW os.length w).map fun w' => (d, w') := id rfl
@[simp] theorem outM_nx {os w : Os} {ρ : List Sl} : outM os (.nx ρ w) = (cutW os.length w).map fun w' => (.none, w') := id rfl
@[simp] theorem outF_rt {os w : Os} {d : List PyData} : outF os (.rt (.list d) w) = (cutW os.length w).map fun w' => (d, w') := id rfl
@[simp] theorem outN_rt {w : Os} {d : PyData} : outN (.rt d w) = some (d, w) := id rfl
@[simp] theorem outN_nx {w : Os} {ρ : List Sl} : outN (.nx ρ w) = some (.none, w) := id rfl
theorem m_eq {n N : Nat} {s : SE} {ss : List Sl} {os : Os} (h : ss.length = n) : mOf n N s ss os = (s (ss ++ List.replicate (N - n) .u) os).bind (outM os) := by
  unfold mOf
  rw [if_pos h]
  congr 1
theorem mF_eq {n N : Nat} {s : Nat → SE} {ss : List Sl} {os : Os} (h : ss.length = n) : mOfF n N s ss os = (s os.length (ss ++ List.replicate (N - n) .u) os).bind (outF os) := by
  unfold mOfF
  rw [if_pos h]
  congr 1
theorem mS_eq {n N : Nat} {s : SE} {ss : List Sl} {os : Os} (h : ss.length = n) : mOfS n N s ss os = (s (ss ++ List.replicate (N - n) .u) os).bind outS := by
  unfold mOfS
  rw [if_pos h]
  congr 1
theorem mS_2 {N : Nat} {s : SE} {os : Os} {a b : Sl} : mOfS 2 N s [a, b] os = (s (a :: b :: List.replicate (N - 2) .u) os).bind outS := mS_eq (ss := [a, b]) rfl
@[simp] theorem outS_rv {w : Os} {s : Sl} : outS (.rv s w) = some (s, w) := id rfl
theorem cut_take {α : Type} (xs : List α) (n : Nat) : DL.cutD xs none (some (n : Int)) = xs.take n := by
  unfold DL.cutD
  rw [HT.sIx_none, HT.sIx_nat, Nat.sub_zero, List.drop_zero]
  by_cases h : n ≤ xs.length
  · rw [Nat.min_eq_left h]
  · rw [Nat.min_eq_right (by omega), List.take_of_length_le (Nat.le_refl _), List.take_of_length_le (by omega)]
theorem cut_drop {α : Type} (xs : List α) (n : Nat) : DL.cutD xs (some (n : Int)) none = xs.drop n := by
  unfold DL.cutD
  rw [HT.sIx_none, HT.sIx_nat]
  by_cases h : n ≤ xs.length
  · rw [Nat.min_eq_left h, List.take_of_length_le (by simp)]
  · rw [Nat.min_eq_right (by omega), List.drop_of_length_le (Nat.le_refl _), List.drop_of_length_le (by omega), List.take_nil]
theorem mN_eq {n N : Nat} {s : SE} {ss : List Sl} {os : Os} (h : ss.length = n) : mOfN n N s ss os = (s (ss ++ List.replicate (N - n) .u) os).bind outN := by
  unfold mOfN
  rw [if_pos h]
  congr 1
theorem m_rt {n N : Nat} {s : SE} {ss : List Sl} {d : PyData} {os w w' : Os} (h : ss.length = n) (e : s (ss ++ List.replicate (N - n) .u) os = some (.rt d w)) (c : cutW os.length w = some w') : mOf n N s ss os = some (d, w') := by
  rw [m_eq h, e, Option.bind_some, outM_rt, c]
  rfl
theorem mF_rt {n N : Nat} {s : Nat → SE} {ss : List Sl} {ds : List PyData} {os w w' : Os} (h : ss.length = n) (e : s os.length (ss ++ List.replicate (N - n) .u) os = some (.rt (.list ds) w)) (c : cutW os.length w = some w') : mOfF n N s ss os = some (ds, w') := by
  rw [mF_eq h, e, Option.bind_some, outF_rt, c]
  rfl
theorem m_nx {n N : Nat} {s : SE} {ss : List Sl} {ρ1 : List Sl} {os w w' : Os} (h : ss.length = n) (e : s (ss ++ List.replicate (N - n) .u) os = some (.nx ρ1 w)) (c : cutW os.length w = some w') : mOf n N s ss os = some (.none, w') := by
  rw [m_eq h, e, Option.bind_some, outM_nx, c]
  rfl
theorem m_0 {N : Nat} {s : SE} {os : Os} : mOf 0 N s [] os = (s (List.replicate N .u) os).bind (outM os) := m_eq (ss := []) rfl
theorem m_1 {N : Nat} {s : SE} {os : Os} {a : Sl} : mOf 1 N s [a] os = (s (a :: List.replicate (N - 1) .u) os).bind (outM os) := m_eq (ss := [a]) rfl
theorem m_2 {N : Nat} {s : SE} {os : Os} {a b : Sl} : mOf 2 N s [a, b] os = (s (a :: b :: List.replicate (N - 2) .u) os).bind (outM os) := m_eq (ss := [a, b]) rfl
theorem m_3 {N : Nat} {s : SE} {os : Os} {a b c : Sl} : mOf 3 N s [a, b, c] os = (s (a :: b :: c :: List.replicate (N - 3) .u) os).bind (outM os) := m_eq (ss := [a, b, c]) rfl
theorem m_4 {N : Nat} {s : SE} {os : Os} {a b c d : Sl} : mOf 4 N s [a, b, c, d] os = (s (a :: b :: c :: d :: List.replicate (N - 4) .u) os).bind (outM os) := m_eq (ss := [a, b, c, d]) rfl
theorem m_5 {N : Nat} {s : SE} {os : Os} {a b c d e : Sl} : mOf 5 N s [a, b, c, d, e] os = (s (a :: b :: c :: d :: e :: List.replicate (N - 5) .u) os).bind (outM os) := m_eq (ss := [a, b, c, d, e]) rfl
theorem m_6 {N : Nat} {s : SE} {os : Os} {a b c d e f : Sl} : mOf 6 N s [a, b, c, d, e, f] os = (s (a :: b :: c :: d :: e :: f :: List.replicate (N - 6) .u) os).bind (outM os) := m_eq (ss := [a, b, c, d, e, f]) rfl
theorem mF_1 {N : Nat} {s : Nat → SE} {os : Os} {a : Sl} : mOfF 1 N s [a] os = (s os.length (a :: List.replicate (N - 1) .u) os).bind (outF os) := mF_eq (ss := [a]) rfl
theorem mF_2 {N : Nat} {s : Nat → SE} {os : Os} {a b : Sl} : mOfF 2 N s [a, b] os = (s os.length (a :: b :: List.replicate (N - 2) .u) os).bind (outF os) := mF_eq (ss := [a, b]) rfl
theorem mF_3 {N : Nat} {s : Nat → SE} {os : Os} {a b c : Sl} : mOfF 3 N s [a, b, c] os = (s os.length (a :: b :: c :: List.replicate (N - 3) .u) os).bind (outF os) := mF_eq (ss := [a, b, c]) rfl
theorem mF_4 {N : Nat} {s : Nat → SE} {os : Os} {a b c d : Sl} : mOfF 4 N s [a, b, c, d] os = (s os.length (a :: b :: c :: d :: List.replicate (N - 4) .u) os).bind (outF os) := mF_eq (ss := [a, b, c, d]) rfl
theorem mN_1 {N : Nat} {s : SE} {os : Os} {a : Sl} : mOfN 1 N s [a] os = (s (a :: List.replicate (N - 1) .u) os).bind outN := mN_eq (ss := [a]) rfl
theorem mN_2 {N : Nat} {s : SE} {os : Os} {a b : Sl} : mOfN 2 N s [a, b] os = (s (a :: b :: List.replicate (N - 2) .u) os).bind outN := mN_eq (ss := [a, b]) rfl
theorem mN_3 {N : Nat} {s : SE} {os : Os} {a b c : Sl} : mOfN 3 N s [a, b, c] os = (s (a :: b :: c :: List.replicate (N - 3) .u) os).bind outN := mN_eq (ss := [a, b, c]) rfl
/-! ### what may be one's own -/
section
variable {ρ : List Sl} {os : Os} {xa xb xc : XE} {ra : XA} {xr xs : XS} {xi xj : XI} {ta : XT} {b : SE}
def slV : Option Sl → Option Sl
  | some (.d x) => some (.d x)
  | some (.o k) => some (.o k)
  | _ => none
@[simp] theorem slV_d {x : PyData} : slV (some (.d x)) = some (.d x) := id rfl
@[simp] theorem slV_o {x : Nat} : slV (some (.o x)) = some (.o x) := id rfl
@[simp] theorem a_rvar {i : Nat} : xrVar i ρ os = (slV ρ[i]?).map fun s => (s, os) := by
  unfold xrVar
  generalize ρ[i]? = z
  match z with
  | none => rfl
  | some .u => rfl
  | some (.d _) => rfl
  | some (.o _) => rfl
@[simp] theorem a_rD : xrD xa ρ os = (xa ρ os).map fun p => (.d p.1, p.2) := id rfl
@[simp] theorem a_eD : xeD xr ρ os = (xr ρ os).bind fun p => (slD (some p.1)).map fun d => (d, p.2) := by
  unfold xeD
  congr 1
  funext p
  cases p.1 <;> rfl
@[simp] theorem a_fld {C : Addr} {f : Str} : xrFld C f xr ρ os = (xr ρ os).bind fun p => (insAt C p.2 p.1).bind fun q => (q.2.lookup f).map fun s => (s, p.2) := id rfl
@[simp] theorem a_rIx : xrIx xr xa ρ os = (xr ρ os).bind fun p => (xa ρ p.2).bind fun q => (ixV q.2 p.1 q.1).map fun s => (s, q.2) := id rfl
@[simp] theorem a_lenV : xLenV xr ρ os = (xr ρ os).bind fun p => (lenV p.2 p.1).map fun i => (.int i, p.2) := id rfl
@[simp] theorem a_v : xaV xr ra ρ os = (xr ρ os).bind fun p => (ra ρ p.2).map fun q => (p.1 :: q.1, q.2) := id rfl
@[simp] theorem a_s : xaS xs ra ρ os = (xs ρ os).bind fun p => (ra ρ p.2).map fun q => (p.1 :: q.1, q.2) := id rfl
@[simp] theorem a_asgV {i : Nat} : sAsgV i xs ρ os = (xs ρ os).map fun p => .nx (ρ.set i p.1) p.2 := id rfl
@[simp] theorem a_fldV {C : Addr} {f : Str} : sFldV C f xr xs ρ os = (xs ρ os).bind fun p => (xr ρ p.2).bind fun q => (insAt C q.2 q.1).bind fun z => if z.2.length < 1000 then some (.nx ρ (q.2.set z.1 (some (.i C (putS f p.1 z.2))))) else none := id rfl
@[simp] theorem a_new {C : Addr} {M : XM} : xNew C M ra ρ os = (ra ρ os).bind fun p => (M (.o p.2.length :: p.1) (p.2 ++ [some (.i C [])])).bind fun q => match q.1 with
  | .none => some (.o p.2.length, q.2)
  | _ => none := id rfl
@[simp] theorem a_meth {C : Addr} {m : Str} {M : XM} : xMeth C m M xr ra ρ os = (xr ρ os).bind fun p => (insAt C p.2 p.1).bind fun q => match q.2.lookup m with
  | none => (ra ρ p.2).bind fun z => M (.o q.1 :: z.1) z.2
  | some _ => none := id rfl
@[simp] theorem a_lst : xsLst ra ρ os = (ra ρ os).bind fun p => if p.1.length ≤ sizeLine then some (.o p.2.length, p.2 ++ [some (.r p.1)]) else none := id rfl
@[simp] theorem a_sown : xsOwn xi ρ os = (xi ρ os).map fun p => (.o p.2.length, p.2 ++ [some (.l p.1)]) := id rfl
@[simp] theorem a_dictK : xsDictK ρ os = some (.o os.length, os ++ [some (.k [])]) := id rfl
@[simp] theorem a_sfn {M : XMS} : xsFn M ra ρ os = (ra ρ os).bind fun p => M p.1 p.2 := id rfl
@[simp] theorem a_fnG {M : XM} : xFnG M ra ρ os = (ra ρ os).bind fun p => (M p.1 p.2).bind fun q => (cutW os.length q.2).map fun w => (q.1, w) := id rfl
@[simp] theorem a_ffnG {M : XMF} : fFnG M ra ρ os = (ra ρ os).bind fun p => (M p.1 p.2).bind fun q => (cutW os.length q.2).map fun w => (q.1, w) := id rfl
@[simp] theorem a_fnN {M : XM} : xFnN M xi ra ρ os = (xi ρ os).bind fun p => (ra ρ (p.2 ++ [some (.l p.1)])).bind fun q => (M (.o p.2.length :: q.1) q.2).bind fun z => (cutW p.2.length z.2).map fun w => (z.1, w) := id rfl
@[simp] theorem a_tupV {js : List Nat} : sTupV js ra ρ os = (ra ρ os).bind fun p => if p.1.length = js.length then some (.nx (setAll ρ js p.1) p.2) else none := id rfl
@[simp] theorem a_fIf : fIf ta xi xj ρ os = (ta ρ os).bind fun p => if p.1 = true then xi ρ p.2 else xj ρ p.2 := id rfl
@[simp] theorem a_retS : sRetS xs ρ os = (xs ρ os).map fun p => .rv p.1 p.2 := id rfl
@[simp] theorem insAt_o {C : Addr} {k : Nat} : insAt C os (.o k) = match os[k]? with
  | some (some (.i C' fs)) => if C' = C then some (k, fs) else none
  | _ => none := by
  unfold insAt
  rfl
end

/-! ### comprehensions whose parts change nothing -/
theorem lc_pure {α : Type} {xg : XG} {tt : XT} {te : XE} {ρ : List Sl} {os : Os} (f : α → PyData) (p : α → Bool) (h : α → PyData) : ∀ (l : List α) (acc : List PyData),
    (∀ x ∈ l, ∃ ρ1, xg (f x) ρ = some ρ1 ∧ tt ρ1 os = some (p x, os) ∧ (p x = true → te ρ1 os = some (h x, os))) → acc.length + l.length ≤ sizeLine → lcRun xg tt te ρ (l.map f) acc os = some (acc ++ (l.filter p).map h, os)
  | [], acc, _, _ => by simp [lcRun]
  | x :: r, acc, H, hl => by
    obtain ⟨ρ1, h1, h2, h3⟩ := H x (by simp)
    simp only [List.map_cons, lcRun, h1, Option.bind_some, h2]
    rw [List.length_cons] at hl
    cases hp : p x with
    | true =>
      rw [if_pos rfl, h3 hp, Option.bind_some, if_pos (by omega), lc_pure f p h r _ (fun y hy => H y (by simp [hy])) (by simp; omega), List.filter_cons_of_pos hp]
      simp
    | false =>
      rw [if_neg (by simp), lc_pure f p h r _ (fun y hy => H y (by simp [hy])) (by omega), List.filter_cons_of_neg (by simp [hp])]
theorem lcD_pure {α : Type} {xi : XI} {xg : XG} {tt : XT} {te : XE} {vs : List Nat} {ρ : List Sl} {os : Os} {l : List α} {f : α → PyData} {p : α → Bool} {h : α → PyData} (hi : xi ρ os = some (l.map f, os))
    (H : ∀ x ∈ l, ∃ ρ1, xg (f x) (wipeR ρ vs) = some ρ1 ∧ tt ρ1 os = some (p x, os) ∧ (p x = true → te ρ1 os = some (h x, os))) (hl : l.length ≤ sizeLine) : lcD xi xg tt te vs ρ os = some ((l.filter p).map h, os) := by
  unfold lcD
  rw [hi, Option.bind_some, lc_pure f p h l [] H (by simpa using hl)]
  simp
theorem lcD_all {α : Type} {xi : XI} {xg : XG} {te : XE} {vs : List Nat} {ρ : List Sl} {os : Os} {l : List α} {f : α → PyData} {h : α → PyData} (hi : xi ρ os = some (l.map f, os))
    (H : ∀ x ∈ l, ∃ ρ1, xg (f x) (wipeR ρ vs) = some ρ1 ∧ te ρ1 os = some (h x, os)) (hl : l.length ≤ sizeLine) : lcD xi xg xYes te vs ρ os = some (l.map h, os) := by
  have q := lcD_pure (tt := xYes) (te := te) (xg := xg) (vs := vs) (p := fun _ => true) (h := h) hi (fun x hx => by
    obtain ⟨ρ1, h1, h2⟩ := H x hx
    exact ⟨ρ1, h1, rfl, fun _ => h2⟩) hl
  rw [q, List.filter_eq_self.mpr (fun _ _ => rfl)]
/-- a for that runs to its end -/
theorem for_nx {α : Type} {xg : XG} {b : SE} (f : α → PyData) (I : List α → List Sl → Os → Prop) : ∀ (l : List α) (ρ : List Sl) (os : Os), I l ρ os →
    (∀ x r ρ os, I (x :: r) ρ os → ∃ ρ1 ρ2 os2, xg (f x) ρ = some ρ1 ∧ b ρ1 os = some (.nx ρ2 os2) ∧ I r ρ2 os2) → ∃ ρ2 os2, forRun xg b (l.map f) ρ os = some (.nx ρ2 os2) ∧ I [] ρ2 os2
  | [], ρ, os, h, _ => ⟨ρ, os, rfl, h⟩
  | x :: r, ρ, os, h, H => by
    obtain ⟨ρ1, ρ2, os2, h1, h2, h3⟩ := H x r ρ os h
    obtain ⟨ρ3, os3, h4, h5⟩ := for_nx f I r ρ2 os2 h3 H
    refine ⟨ρ3, os3, ?_, h5⟩
    simp only [List.map_cons, forRun, h1, Option.bind_some, h2, h4]

/-! ### types -/
@[simp] theorem i_int_int {i : Int} : isiD "int" (.int i) = some (.bool true) := by
  show (kitB "int" "int").map PyData.bool = _
  rw [show kitB "int" "int" = some true by decide +kernel]
  rfl
@[simp] theorem i_bool_int {i : Int} : isiD "bool" (.int i) = some (.bool false) := by
  show (kitB "int" "bool").map PyData.bool = _
  rw [show kitB "int" "bool" = some false by decide +kernel]
  rfl
@[simp] theorem i_int_bool {b : Bool} : isiD "int" (.bool b) = some (.bool true) := by
  show (kitB "bool" "int").map PyData.bool = _
  rw [show kitB "bool" "int" = some true by decide +kernel]
  rfl
@[simp] theorem i_bool_bool {b : Bool} : isiD "bool" (.bool b) = some (.bool true) := by
  show (kitB "bool" "bool").map PyData.bool = _
  rw [show kitB "bool" "bool" = some true by decide +kernel]
  rfl
@[simp] theorem i_int_none : isiD "int" .none = some (.bool false) := by
  show (kitB "NoneType" "int").map PyData.bool = _
  rw [show kitB "NoneType" "int" = some false by decide +kernel]
  rfl
@[simp] theorem i_int_str {x : Str} : isiD "int" (.str x) = some (.bool false) := by
  show (kitB "str" "int").map PyData.bool = _
  rw [show kitB "str" "int" = some false by decide +kernel]
  rfl
@[simp] theorem i_int_list {x : List PyData} : isiD "int" (.list x) = some (.bool false) := by
  show (kitB "list" "int").map PyData.bool = _
  rw [show kitB "list" "int" = some false by decide +kernel]
  rfl
@[simp] theorem i_int_tuple {x : List PyData} : isiD "int" (.tuple x) = some (.bool false) := by
  show (kitB "tuple" "int").map PyData.bool = _
  rw [show kitB "tuple" "int" = some false by decide +kernel]
  rfl
@[simp] theorem i_list_list {x : List PyData} : isiD "list" (.list x) = some (.bool true) := by
  show (kitB "list" "list").map PyData.bool = _
  rw [show kitB "list" "list" = some true by decide +kernel]
  rfl
@[simp] theorem i_tuple_tuple {x : List PyData} : isiD "tuple" (.tuple x) = some (.bool true) := by
  show (kitB "tuple" "tuple").map PyData.bool = _
  rw [show kitB "tuple" "tuple" = some true by decide +kernel]
  rfl
@[simp] theorem i_tuple_none : isiD "tuple" .none = some (.bool false) := by
  show (kitB "NoneType" "tuple").map PyData.bool = _
  rw [show kitB "NoneType" "tuple" = some false by decide +kernel]
  rfl
@[simp] theorem i_tuple_list {x : List PyData} : isiD "tuple" (.list x) = some (.bool false) := by
  show (kitB "list" "tuple").map PyData.bool = _
  rw [show kitB "list" "tuple" = some false by decide +kernel]
  rfl
@[simp] theorem i_tuple_int {i : Int} : isiD "tuple" (.int i) = some (.bool false) := by
  show (kitB "int" "tuple").map PyData.bool = _
  rw [show kitB "int" "tuple" = some false by decide +kernel]
  rfl
@[simp] theorem i_tuple_dict {i : List (PyData × PyData)} : isiD "tuple" (.dict i) = some (.bool false) := by
  show (kitB "dict" "tuple").map PyData.bool = _
  rw [show kitB "dict" "tuple" = some false by decide +kernel]
  rfl

/-! ### operations within their limits -/
theorem sizeLine_eq : sizeLine = 16777216 := rfl
theorem mulD_ok {a b : Int} {p q : Nat} (ha : a.natAbs < 2 ^ p) (hb : b.natAbs < 2 ^ q) (h : p + q ≤ 134217728) : mulD (.int a) (.int b) = some (.int (a * b)) := by
  have h1 := intBits_le ha
  have h2 := intBits_le hb
  show (if bitsOf a + bitsOf b ≤ 134217728 then _ else _) = _
  rw [if_pos (by simp only [bitsOf]; omega)]
theorem modD_ok {a b : Int} (h : 0 < b) : modD (.int a) (.int b) = some (.int (a % b)) := by
  show (if 0 < b then _ else _) = _
  rw [if_pos h]
theorem fdivD_ok {a b : Int} {p : Nat} (h : 0 < b) (ha : a.natAbs < 2 ^ p) (hp : p ≤ 4000) : fdivD (.int a) (.int b) = some (.int (a / b)) := by
  have h1 := intBits_le ha
  show (if _ then _ else _) = _
  rw [if_pos ⟨h, by omega⟩]
theorem shlD_ok {a b : Int} {p : Nat} (h : 0 ≤ b) (ha : a.natAbs < 2 ^ p) (hp : (p : Int) + b ≤ 134217728) : shlD (.int a) (.int b) = some (.int (a * 2 ^ b.toNat)) := by
  have h1 := intBits_le ha
  show (if _ then _ else _) = _
  rw [if_pos ⟨h, by simp only [bitsOf]; omega⟩]
theorem powD_ok {a b : Int} {p : Nat} (h : 0 ≤ b) (ha : a.natAbs < 2 ^ p) (hp : (p : Int) * b ≤ 134217728) : powD (.int a) (.int b) = some (.int (a ^ b.toNat)) := by
  have h1 := intBits_le ha
  show (if _ then _ else _) = _
  rw [if_pos ⟨h, Int.le_trans (Int.mul_le_mul_of_nonneg_right (by simp only [bitsOf]; omega) h) hp⟩]
theorem atI_nat {α : Type} {c : List α} {i : Nat} {x : α} (h : c[i]? = some x) : atI c (i : Int) = some x := by
  have hl : i < c.length := by
    rcases Nat.lt_or_ge i c.length with z | z
    · exact z
    · rw [List.getElem?_eq_none z] at h
      cases h
  unfold atI ixN
  rw [if_pos (by omega), if_pos (by omega)]
  simpa using h
@[simp] theorem boolOf_bool {b : Bool} : boolOf (.bool b) = some b := id rfl
@[simp] theorem listOf_list {b : List PyData} : listOf (.list b) = some b := id rfl
@[simp] theorem addD_int {a b : Int} : addD (.int a) (.int b) = some (.int (a + b)) := id rfl
@[simp] theorem subD_int {a b : Int} : subD (.int a) (.int b) = some (.int (a - b)) := id rfl
@[simp] theorem ltD_int {a b : Int} : ltD (.int a) (.int b) = some (.bool (decide (a < b))) := id rfl
@[simp] theorem leD_int {a b : Int} : leD (.int a) (.int b) = some (.bool (decide (a ≤ b))) := id rfl
@[simp] theorem gtD_int {a b : Int} : gtD (.int a) (.int b) = some (.bool (decide (a > b))) := id rfl
@[simp] theorem geD_int {a b : Int} : geD (.int a) (.int b) = some (.bool (decide (a ≥ b))) := id rfl
@[simp] theorem lenD_list {c : List PyData} : lenD [.list c] = some (.int (c.length : Int)) := id rfl
@[simp] theorem lenD_tuple {c : List PyData} : lenD [.tuple c] = some (.int (c.length : Int)) := id rfl
@[simp] theorem intD_int {i : Int} : intD [.int i] = some (.int i) := id rfl
@[simp] theorem intD_bool {b : Bool} : intD [.bool b] = some (.int (if b then 1 else 0)) := id rfl
@[simp] theorem notD_bool {b : Bool} : notD (.bool b) = some (.bool (!b)) := id rfl
@[simp] theorem truthD_bool {b : Bool} : truthD (.bool b) = some b := id rfl
@[simp] theorem maxD_two {a b : Int} : maxD [.int a, .int b] = some (.int (if b > a then b else a)) := id rfl
@[simp] theorem sumD_ints {ns : List Int} : sumD [.list (ns.map .int)] = some (.int ns.sum) := by
  show (intsOf (ns.map .int)).map _ = _
  rw [intsOf_map]
  rfl
@[simp] theorem allD_bools {ns : List Bool} : allD [.list (ns.map .bool)] = some (.bool (ns.all id)) := by
  show (boolsOf (ns.map .bool)).map _ = _
  rw [boolsOf_map]
  rfl
@[simp] theorem bitsD_int {i : Int} : bitsD (.int i) = some (.int (Builtin.Int.intBits i : Nat)) := id rfl
@[simp] theorem negD_int {i : Int} : negD (.int i) = some (.int (-i)) := id rfl
@[simp] theorem eqD_str {a b : Str} : eqD (.str a) (.str b) = some (.bool (decide (a = b))) := id rfl
@[simp] theorem neD_str {a b : Str} : neD (.str a) (.str b) = some (.bool (!decide (a = b))) := id rfl
theorem ixD_list {c : List PyData} {i : Nat} {x : PyData} (h : c[i]? = some x) : ixD (.list c) (.int (i : Int)) = some x := atI_nat h
theorem ixD_tuple {c : List PyData} {i : Nat} {x : PyData} (h : c[i]? = some x) : ixD (.tuple c) (.int (i : Int)) = some x := atI_nat h
@[simp] theorem ixD_t0 {x : PyData} {c : List PyData} : ixD (.tuple (x :: c)) (.int 0) = some x := atI_nat (i := 0) rfl
@[simp] theorem ixD_t1 {x y : PyData} {c : List PyData} : ixD (.tuple (x :: y :: c)) (.int 1) = some y := atI_nat (i := 1) rfl
@[simp] theorem ixD_t2 {x y z : PyData} {c : List PyData} : ixD (.tuple (x :: y :: z :: c)) (.int 2) = some z := atI_nat (i := 2) rfl
@[simp] theorem ixD_l0 {x : PyData} {c : List PyData} : ixD (.list (x :: c)) (.int 0) = some x := atI_nat (i := 0) rfl
@[simp] theorem ixD_l1 {x y : PyData} {c : List PyData} : ixD (.list (x :: y :: c)) (.int 1) = some y := atI_nat (i := 1) rfl
@[simp] theorem ixD_l2 {x y z : PyData} {c : List PyData} : ixD (.list (x :: y :: z :: c)) (.int 2) = some z := atI_nat (i := 2) rfl
theorem tupD_ok {ds : List PyData} (h : ds.length ≤ sizeLine) : tupD ds = some (.tuple ds) := by
  show (if _ then _ else _) = _
  rw [if_pos h]
theorem lstD_ok {ds : List PyData} (h : ds.length ≤ sizeLine) : lstD ds = some (.list ds) := by
  show (if _ then _ else _) = _
  rw [if_pos h]
@[simp] theorem tupD_0 : tupD [] = some (.tuple []) := tupD_ok (by decide)
@[simp] theorem tupD_1 {a : PyData} : tupD [a] = some (.tuple [a]) := tupD_ok (by simp [sizeLine])
@[simp] theorem tupD_2 {a b : PyData} : tupD [a, b] = some (.tuple [a, b]) := tupD_ok (by simp [sizeLine])
@[simp] theorem tupD_3 {a b c : PyData} : tupD [a, b, c] = some (.tuple [a, b, c]) := tupD_ok (by simp [sizeLine])
@[simp] theorem lstD_0 : lstD [] = some (.list []) := lstD_ok (by decide)
@[simp] theorem lstD_1 {a : PyData} : lstD [a] = some (.list [a]) := lstD_ok (by simp [sizeLine])
@[simp] theorem lstD_2 {a b : PyData} : lstD [a, b] = some (.list [a, b]) := lstD_ok (by simp [sizeLine])
@[simp] theorem lstD_3 {a b c : PyData} : lstD [a, b, c] = some (.list [a, b, c]) := lstD_ok (by simp [sizeLine])
@[simp] theorem lstD_4 {a b c d : PyData} : lstD [a, b, c, d] = some (.list [a, b, c, d]) := lstD_ok (by simp [sizeLine])
theorem addD_list {a b : List PyData} (h : a.length + b.length ≤ sizeLine) : addD (.list a) (.list b) = some (.list (a ++ b)) := by
  show (if _ then _ else _) = _
  rw [if_pos h]
end DL

set_option Elab.async false
set_option linter.all false
set_option maxRecDepth 100000
set_option maxHeartbeats 4000000
set_option exponentiation.threshold 3000
namespace DL
open PySem PySem.Spec PyProof.Rows L2 Evl

/-! ### texts -/
theorem text_inj {a b : Int} (h : Str.ofString (toString a) = Str.ofString (toString b)) : a = b := by
  have h1 : (Str.ofString (toString a)).cps.toList = (Str.ofString (toString b)).cps.toList := by rw [h]
  rw [signs_ofString, signs_ofString] at h1
  have h2 : (toString a).toList = (toString b).toList := by
    have inj : ∀ x y : Char, x.toNat = y.toNat → x = y := fun x y e => by
      apply Char.ext
      exact UInt32.toNat_inj.mp e
    exact (List.map_inj_right inj).mp h1
  exact Int.repr_injective (String.toList_inj.mp h2)
abbrev sh (d : PyData) : List Nat := d.shown.cps.toList
theorem sh_inj {d e : PyData} (h : sh d = sh e) : d.shown = e.shown := by
  have h1 : d.shown.cps = e.shown.cps := by
    rw [← Array.toArray_toList (xs := d.shown.cps), ← Array.toArray_toList (xs := e.shown.cps)]
    exact congrArg List.toArray h
  cases h2 : d.shown
  cases h3 : e.shown
  rw [h2, h3] at h1
  exact congrArg _ h1
theorem cps_app (a b : Str) : (a ++ b).cps.toList = a.cps.toList ++ b.cps.toList := by
  show (a.cps ++ b.cps).toList = _
  rw [Array.toList_append]
theorem len_app (a b : Str) : (a ++ b).length = a.length + b.length := strLen_append a b
theorem sg1 : ((",)" : String) : Str).cps.toList = [44, 41] := by decide
theorem sg2 : ((")" : String) : Str).cps.toList = [41] := by decide
theorem sh_pair (x y : PyData) : sh (.tuple [x, y]) = 40 :: (sh x ++ 44 :: 32 :: (sh y ++ [41])) := by
  show (PyData.tuple [x, y]).shown.cps.toList = _
  rw [PyData.shown_tuple, PyData.shownAll_cons, PyData.shownAll_cons, PyData.shownAll_nil]
  show (("(" : Str) ++ (x.shown ++ ", " ++ y.shown) ++ ((")" : String) : Str)).cps.toList = _
  rw [cps_app, cps_app, cps_app, cps_app, signs_lparen, signs_sep, sg2]
  simp
theorem sh_one (x : PyData) : sh (.tuple [x]) = 40 :: (sh x ++ [44, 41]) := by
  show (PyData.tuple [x]).shown.cps.toList = _
  rw [PyData.shown_tuple, PyData.shownAll_cons, PyData.shownAll_nil]
  show (("(" : Str) ++ x.shown ++ ((",)" : String) : Str)).cps.toList = _
  rw [cps_app, cps_app, signs_lparen, sg1]
  simp
theorem sh_three (x y z : PyData) : sh (.tuple [x, y, z]) = 40 :: (sh x ++ 44 :: 32 :: (sh y ++ 44 :: 32 :: (sh z ++ [41]))) := by
  show (PyData.tuple [x, y, z]).shown.cps.toList = _
  rw [PyData.shown_tuple, PyData.shownAll_cons, PyData.shownAll_cons, PyData.shownAll_cons, PyData.shownAll_nil]
  show (("(" : Str) ++ (x.shown ++ ", " ++ (y.shown ++ ", " ++ z.shown)) ++ ((")" : String) : Str)).cps.toList = _
  rw [cps_app, cps_app, cps_app, cps_app, cps_app, cps_app, signs_lparen, signs_sep, sg2]
  simp
theorem sh_list (xs : List PyData) : ∃ r, sh (.list xs) = 91 :: r := by
  refine ⟨(Str.join ", " (PyData.shownAll xs) ++ "]").cps.toList, ?_⟩
  show (PyData.list xs).shown.cps.toList = _
  rw [PyData.shown_list, cps_app, cps_app, cps_app, signs_lbrack]
  simp
theorem cut_eq {c : Nat} : ∀ {l1 l2 r1 r2 : List Nat}, c ∉ l1 → c ∉ l2 → l1 ++ c :: r1 = l2 ++ c :: r2 → l1 = l2 ∧ r1 = r2
  | [], [], _, _, _, _, h => ⟨rfl, (List.cons_inj_right c).mp h⟩
  | [], b :: l2, _, _, _, h2, h => by
    simp at h
    exact absurd h.1 (by intro e; exact h2 (by simp [e]))
  | a :: l1, [], _, _, h1, _, h => by
    simp at h
    exact absurd h.1 (by intro e; exact h1 (by simp [e]))
  | a :: l1, b :: l2, r1, r2, h1, h2, h => by
    simp only [List.cons_append, List.cons.injEq] at h
    obtain ⟨e1, e2⟩ := cut_eq (fun z => h1 (by simp [z])) (fun z => h2 (by simp [z])) h.2
    exact ⟨by rw [h.1, e1], e2⟩
theorem free_int {k : Nat} (hk : k ≠ 45 ∧ (k < 48 ∨ 57 < k)) (i : Int) : k ∉ sh (.int i) := shown_int_free' hk i
theorem int_text {a b : Int} (h : sh (.int a) = sh (.int b)) : a = b := by
  have := sh_inj h
  rw [PyData.shown_int, PyData.shown_int] at this
  exact text_inj this
/-! ### what can be shown -/
def Pr (d : PyData) (B : Nat) : Prop := d.showable = true ∧ d.depth ≤ 60 ∧ d.shown.length ≤ B ∧ d.hasDict = false
theorem repr_ok {d : PyData} {B : Nat} (h : Pr d B) (hB : B ≤ 100000) : reprD [d] = some (.str d.shown) := by
  obtain ⟨h1, h2, h3, h4⟩ := h
  have h5 : plainRepr d = true := by
    unfold plainRepr
    split
    · rfl
    · rw [h4]
      rfl
  unfold reprD
  simp only
  rw [if_pos ⟨h1, by omega, by rw [DL.sizeLine_eq]; omega, h5⟩]
theorem pr_int {i : Int} (h : i.natAbs < 10 ^ 60) : Pr (.int i) 61 := by
  refine ⟨?_, by simp [PyData.depth], ?_, by simp [PyData.hasDict]⟩
  · simp only [PyData.showable, decide_eq_true_eq]
    by_cases hz : i.natAbs = 0
    · rw [hz]
      decide
    · rw [Nat.log2_lt hz]
      exact Nat.lt_trans h (by decide)
  · rw [PyData.shown_int]
    have h1 := int_text_length_le10 (a := i) (k := 60) (by decide) h
    show (Str.ofString (toString i)).cps.size ≤ 61
    rw [← Array.length_toList, signs_ofString, List.length_map, String.length_toList]
    exact h1
theorem pr_none : Pr .none 61 := ⟨by simp [PyData.showable], by simp [PyData.depth], by rw [PyData.shown_none]; decide, by simp [PyData.hasDict]⟩
theorem pr_bool (b : Bool) : Pr (.bool b) 61 := ⟨by simp [PyData.showable], by simp [PyData.depth], by rw [PyData.shown_bool]; cases b <;> decide, by simp [PyData.hasDict]⟩
theorem join_len (B : Nat) : ∀ (ts : List Str), (∀ t ∈ ts, t.length ≤ B) → (Str.join ", " ts).length ≤ ts.length * (B + 2)
  | [], _ => by simp [Str.join, Str.empty, Str.length]
  | [x], h => by
    have := h x (by simp)
    show x.length ≤ _
    simp
    omega
  | x :: y :: r, h => by
    have ih := join_len B (y :: r) (fun t ht => h t (by simp [ht]))
    have h1 := h x (by simp)
    have h2 : ((", " : String) : Str).length = 2 := rfl
    show (x ++ ", " ++ Str.join ", " (y :: r)).length ≤ _
    rw [len_app, len_app, h2]
    rw [List.length_cons, Nat.add_mul]
    omega
theorem pr_all {B : Nat} : ∀ {ds : List PyData}, (∀ d ∈ ds, Pr d B) → PyData.showableAll ds = true ∧ PyData.hasDictAll ds = false ∧ (∀ t ∈ PyData.shownAll ds, t.length ≤ B)
  | [], _ => by simp [PyData.showableAll, PyData.hasDictAll, PyData.shownAll]
  | d :: r, h => by
    obtain ⟨h1, h2, h3⟩ := pr_all (ds := r) (fun x hx => h x (by simp [hx]))
    obtain ⟨g1, g2, g3, g4⟩ := h d (by simp)
    refine ⟨by simp [PyData.showableAll, h1, g1], by simp [PyData.hasDictAll, h2, g4], fun t ht => ?_⟩
    rw [PyData.shownAll_cons, List.mem_cons] at ht
    rcases ht with ht | ht
    · rw [ht]
      exact g3
    · exact h3 t ht
theorem depthAll_le {D : Nat} : ∀ {ds : List PyData}, (∀ d ∈ ds, d.depth ≤ D) → PyData.depthAll ds ≤ D
  | [], _ => by simp [PyData.depthAll]
  | d :: r, h => by
    have h1 := depthAll_le (ds := r) (fun x hx => h x (by simp [hx]))
    have h2 := h d (by simp)
    simp only [PyData.depthAll]
    omega
theorem pr_list {ds : List PyData} {B C D : Nat} (h : ∀ d ∈ ds, Pr d B) (hd : ∀ d ∈ ds, d.depth ≤ D) (hD : D < 60) (hC : ds.length * (B + 2) + 4 ≤ C) : Pr (.list ds) C := by
  obtain ⟨h1, h2, h3⟩ := pr_all h
  have h4 := join_len B _ h3
  have h5 := depthAll_le hd
  refine ⟨by simpa [PyData.showable] using h1, by simp only [PyData.depth]; omega, ?_, by simpa [PyData.hasDict] using h2⟩
  rw [PyData.shown_list, len_app, len_app]
  rw [PyData.shownAll_length] at h4
  have e1 : (("[" : String) : Str).length = 1 := rfl
  have e2 : (("]" : String) : Str).length = 1 := rfl
  omega
theorem pr_tuple {ds : List PyData} {B C D : Nat} (h : ∀ d ∈ ds, Pr d B) (hd : ∀ d ∈ ds, d.depth ≤ D) (hD : D < 60) (hC : ds.length * (B + 2) + 4 ≤ C) : Pr (.tuple ds) C := by
  obtain ⟨h1, h2, h3⟩ := pr_all h
  have h4 := join_len B _ h3
  have h5 := depthAll_le hd
  refine ⟨by simpa [PyData.showable] using h1, by simp only [PyData.depth]; omega, ?_, by simpa [PyData.hasDict] using h2⟩
  rw [PyData.shown_tuple, len_app, len_app]
  rw [PyData.shownAll_length] at h4
  have e1 : (("(" : String) : Str).length = 1 := rfl
  have e2 : (((if ds.length == 1 then ",)" else ")" : String)) : Str).length ≤ 2 := by
    split <;> decide
  omega

theorem pr_mono {d : PyData} {B C : Nat} (h : Pr d B) (e : B ≤ C) : Pr d C := ⟨h.1, h.2.1, Nat.le_trans h.2.2.1 e, h.2.2.2⟩
/-! ### what can be compared -/
theorem beq_dec {α : Type} [BEq α] [LawfulBEq α] [DecidableEq α] (a b : α) : (a == b) = decide (a = b) := by
  by_cases h : a = b
  · subst h
    simp
  · simp [h]
structure Cl (d : PyData) (D : Nat) : Prop where
  l : d.canLay0 = true
  d : d.depth ≤ D
theorem cl_int {i : Int} {D : Nat} : Cl (.int i) D := ⟨rfl, by simp [PyData.depth]⟩
theorem cl_bool {i : Bool} {D : Nat} : Cl (.bool i) D := ⟨rfl, by simp [PyData.depth]⟩
theorem cl_none {D : Nat} : Cl .none D := ⟨rfl, by simp [PyData.depth]⟩
theorem cl_str {x : Str} {D : Nat} (h : (PyData.str x).canLay0 = true) : Cl (.str x) D := ⟨h, by simp [PyData.depth]⟩
theorem canAll {ds : List PyData} {D : Nat} (h : ∀ d ∈ ds, Cl d D) : PyData.canLayAll0 ds = true := by
  induction ds with
  | nil => rfl
  | cons x r ih =>
    simp only [PyData.canLayAll0, (h x (by simp)).l, ih fun d hd => h d (by simp [hd]), Bool.and_self]
theorem cl_list {ds : List PyData} {D : Nat} (h : ∀ d ∈ ds, Cl d D) : Cl (.list ds) (D + 1) := ⟨canAll h, by
  have := depthAll_le fun d hd => (h d hd).d
  simp only [PyData.depth]
  omega⟩
theorem cl_tuple {ds : List PyData} {D : Nat} (h : ∀ d ∈ ds, Cl d D) : Cl (.tuple ds) (D + 1) := ⟨canAll h, by
  have := depthAll_le fun d hd => (h d hd).d
  simp only [PyData.depth]
  omega⟩
theorem Cl.mono {d : PyData} {D E : Nat} (h : Cl d D) (e : D ≤ E) : Cl d E := ⟨h.l, Nat.le_trans h.d e⟩
theorem Cl.shaped {d : PyData} {D : Nat} (h : Cl d D) (e : D ≤ 64 := by decide) : SeqAt.shaped d = true := by
  simp [SeqAt.shaped, h.l]
  exact Nat.le_trans h.d e
theorem eqD_cl {x y : PyData} {D E : Nat} (hx : Cl x D) (hy : Cl y E) (h1 : D ≤ 64 := by decide) (h2 : E ≤ 64 := by decide) : eqD x y = some (.bool (PyData.eqv x y)) := by
  unfold eqD
  split
  · simp [PyData.eqv]
    exact (beq_dec _ _).symm
  · rw [if_pos ⟨hx.shaped h1, hy.shaped h2⟩]
theorem neD_cl {x y : PyData} {D E : Nat} (hx : Cl x D) (hy : Cl y E) (h1 : D ≤ 64 := by decide) (h2 : E ≤ 64 := by decide) : neD x y = some (.bool (!PyData.eqv x y)) := by
  unfold neD
  split
  · simp [PyData.eqv]
    exact (beq_dec _ _).symm
  · rw [if_pos ⟨hx.shaped h1, hy.shaped h2⟩]
theorem eqD_self {x : PyData} {D : Nat} (hx : Cl x D) (h1 : D ≤ 64 := by decide) : eqD x x = some (.bool true) := by
  rw [eqD_cl hx hx h1 h1, SeqAt.eqv_refl x hx.l]
theorem neD_self {x : PyData} {D : Nat} (hx : Cl x D) (h1 : D ≤ 64 := by decide) : neD x x = some (.bool false) := by
  rw [neD_cl hx hx h1 h1, SeqAt.eqv_refl x hx.l]
  rfl
theorem eqv_int {x y : Int} : PyData.eqv (.int x) (.int y) = decide (x = y) := by
  simp [PyData.eqv]
  exact beq_dec _ _
theorem eqD_int {x y : Int} : eqD (.int x) (.int y) = some (.bool (decide (x = y))) := by rw [eqD_cl (D := 0) (E := 0) cl_int cl_int, eqv_int]
theorem neD_int {x y : Int} : neD (.int x) (.int y) = some (.bool (!decide (x = y))) := by rw [neD_cl (D := 0) (E := 0) cl_int cl_int, eqv_int]
theorem eqD_none_int {y : Int} : eqD .none (.int y) = some (.bool false) := by
  rw [eqD_cl (D := 0) (E := 0) cl_none cl_int]
  rfl
theorem neD_none_int {y : Int} : neD .none (.int y) = some (.bool true) := by
  rw [neD_cl (D := 0) (E := 0) cl_none cl_int]
  rfl
theorem eqD_int_none {y : Int} : eqD (.int y) .none = some (.bool false) := by
  rw [eqD_cl (D := 0) (E := 0) cl_int cl_none]
  rfl
theorem eqv_nil (l : List PyData) : PyData.eqv (.list l) (.list []) = l.isEmpty := by
  cases l <;> simp [PyData.eqv, PyData.eqvAll]
theorem seq_nx {a b : SE} {ρ ρ1 : List Sl} {os os1 : Os} {r : Option Out} (h1 : a ρ os = some (.nx ρ1 os1)) (h2 : b ρ1 os1 = r) : sSeq a b ρ os = r := by
  rw [a_seq, h1]
  exact h2
@[simp] theorem v_d {os : Os} {x : PyData} : viewS os (.d x) = .d x := id rfl
@[simp] theorem v_u {os : Os} : viewS os .u = .u := id rfl
theorem viewS_o {os : Os} {k : Nat} {g : List PyData} (h : os[k]? = some (some (.l g))) : viewS os (.o k) = .d (.list g) := by
  unfold viewS
  simp only
  rw [h]
@[simp] theorem asM_eq {M : XMF} {ss : List Sl} {os : Os} : asM M ss os = (M ss os).map fun p => (.list p.1, p.2) := id rfl
/-! walks over lists of one's own whose parts change nothing -/
theorem lcLive_all {α : Type} {q : Nat} {g : XGL} {te : XE} {ρ : List Sl} {os : Os} {items : List α} {f : α → Sl} {h : α → PyData} (hit : ∀ i, itemO os q i = some ((items[i]?).map f))
    (H : ∀ x ∈ items, ∃ ρ1, g (f x) ρ = some ρ1 ∧ te ρ1 os = some (h x, os)) (hz : items.length ≤ sizeLine) : ∀ (m i : Nat) (acc : List PyData), i ≤ items.length → items.length + 1 = m + i → acc.length = i → lcLive q g xYes te ρ m i acc os = some (acc ++ (items.drop i).map h, os)
  | 0, i, acc, hi, e, ha => by omega
  | m + 1, i, acc, hi, e, ha => by
    unfold lcLive
    rw [hit i, Option.bind_some]
    by_cases hl : i = items.length
    · subst hl
      simp
    · have hlt : i < items.length := by omega
      have e1 : items[i]? = some items[i] := by simp [hlt]
      obtain ⟨ρ1, h1, h2⟩ := H items[i] (List.getElem_mem hlt)
      have ih := lcLive_all hit H hz m (i + 1) (acc ++ [h items[i]]) (by omega) (by omega) (by simp [ha])
      have hz2 : acc.length < sizeLine := by omega
      simp -implicitDefEqProofs only [e1, Option.map_some, h1, Option.bind_some, a_yes, if_true, h2, hz2, ih]
      rw [List.drop_eq_getElem_cons hlt]
      simp only [List.map_cons, List.append_assoc, List.cons_append, List.nil_append]
theorem lcL_all {α : Type} {q : Nat} {xr : XS} {g : XGL} {te : XE} {vs : List Nat} {ρ : List Sl} {os : Os} {items : List α} {f : α → Sl} {h : α → PyData} (hr : xr ρ os = some (.o q, os)) (hl : lenO os q = some items.length) (hit : ∀ i, itemO os q i = some ((items[i]?).map f))
    (H : ∀ x ∈ items, ∃ ρ1, g (f x) (wipeR ρ vs) = some ρ1 ∧ te ρ1 os = some (h x, os)) (hz : items.length ≤ sizeLine) : lcL xr g xYes te vs ρ os = some (items.map h, os) := by
  unfold lcL
  rw [hr, Option.bind_some]
  simp only
  rw [hl, Option.bind_some, lcLive_all hit H hz _ 0 [] (Nat.zero_le _) rfl rfl]
  simp
theorem lcLS_all {α : Type} {q : Nat} {xs : XS} {g : XGL} {te : XE} {vs : List Nat} {ρ : List Sl} {os os1 os2 : Os} {items : List α} {f : α → Sl} {h : α → PyData} (hr : xs ρ os = some (.o q, os1)) (hl : lenO os1 q = some items.length) (hit : ∀ i, itemO os1 q i = some ((items[i]?).map f))
    (H : ∀ x ∈ items, ∃ ρ1, g (f x) (wipeR ρ vs) = some ρ1 ∧ te ρ1 os1 = some (h x, os1)) (hz : items.length ≤ sizeLine) (hc : cutW os.length os1 = some os2) : lcLS xs g xYes te vs ρ os = some (items.map h, os2) := by
  unfold lcLS
  rw [hr, Option.bind_some]
  simp only
  rw [hl, Option.bind_some, lcLive_all hit H hz _ 0 [] (Nat.zero_le _) rfl rfl]
  simp [hc]
theorem item_l {os : Os} {q : Nat} {c : List PyData} (h : os[q]? = some (some (.l c))) (i : Nat) : itemO os q i = some ((c[i]?).map .d) := by
  unfold itemO
  rw [h]
theorem item_r {os : Os} {q : Nat} {c : List Sl} (h : os[q]? = some (some (.r c))) (i : Nat) : itemO os q i = some c[i]? := by
  unfold itemO
  rw [h]
theorem leno_l {os : Os} {q : Nat} {c : List PyData} (h : os[q]? = some (some (.l c))) : lenO os q = some c.length := by
  unfold lenO
  rw [h]
theorem leno_r {os : Os} {q : Nat} {c : List Sl} (h : os[q]? = some (some (.r c))) : lenO os q = some c.length := by
  unfold lenO
  rw [h]
/-- a for that does its part for each -/
theorem for_fold {α β : Type} {xg : XG} {b : SE} (f : α → PyData) (st : β → List Sl) (od : β → Os) (step : β → α → Option β) (H : ∀ (s s' : β) (x : α), step s x = some s' → ∃ ρ1, xg (f x) (st s) = some ρ1 ∧ b ρ1 (od s) = some (.nx (st s') (od s'))) :
    ∀ (l : List α) (s s' : β), l.foldlM step s = some s' → forRun xg b (l.map f) (st s) (od s) = some (.nx (st s') (od s'))
  | [], s, s', h => by
    cases h
    rfl
  | x :: r, s, s', h => by
    rw [List.foldlM_cons] at h
    cases h1 : step s x with
    | none => rw [h1] at h; cases h
    | some s1 =>
      rw [h1] at h
      obtain ⟨ρ1, e1, e2⟩ := H s s1 x h1
      have ih := for_fold f st od step H r s1 s' h
      simp only [List.map_cons, forRun, e1, Option.bind_some, e2, ih]
end DL

set_option Elab.async false
set_option linter.all false
set_option maxRecDepth 100000
set_option maxHeartbeats 4000000
namespace DL
open PySem PySem.Spec PyProof.Rows L2 Evl
/-! a module's function for how many choices there are -/
section
variable {X : Cx}
def rComb : List V → Hp → VK → Prop := fun vs H Q => ∃ a b : Int, vs = [.int a, .int b] ∧ (0 ≤ a ∧ a ≤ 1000 ∧ 0 ≤ b) ∧ Q (.int (PySem.W.mcComb a b)) H
theorem cr_comb : CallR X (.builtin "math.comb") rComb := by
  intro pins s σ H vs us Q I r h
  obtain ⟨a, b, rfl, hc, q⟩ := h
  obtain ⟨t, u, rfl⟩ := Vals.int2 r
  exact PySem.W.mc_comb hc.1 hc.2.2 (by omega) (.inr (by omega)) fun _ => ⟨.int _, H, I.tok _, ⟨_, rfl⟩, q⟩
def combD : List PyData → Option PyData
  | [.int a, .int b] => if 0 ≤ a ∧ a ≤ 1000 ∧ 0 ≤ b then some (.int (PySem.W.mcComb a b)) else none
  | _ => none
theorem c_comb : CallR X (.builtin "math.comb") (rC X.K combD) := callC fun pins s σ H H0 xs us Q ds z I r s0 ha hf q => by
  unfold combD at hf
  split at hf
  · split at hf
    · rename_i hc
      cases hf
      obtain ⟨x, y, rfl, h1, h2⟩ := da2 ha
      cases h1
      cases h2
      exact cr_comb pins s σ H _ us Q I r ⟨_, _, rfl, hc, q _ H0 H (Gr.refl s0) (.int _)⟩
    · cases hf
  · cases hf
variable {x : Str} {p pos : Pos} {e : Expr} {es : List Expr} {ra : XA} {id : String}
theorem px_bf {g : List PyData → Option PyData} (hc : CallR X (.builtin id) (rC X.K g)) (hg : Gl X x) (hm : X.mg x = some (.builtin id)) (ha : PXA X (e :: es) ra) (hdb : (x == ("__debug__" : Str)) = false := by decide)
    (he : starEach (e :: es) X.env = (false, eval e X.env) :: starEach es X.env := by rfl) (hpl : (backTo pos (starEach es X.env)).any (·.1) = false := by rfl) : PX X (.Call (.Name x p) (e :: es) [] pos) (xCall g ra) := pe_imp (pe_callBfun hc hg hm ha hdb he hpl) fun _ _ _ q => to_call q
@[simp] theorem a_ls {n : Nat} {xs : List PyData → List Sl → Option (List Sl)} {ρ : List Sl} {ds : List PyData} : gLs n xs (.list ds) ρ = if ds.length = n then xs ds ρ else none := id rfl
end
theorem lcLive_pure {α : Type} {q : Nat} {g : XGL} {tt : XT} {te : XE} {ρ : List Sl} {os : Os} {items : List α} {f : α → Sl} {p : α → Bool} {h : α → PyData} (hit : ∀ i, itemO os q i = some ((items[i]?).map f))
    (H : ∀ x ∈ items, ∃ ρ1, g (f x) ρ = some ρ1 ∧ tt ρ1 os = some (p x, os) ∧ (p x = true → te ρ1 os = some (h x, os))) (hz : items.length ≤ sizeLine) : ∀ (m i : Nat) (acc : List PyData), i ≤ items.length → items.length + 1 = m + i → acc.length ≤ i → lcLive q g tt te ρ m i acc os = some (acc ++ ((items.drop i).filter p).map h, os)
  | 0, i, acc, hi, e, ha => by omega
  | m + 1, i, acc, hi, e, ha => by
    unfold lcLive
    rw [hit i, Option.bind_some]
    by_cases hl : i = items.length
    · subst hl
      simp
    · have hlt : i < items.length := by omega
      have e1 : items[i]? = some items[i] := List.getElem?_eq_getElem hlt
      obtain ⟨ρ1, h1, h2, h3⟩ := H items[i] (List.getElem_mem hlt)
      rw [List.drop_eq_getElem_cons hlt]
      cases hp : p items[i] with
      | true =>
        have ih := lcLive_pure hit H hz m (i + 1) (acc ++ [h items[i]]) (by omega) (by omega) (by simp; omega)
        have hz2 : acc.length < sizeLine := by omega
        rw [hp] at h2
        simp -implicitDefEqProofs only [e1, Option.map_some, h1, Option.bind_some, h2, if_true, h3 hp, hz2, ih]
        rw [List.filter_cons_of_pos hp]
        simp only [List.map_cons, List.append_assoc, List.cons_append, List.nil_append]
      | false =>
        have ih := lcLive_pure hit H hz m (i + 1) acc (by omega) (by omega) (by omega)
        rw [hp] at h2
        simp -implicitDefEqProofs only [e1, Option.map_some, h1, Option.bind_some, h2, Bool.false_eq_true, if_false, ih]
        rw [List.filter_cons_of_neg (by rw [hp]; exact Bool.false_ne_true)]
theorem lcL_pure {α : Type} {q : Nat} {xr : XS} {g : XGL} {tt : XT} {te : XE} {vs : List Nat} {ρ : List Sl} {os : Os} {items : List α} {f : α → Sl} {p : α → Bool} {h : α → PyData} (hr : xr ρ os = some (.o q, os)) (hl : lenO os q = some items.length) (hit : ∀ i, itemO os q i = some ((items[i]?).map f))
    (H : ∀ x ∈ items, ∃ ρ1, g (f x) (wipeR ρ vs) = some ρ1 ∧ tt ρ1 os = some (p x, os) ∧ (p x = true → te ρ1 os = some (h x, os))) (hz : items.length ≤ sizeLine) : lcL xr g tt te vs ρ os = some ((items.filter p).map h, os) := by
  unfold lcL
  rw [hr, Option.bind_some]
  simp only
  rw [hl, Option.bind_some, lcLive_pure hit H hz _ 0 [] (Nat.zero_le _) rfl (Nat.le_refl _)]
  simp
end DL

set_option Elab.async false
set_option linter.all false
set_option maxRecDepth 100000
set_option maxHeartbeats 4000000
namespace Lw
open PySem PySem.Spec PyProof.Rows L2 Evl DL
/-! the text -/
def topS (i : Nat) : Stmt := PySem.Challenge.pw_supermoves_k74_whole_cells_for_a_run.main.body.getD i (.Pass ⟨0, 0, 0, 0⟩)
abbrev s_is_whole : Stmt := topS 5
abbrev N_is_whole : List Str := ["value"]
theorem sc_is_whole : FnScope N_is_whole ["value"] (defScope s_is_whole) := ⟨rfl, rfl, rfl, by decide +kernel, rfl, by decide +kernel, by decide +kernel⟩
abbrev s_is_from : Stmt := topS 6
abbrev N_is_from : List Str := ["value", "low"]
theorem sc_is_from : FnScope N_is_from ["value", "low"] (defScope s_is_from) := ⟨rfl, rfl, rfl, by decide +kernel, rfl, by decide +kernel, by decide +kernel⟩
abbrev s_is_within : Stmt := topS 7
abbrev N_is_within : List Str := ["value", "low", "high"]
theorem sc_is_within : FnScope N_is_within ["value", "low", "high"] (defScope s_is_within) := ⟨rfl, rfl, rfl, by decide +kernel, rfl, by decide +kernel, by decide +kernel⟩
abbrev s_check_from : Stmt := topS 8
abbrev N_check_from : List Str := ["value", "low"]
theorem sc_check_from : FnScope N_check_from ["value", "low"] (defScope s_check_from) := ⟨rfl, rfl, rfl, by decide +kernel, rfl, by decide +kernel, by decide +kernel⟩
abbrev s_is_kind : Stmt := topS 11
abbrev N_is_kind : List Str := ["value"]
theorem sc_is_kind : FnScope N_is_kind ["value"] (defScope s_is_kind) := ⟨rfl, rfl, rfl, by decide +kernel, rfl, by decide +kernel, by decide +kernel⟩
abbrev s_check_kind : Stmt := topS 12
abbrev N_check_kind : List Str := ["kind"]
theorem sc_check_kind : FnScope N_check_kind ["kind"] (defScope s_check_kind) := ⟨rfl, rfl, rfl, by decide +kernel, rfl, by decide +kernel, by decide +kernel⟩
abbrev s_bound_beside : Stmt := topS 14
abbrev N_bound_beside : List Str := ["kind", "cells", "empty"]
theorem sc_bound_beside : FnScope N_bound_beside ["kind", "cells", "empty"] (defScope s_bound_beside) := ⟨rfl, rfl, rfl, by decide +kernel, rfl, by decide +kernel, by decide +kernel⟩
abbrev s_cells_beside : Stmt := topS 15
abbrev N_cells_beside : List Str := ["kind", "empty", "longest"]
theorem sc_cells_beside : FnScope N_cells_beside ["kind", "empty", "longest"] (defScope s_cells_beside) := ⟨rfl, rfl, rfl, by decide +kernel, rfl, by decide +kernel, by decide +kernel⟩
abbrev s_fewest_empty : Stmt := topS 16
abbrev N_fewest_empty : List Str := ["kind"]
theorem sc_fewest_empty : FnScope N_fewest_empty ["kind"] (defScope s_fewest_empty) := ⟨rfl, rfl, rfl, by decide +kernel, rfl, by decide +kernel, by decide +kernel⟩
abbrev s_Walk__init : Stmt := inClass (topS 18) 0
abbrev N_Walk__init : List Str := ["self", "rows"]
theorem sc_Walk__init : FnScope N_Walk__init ["self", "rows"] (defScope s_Walk__init) := ⟨rfl, rfl, rfl, by decide +kernel, rfl, by decide +kernel, by decide +kernel⟩
abbrev s_Walk_is_over : Stmt := inClass (topS 18) 1
abbrev N_Walk_is_over : List Str := ["self"]
theorem sc_Walk_is_over : FnScope N_Walk_is_over ["self"] (defScope s_Walk_is_over) := ⟨rfl, rfl, rfl, by decide +kernel, rfl, by decide +kernel, by decide +kernel⟩
abbrev s_Walk_price : Stmt := inClass (topS 18) 2
abbrev N_Walk_price : List Str := ["self"]
theorem sc_Walk_price : FnScope N_Walk_price ["self"] (defScope s_Walk_price) := ⟨rfl, rfl, rfl, by decide +kernel, rfl, by decide +kernel, by decide +kernel⟩
abbrev s_Walk_left : Stmt := inClass (topS 18) 3
abbrev N_Walk_left : List Str := ["self"]
theorem sc_Walk_left : FnScope N_Walk_left ["self"] (defScope s_Walk_left) := ⟨rfl, rfl, rfl, by decide +kernel, rfl, by decide +kernel, by decide +kernel⟩
abbrev s_Walk_go_on : Stmt := inClass (topS 18) 4
abbrev N_Walk_go_on : List Str := ["self", "many"]
theorem sc_Walk_go_on : FnScope N_Walk_go_on ["self", "many"] (defScope s_Walk_go_on) := ⟨rfl, rfl, rfl, by decide +kernel, rfl, by decide +kernel, by decide +kernel⟩
abbrev s_next_price : Stmt := topS 19
abbrev N_next_price : List Str := ["walks", "walk"]
theorem sc_next_price : FnScope N_next_price ["walks"] (defScope s_next_price) := ⟨rfl, rfl, rfl, by decide +kernel, rfl, by decide +kernel, by decide +kernel⟩
abbrev s_go_past : Stmt := topS 20
abbrev N_go_past : List Str := ["walks", "price", "many", "together", "walk"]
theorem sc_go_past : FnScope N_go_past ["walks", "price"] (defScope s_go_past) := ⟨rfl, rfl, rfl, by decide +kernel, rfl, by decide +kernel, by decide +kernel⟩
abbrev s_first_list : Stmt := topS 21
abbrev N_first_list : List Str := ["cells"]
theorem sc_first_list : FnScope N_first_list ["cells"] (defScope s_first_list) := ⟨rfl, rfl, rfl, by decide +kernel, rfl, by decide +kernel, by decide +kernel⟩
abbrev s_list_behind : Stmt := topS 22
abbrev N_list_behind : List Str := ["shorter", "rows", "kept", "added", "price", "told", "one"]
theorem sc_list_behind : FnScope N_list_behind ["shorter"] (defScope s_list_behind) := ⟨rfl, rfl, rfl, by decide +kernel, rfl, by decide +kernel, by decide +kernel⟩
abbrev s_lists_to : Stmt := topS 23
abbrev N_lists_to : List Str := ["cells", "last", "lists"]
theorem sc_lists_to : FnScope N_lists_to ["cells", "last"] (defScope s_lists_to) := ⟨rfl, rfl, rfl, by decide +kernel, rfl, by decide +kernel, by decide +kernel⟩
abbrev s_told_together : Stmt := topS 24
abbrev N_told_together : List Str := ["lists", "many_of", "rows", "price", "many"]
theorem sc_told_together : FnScope N_told_together ["lists"] (defScope s_told_together) := ⟨rfl, rfl, rfl, by decide +kernel, rfl, by decide +kernel, by decide +kernel⟩
abbrev s_rows_beside : Stmt := topS 25
abbrev N_rows_beside : List Str := ["kind", "cells", "empty", "doubled", "rows", "price", "many"]
theorem sc_rows_beside : FnScope N_rows_beside ["kind", "cells", "empty"] (defScope s_rows_beside) := ⟨rfl, rfl, rfl, by decide +kernel, rfl, by decide +kernel, by decide +kernel⟩
abbrev s_sum_of_least : Stmt := topS 26
abbrev N_sum_of_least : List Str := ["rows", "many", "total", "price", "number", "taken"]
theorem sc_sum_of_least : FnScope N_sum_of_least ["rows", "many"] (defScope s_sum_of_least) := ⟨rfl, rfl, rfl, by decide +kernel, rfl, by decide +kernel, by decide +kernel⟩
abbrev s_check_beside : Stmt := topS 27
abbrev N_check_beside : List Str := ["kind", "cells", "empty"]
theorem sc_check_beside : FnScope N_check_beside ["kind", "cells", "empty"] (defScope s_check_beside) := ⟨rfl, rfl, rfl, by decide +kernel, rfl, by decide +kernel, by decide +kernel⟩
abbrev s_fewest : Stmt := topS 28
abbrev N_fewest : List Str := ["kind", "cells", "empty", "many"]
theorem sc_fewest : FnScope N_fewest ["kind", "cells", "empty", "many"] (defScope s_fewest) := ⟨rfl, rfl, rfl, by decide +kernel, rfl, by decide +kernel, by decide +kernel⟩
abbrev s_check_columns : Stmt := topS 31
abbrev N_check_columns : List Str := ["kind", "empty", "most"]
theorem sc_check_columns : FnScope N_check_columns ["kind", "empty"] (defScope s_check_columns) := ⟨rfl, rfl, rfl, by decide +kernel, rfl, by decide +kernel, by decide +kernel⟩
abbrev s_cells_for : Stmt := topS 32
abbrev N_cells_for : List Str := ["kind", "empty", "many"]
theorem sc_cells_for : FnScope N_cells_for ["kind", "empty", "many"] (defScope s_cells_for) := ⟨rfl, rfl, rfl, by decide +kernel, rfl, by decide +kernel, by decide +kernel⟩
abbrev s_cells_within : Stmt := topS 33
abbrev N_cells_within : List Str := ["kind", "empty", "many", "steps", "low", "high", "middle"]
theorem sc_cells_within : FnScope N_cells_within ["kind", "empty", "many", "steps"] (defScope s_cells_within) := ⟨rfl, rfl, rfl, by decide +kernel, rfl, by decide +kernel, by decide +kernel⟩
abbrev s_law_hash : Stmt := topS 35
abbrev N_law_hash : List Str := ["seed", "index", "mixed"]
theorem sc_law_hash : FnScope N_law_hash ["seed", "index"] (defScope s_law_hash) := ⟨rfl, rfl, rfl, by decide +kernel, rfl, by decide +kernel, by decide +kernel⟩
abbrev s_law_random : Stmt := topS 36
abbrev N_law_random : List Str := ["generator", "bound", "drawn", "turn"]
theorem sc_law_random : FnScope N_law_random ["generator", "bound"] (defScope s_law_random) := ⟨rfl, rfl, rfl, by decide +kernel, rfl, by decide +kernel, by decide +kernel⟩
abbrev s_law_cell : Stmt := topS 37
abbrev N_law_cell : List Str := ["script", "index"]
theorem sc_law_cell : FnScope N_law_cell ["script", "index"] (defScope s_law_cell) := ⟨rfl, rfl, rfl, by decide +kernel, rfl, by decide +kernel, by decide +kernel⟩
abbrev s_law_generator : Stmt := topS 38
abbrev N_law_generator : List Str := ["script", "index", "seed"]
theorem sc_law_generator : FnScope N_law_generator ["script", "index"] (defScope s_law_generator) := ⟨rfl, rfl, rfl, by decide +kernel, rfl, by decide +kernel, by decide +kernel⟩
abbrev s_law_lists : Stmt := topS 39
abbrev N_law_lists : List Str := ["cells", "most", "found", "turn", "fixed", "at", "step", "last", "made", "place", "own"]
theorem sc_law_lists : FnScope N_law_lists ["cells", "most"] (defScope s_law_lists) := ⟨rfl, rfl, rfl, by decide +kernel, rfl, by decide +kernel, by decide +kernel⟩
abbrev s_law_prices : Stmt := topS 40
abbrev N_law_prices : List Str := ["sort", "cells", "columns", "found", "row", "price_told"]
theorem sc_law_prices : FnScope N_law_prices ["sort", "cells", "columns"] (defScope s_law_prices) := ⟨rfl, rfl, rfl, by decide +kernel, rfl, by decide +kernel, by decide +kernel⟩
abbrev s_law_kind : Stmt := topS 41
abbrev N_law_kind : List Str := ["generator"]
theorem sc_law_kind : FnScope N_law_kind ["generator"] (defScope s_law_kind) := ⟨rfl, rfl, rfl, by decide +kernel, rfl, by decide +kernel, by decide +kernel⟩
abbrev s_law_columns : Stmt := topS 42
abbrev N_law_columns : List Str := ["generator", "sort", "most"]
theorem sc_law_columns : FnScope N_law_columns ["generator", "sort", "most"] (defScope s_law_columns) := ⟨rfl, rfl, rfl, by decide +kernel, rfl, by decide +kernel, by decide +kernel⟩
abbrev s_law_least : Stmt := topS 43
abbrev N_law_least : List Str := ["lists", "size", "most", "place", "own"]
theorem sc_law_least : FnScope N_law_least ["lists", "size", "most"] (defScope s_law_least) := ⟨rfl, rfl, rfl, by decide +kernel, rfl, by decide +kernel, by decide +kernel⟩
abbrev s_law_right : Stmt := topS 44
abbrev N_law_right : List Str := ["generator", "sort", "lists", "due", "most", "columns", "size", "place"]
theorem sc_law_right : FnScope N_law_right ["generator"] (defScope s_law_right) := ⟨rfl, rfl, rfl, by decide +kernel, rfl, by decide +kernel, by decide +kernel⟩
abbrev s_law_great_right : Stmt := topS 45
abbrev N_law_great_right : List Str := ["generator", "columns", "told", "sort", "size", "least", "most"]
theorem sc_law_great_right : FnScope N_law_great_right ["generator"] (defScope s_law_great_right) := ⟨rfl, rfl, rfl, by decide +kernel, rfl, by decide +kernel, by decide +kernel⟩
abbrev s_law : Stmt := topS 46
abbrev N_law : List Str := ["script", "index", "told"]
theorem sc_law : FnScope N_law ["script"] (defScope s_law) := ⟨rfl, rfl, rfl, by decide +kernel, rfl, by decide +kernel, by decide +kernel⟩
/-! the mirrors -/
structure Cs where
  Walk : Addr
def c_KINDS : List PyData := [.str "over", .str "into", .str "whole"]
/-! def is_whole -/
def b_is_whole : SE :=
  (sRet (xAndV (xUn (isiD "int") (xVar 0)) (xUn notD (xUn (isiD "bool") (xVar 0)))))
def m_is_whole : XM := mOf 1 1 b_is_whole
/-! def is_from -/
def b_is_from : SE :=
  (sRet (xAndV (xFn m_is_whole (xaD (xVar 0) xaNil)) (xOp geD (xVar 0) (xVar 1))))
def m_is_from : XM := mOf 2 2 b_is_from
/-! def is_within -/
def b_is_within : SE :=
  (sRet (xAndV (xFn m_is_whole (xaD (xVar 0) xaNil)) (xChain leD leD (xVar 1) (xVar 0) (xVar 2))))
def m_is_within : XM := mOf 3 3 b_is_within
/-! def check_from -/
def b_check_from : SE :=
  (sIf (xNotT (xTruth (xFn m_is_from (xaD (xVar 0) (xaD (xVar 1) xaNil)))))
  sNever
  sNext)
def m_check_from : XM := mOf 2 2 b_check_from
/-! def is_kind -/
def b_is_kind : SE :=
  (sRet (xInT c_KINDS (xVar 0)))
def m_is_kind : XM := mOf 1 1 b_is_kind
/-! def check_kind -/
def b_check_kind : SE :=
  (sIf (xNotT (xTruth (xFn m_is_kind (xaD (xVar 0) xaNil))))
  sNever
  sNext)
def m_check_kind : XM := mOf 1 1 b_check_kind
/-! def bound_beside -/
def b_bound_beside : SE :=
  (sSeq (sIf (xBool (xOp neD (xVar 0) (xC (.str "into"))))
  (sRet (xOp shlD (xOp addD (xVar 1) (xC (.int 1))) (xVar 2)))
  sNext)
  (sRet (xIf (xBool (xOp gtD (xVar 2) (xC (.int 0)))) (xOp shlD (xOp addD (xVar 1) (xC (.int 1))) (xOp subD (xVar 2) (xC (.int 1)))) (xC (.int 0)))))
def m_bound_beside : XM := mOf 3 3 b_bound_beside
/-! def cells_beside -/
def b_cells_beside : SE :=
  (sRet (xOp fdivD (xOp subD (xVar 2) (xC (.int 1))) (xFn m_bound_beside (xaD (xVar 0) (xaD (xC (.int 0)) (xaD (xVar 1) xaNil))))))
def m_cells_beside : XM := mOf 3 3 b_cells_beside
/-! def fewest_empty -/
def b_fewest_empty : SE :=
  (sRet (xIf (xBool (xOp eqD (xVar 0) (xC (.str "into")))) (xC (.int 1)) (xC (.int 0))))
def m_fewest_empty : XM := mOf 1 1 b_fewest_empty
/-! def Walk__init -/
def b_Walk__init (Z : Cs) : SE :=
  (sSeq (sFldV Z.Walk "rows" (xrVar 0) (xrVar 1))
  (sSeq (sFldV Z.Walk "at" (xrVar 0) (xrD (xC (.int 0))))
  (sFldV Z.Walk "passed" (xrVar 0) (xrD (xC (.int 0))))))
def m_Walk__init (Z : Cs) : XM := mOfN 2 2 (b_Walk__init Z)
/-! def Walk_is_over -/
def b_Walk_is_over (Z : Cs) : SE :=
  (sRet (xOp eqD (xeD (xrFld Z.Walk "at" (xrVar 0))) (xLenV (xrFld Z.Walk "rows" (xrVar 0)))))
def m_Walk_is_over (Z : Cs) : XM := mOf 1 1 (b_Walk_is_over Z)
/-! def Walk_price -/
def b_Walk_price (Z : Cs) : SE :=
  (sRet (xeD (xrIx (xrIx (xrFld Z.Walk "rows" (xrVar 0)) (xeD (xrFld Z.Walk "at" (xrVar 0)))) (xC (.int 0)))))
def m_Walk_price (Z : Cs) : XM := mOf 1 1 (b_Walk_price Z)
/-! def Walk_left -/
def b_Walk_left (Z : Cs) : SE :=
  (sRet (xOp subD (xeD (xrIx (xrIx (xrFld Z.Walk "rows" (xrVar 0)) (xeD (xrFld Z.Walk "at" (xrVar 0)))) (xC (.int 1)))) (xeD (xrFld Z.Walk "passed" (xrVar 0)))))
def m_Walk_left (Z : Cs) : XM := mOf 1 1 (b_Walk_left Z)
/-! def Walk_go_on -/
def b_Walk_go_on (Z : Cs) : SE :=
  (sSeq (sFldAug Z.Walk "passed" (fun i j => i + j) (xrVar 0) (xVar 1))
  (sIf (xBool (xOp eqD (xMeth Z.Walk "left" (m_Walk_left Z) (xrVar 0) xaNil) (xC (.int 0))))
  (sSeq (sFldAug Z.Walk "at" (fun i j => i + j) (xrVar 0) (xC (.int 1)))
  (sFldV Z.Walk "passed" (xrVar 0) (xrD (xC (.int 0)))))
  sNext))
def m_Walk_go_on (Z : Cs) : XM := mOf 2 2 (b_Walk_go_on Z)
/-! def next_price -/
def b_next_price (Z : Cs) : SE :=
  (sSeq (sIf (xTruth (xCall anyD (xaD (xF (lcL (xrVar 0) (gLNm 1) xYes (xMeth Z.Walk "is_over" (m_Walk_is_over Z) (xrVar 1) xaNil) [1])) xaNil)))
  (sRet (xC .none))
  sNext)
  (sRet (xCall sumD (xaD (xF (lcL (xrVar 0) (gLNm 1) xYes (xMeth Z.Walk "price" (m_Walk_price Z) (xrVar 1) xaNil) [1])) xaNil))))
def m_next_price (Z : Cs) : XM := mOf 1 2 (b_next_price Z)
/-! def go_past -/
def b_go_past (Z : Cs) : SE :=
  (sSeq (sAsg (xC (.int 0)) (gNm 2))
  (sSeq (sWhile 1000000 (xBool (xOp eqD (xFn (m_next_price Z) (xaV (xrVar 0) xaNil)) (xVar 1)))
  (sSeq (sAsg (xCall minD (xaD (xF (lcL (xrVar 0) (gLNm 4) xYes (xMeth Z.Walk "left" (m_Walk_left Z) (xrVar 4) xaNil) [4])) xaNil)) (gNm 3))
  (sSeq (sForL (xrVar 0) (gLNm 4)
  (sDrop (xMeth Z.Walk "go_on" (m_Walk_go_on Z) (xrVar 4) (xaD (xVar 3) xaNil))))
  (sAug 2 (fun i j => i + j) (xVar 3)))))
  (sRet (xVar 2))))
def m_go_past (Z : Cs) : XM := mOf 2 5 (b_go_past Z)
/-! def first_list -/
def b_first_list (n0 : Nat) : SE :=
  (sRetF (fIf (xBool (xOp gtD (xVar 0) (xC (.int 0)))) (fLst (xaD (xCall tupD (xaD (xC (.int 1)) (xaD (xC (.int 1)) xaNil))) (xaD (xCall tupD (xaD (xC (.int 2)) (xaD (xVar 0) xaNil))) xaNil))) (fLst (xaD (xCall tupD (xaD (xC (.int 1)) (xaD (xC (.int 1)) xaNil))) xaNil))))
def m_first_list : XMF := mOfF 1 1 b_first_list
/-! def list_behind -/
def b_list_behind (Z : Cs) (n0 : Nat) : SE :=
  (sSeq (sOwn 1 (fLst xaNil))
  (sSeq (sAsgV 2 (xsLst (xaS (xNew Z.Walk (m_Walk__init Z) (xaV (xrVar 0) xaNil)) xaNil)))
  (sSeq (sAsgV 3 (xsLst (xaS (xNew Z.Walk (m_Walk__init Z) (xaO 1 xaNil)) (xaS (xNew Z.Walk (m_Walk__init Z) (xaV (xrVar 0) xaNil)) xaNil))))
  (sSeq (sAsg (xFn (m_next_price Z) (xaV (xrVar 2) xaNil)) (gNm 4))
  (sSeq (sWhile 1000000 (xBool (xOp (isD true) (xVar 4) (xC .none)))
  (sSeq (sApp 1 (xCall tupD (xaD (xVar 4) (xaD (xOp addD (xFn (m_go_past Z) (xaV (xrVar 2) (xaD (xVar 4) xaNil))) (xFn (m_go_past Z) (xaV (xrVar 3) (xaD (xVar 4) xaNil)))) xaNil))))
  (sSeq (sAsg (xF (lcD (iLst (xCall lstD (xaD (xFn (m_next_price Z) (xaV (xrVar 2) xaNil)) (xaD (xFn (m_next_price Z) (xaV (xrVar 3) xaNil)) xaNil)))) (gNm 6) (xBool (xOp (isD true) (xVar 6) (xC .none))) (xVar 6) [6])) (gNm 5))
  (sAsg (xCall minDefD (xaD (xVar 5) xaNil)) (gNm 4)))))
  (sRetO n0 1))))))
def m_list_behind (Z : Cs) : XMF := mOfF 1 7 (b_list_behind Z)
/-! def lists_to -/
def b_lists_to (Z : Cs) : SE :=
  (sSeq (sAsgV 2 (xsLst (xaS (xsOwn (fFn m_first_list (xaD (xVar 0) xaNil))) xaNil)))
  (sSeq (sWhile 1000000 (xBool (xOp ltD (xLenV (xrVar 2)) (xVar 1)))
  (sAppV (xrVar 2) (xsOwn (fFn (m_list_behind Z) (xaV (xrIx (xrVar 2) (xUn negD (xC (.int 1)))) xaNil)))))
  (sRetS (xsSl (xrVar 2) oNone (oSome (xVar 1))))))
def m_lists_to (Z : Cs) : XMS := mOfS 2 3 (b_lists_to Z)
/-! def told_together -/
def b_told_together (n0 : Nat) : SE :=
  (sSeq (sAsgV 1 xsDictK)
  (sSeq (sFor (iLst (xVar 0)) (gNm 2)
  (sFor (iLst (xVar 2)) (gTp 2 (gsCons (gNm 3) (gsCons (gNm 4) gsNil)))
  (sPutK (xrVar 1) (xVar 3) (xOp addD (xGet2 (xrVar 1) (xVar 3) (xC (.int 0))) (xVar 4)))))
  (sRetF (fSortItems (xrVar 1)))))
def m_told_together : XMF := mOfF 1 5 b_told_together
/-! def rows_beside -/
def b_rows_beside (Z : Cs) (n0 : Nat) : SE :=
  (sSeq (sIf (xBool (xOp eqD (xVar 0) (xC (.str "into"))))
  (sRetV n0 (xrIx (xsFn (m_lists_to Z) (xaS (xrD (xVar 1)) (xaS (xrD (xVar 2)) xaNil))) (xUn negD (xC (.int 1)))))
  sNext)
  (sSeq (sIf (xBool (xOp eqD (xVar 0) (xC (.str "whole"))))
  (sRetV n0 (xrIx (xsFn (m_lists_to Z) (xaS (xrD (xVar 1)) (xaS (xrD (xOp addD (xVar 2) (xC (.int 1)))) xaNil))) (xUn negD (xC (.int 1)))))
  sNext)
  (sSeq (sAsg (xF (lcLS (xsFn (m_lists_to Z) (xaS (xrD (xVar 1)) (xaS (xrD (xVar 2)) xaNil))) (gLNm 4) xYes (xF (lcL (xrVar 4) (gLD (gTp 2 (gsCons (gNm 5) (gsCons (gNm 6) gsNil)))) xYes (xCall tupD (xaD (xOp mulD (xC (.int 2)) (xVar 5)) (xaD (xVar 6) xaNil))) [5, 6])) [4])) (gNm 3))
  (sRetF (fFn m_told_together (xaD (xOp addD (xCall lstD (xaD (xF (fFn m_first_list (xaD (xVar 1) xaNil))) xaNil)) (xVar 3)) xaNil))))))
def m_rows_beside (Z : Cs) : XMF := mOfF 3 7 (b_rows_beside Z)
/-! def sum_of_least -/
def b_sum_of_least : SE :=
  (sSeq (sAsg (xC (.int 0)) (gNm 2))
  (sSeq (sFor (iLst (xVar 0)) (gTp 2 (gsCons (gNm 3) (gsCons (gNm 4) gsNil)))
  (sSeq (sAsg (xCall minD (xaD (xVar 4) (xaD (xVar 1) xaNil))) (gNm 5))
  (sSeq (sAug 2 (fun i j => i + j) (xOp mulD (xVar 3) (xVar 5)))
  (sAug 1 (fun i j => i - j) (xVar 5)))))
  (sRet (xIf (xBool (xOp eqD (xVar 1) (xC (.int 0)))) (xVar 2) (xC .none)))))
def m_sum_of_least : XM := mOf 2 6 b_sum_of_least
/-! def check_beside -/
def b_check_beside : SE :=
  (sSeq (sDrop (xFn m_check_kind (xaD (xVar 0) xaNil)))
  (sSeq (sDrop (xFn m_check_from (xaD (xVar 1) (xaD (xC (.int 0)) xaNil))))
  (sDrop (xFn m_check_from (xaD (xVar 2) (xaD (xFn m_fewest_empty (xaD (xVar 0) xaNil)) xaNil))))))
def m_check_beside : XM := mOf 3 3 b_check_beside
/-! def fewest -/
def b_fewest (Z : Cs) : SE :=
  (sSeq (sDrop (xFn m_check_beside (xaD (xVar 0) (xaD (xVar 1) (xaD (xVar 2) xaNil)))))
  (sSeq (sDrop (xFn m_check_from (xaD (xVar 3) (xaD (xC (.int 1)) xaNil))))
  (sRet (xFn m_sum_of_least (xaD (xF (fFn (m_rows_beside Z) (xaD (xVar 0) (xaD (xVar 1) (xaD (xVar 2) xaNil))))) (xaD (xVar 3) xaNil))))))
def m_fewest (Z : Cs) : XM := mOf 4 4 (b_fewest Z)
/-! def check_columns -/
def b_check_columns : SE :=
  (sSeq (sDrop (xFn m_check_kind (xaD (xVar 0) xaNil)))
  (sSeq (sAsg (xIf (xBool (xOp eqD (xVar 0) (xC (.str "whole")))) (xOp subD (xC (.int 7)) (xC (.int 1))) (xC (.int 7))) (gNm 2))
  (sIf (xNotT (xTruth (xFn m_is_within (xaD (xVar 1) (xaD (xFn m_fewest_empty (xaD (xVar 0) xaNil)) (xaD (xVar 2) xaNil))))))
  sNever
  sNext)))
def m_check_columns : XM := mOf 2 3 b_check_columns
/-! def cells_for -/
def b_cells_for : SE :=
  (sSeq (sDrop (xFn m_check_columns (xaD (xVar 0) (xaD (xVar 1) xaNil))))
  (sSeq (sDrop (xFn m_check_from (xaD (xVar 2) (xaD (xC (.int 1)) xaNil))))
  (sRet (xFn m_cells_beside (xaD (xVar 0) (xaD (xVar 1) (xaD (xVar 2) xaNil)))))))
def m_cells_for : XM := mOf 3 3 b_cells_for
/-! def cells_within -/
def b_cells_within (Z : Cs) : SE :=
  (sSeq (sDrop (xFn m_check_columns (xaD (xVar 0) (xaD (xVar 1) xaNil))))
  (sSeq (sDrop (xFn m_check_from (xaD (xVar 2) (xaD (xC (.int 1)) xaNil))))
  (sSeq (sDrop (xFn m_check_from (xaD (xVar 3) (xaD (xC (.int 0)) xaNil))))
  (sSeq (sIf (xBool (xOp ltD (xVar 3) (xOp subD (xOp mulD (xC (.int 2)) (xVar 2)) (xC (.int 1)))))
  (sRet (xC .none))
  sNext)
  (sSeq (sPar 4 5 (xFn m_cells_beside (xaD (xVar 0) (xaD (xVar 1) (xaD (xVar 2) xaNil)))) (xOp subD (xVar 2) (xC (.int 1))))
  (sSeq (sWhile 1000000 (xBool (xOp ltD (xVar 4) (xVar 5)))
  (sSeq (sAsg (xOp fdivD (xOp addD (xVar 4) (xVar 5)) (xC (.int 2))) (gNm 6))
  (sIf (xBool (xOp leD (xFn m_sum_of_least (xaD (xF (fFn (m_rows_beside Z) (xaD (xVar 0) (xaD (xVar 6) (xaD (xVar 1) xaNil))))) (xaD (xVar 2) xaNil))) (xVar 3)))
  (sAsg (xVar 6) (gNm 5))
  (sAsg (xOp addD (xVar 6) (xC (.int 1))) (gNm 4)))))
  (sRet (xVar 4))))))))
def m_cells_within (Z : Cs) : XM := mOf 4 7 (b_cells_within Z)
/-! def law_hash -/
def b_law_hash : SE :=
  (sSeq (sAsg (xOp modD (xCall intD (xaD (xOp addD (xOp addD (xOp addD (xOp mulD (xVar 0) (xC (.int 1140671))) (xOp mulD (xOp mulD (xC (.int 27644437)) (xVar 1)) (xVar 1))) (xOp mulD (xC (.int 131)) (xVar 1))) (xC (.int 19))) xaNil)) (xC (.int 2147483629))) (gNm 2))
  (sSeq (sAsg (xOp modD (xCall intD (xaD (xOp addD (xOp addD (xOp mulD (xVar 2) (xVar 2)) (xOp mulD (xC (.int 62089)) (xVar 1))) (xC (.int 32416187))) xaNil)) (xC (.int 2147483587))) (gNm 2))
  (sRet (xOp modD (xCall intD (xaD (xOp mulD (xVar 2) (xC (.int 48271))) xaNil)) (xC (.int 2147483647))))))
def m_law_hash : XM := mOf 2 3 b_law_hash
/-! def law_random -/
def b_law_random : SE :=
  (sSeq (sIf (xBool (xOp gtD (xIxO 0 (xC (.int 0))) (xC (.int 0))))
  (sSeq (sAsg (xOp modD (xCall intD (xaD (xIxO 0 (xC (.int 0))) xaNil)) (xVar 1)) (gNm 2))
  (sSeq (sSet 0 (xC (.int 0)) (xOp fdivD (xIxO 0 (xC (.int 0))) (xVar 1)))
  (sRet (xVar 2))))
  sNext)
  (sSeq (sAsg (xC (.int 0)) (gNm 2))
  (sSeq (sFor (iRg (xaD (xOp addD (xC (.int 1)) (xOp fdivD (xUn bitsD (xVar 1)) (xC (.int 30)))) xaNil)) (gNm 3)
  (sSeq (sSet 0 (xC (.int 2)) (xOp addD (xIxO 0 (xC (.int 2))) (xC (.int 1))))
  (sAsg (xOp addD (xOp mulD (xVar 2) (xC (.int 2147483587))) (xFn m_law_hash (xaD (xIxO 0 (xC (.int 1))) (xaD (xIxO 0 (xC (.int 2))) xaNil)))) (gNm 2))))
  (sRet (xOp modD (xCall intD (xaD (xVar 2) xaNil)) (xVar 1))))))
def m_law_random : XM := mOf 2 4 b_law_random
/-! def law_cell -/
def b_law_cell : SE :=
  (sSeq (sIf (xBool (xOp ltD (xVar 1) (xCall lenD (xaD (xVar 0) xaNil))))
  (sRet (xOp ixD (xVar 0) (xVar 1)))
  sNext)
  (sRet (xOp modD (xCall sumD (xaD (xF (xSl (xVar 0) oNone (oSome (xC (.int 1))))) xaNil)) (xC (.int 1000003)))))
def m_law_cell : XM := mOf 2 2 b_law_cell
/-! def law_generator -/
def b_law_generator (n0 : Nat) : SE :=
  (sSeq (sAsg (xFn m_law_cell (xaD (xVar 0) (xaD (xVar 1) xaNil))) (gNm 2))
  (sRetF (fLst (xaD (xOp modD (xCall intD (xaD (xCall maxD (xaD (xOp subD (xVar 2) (xOp powD (xC (.int 10)) (xC (.int 18)))) (xaD (xC (.int 0)) xaNil))) xaNil)) (xOp powD (xOp powD (xC (.int 10)) (xC (.int 60))) (xC (.int 10)))) (xaD (xOp modD (xCall intD (xaD (xVar 2) xaNil)) (xC (.int 2147483647))) (xaD (xOp mulD (xC (.int 1000)) (xVar 1)) xaNil))))))
def m_law_generator : XMF := mOfF 2 3 b_law_generator
/-! def law_lists -/
def b_law_lists : SE :=
  (sSeq (sOwn 2 (fLst (xaD (xOp addD (xCall lstD (xaD (xC (.int 1)) xaNil)) (xF (fRep (fLst (xaD (xC (.int 2)) xaNil)) (xVar 0)))) xaNil)))
  (sSeq (sFor (iRg (xaD (xC (.int 1)) (xaD (xVar 1) xaNil))) (gNm 3)
  (sSeq (sAsg (xOp addD (xCall lstD (xaD (xC (.int 1)) xaNil)) (xF (fRep (fLst (xaD (xC (.int 2)) xaNil)) (xVar 0)))) (gNm 4))
  (sSeq (sFor (iRg (xaD (xC (.int 1)) (xaD (xLenO 2) xaNil))) (gNm 5)
  (sAsg (xOp addD (xVar 4) (xF (lcD (iRg (xaD (xCall lenD (xaD (xIxO 2 (xOp subD (xVar 5) (xC (.int 1)))) xaNil)) xaNil)) (gNm 9) xYes (xOp addD (xOp ixD (xIxO 2 (xVar 5)) (xVar 9)) (xOp ixD (xIxO 2 (xOp subD (xVar 5) (xC (.int 1)))) (xVar 9))) [9]))) (gNm 4)))
  (sSeq (sTupV [4, 7, 8, 5, 9] (xaS (xrD (xCall sortedD (xaD (xVar 4) xaNil))) (xaS (xrD (xIxO 2 (xUn negD (xC (.int 1))))) (xaS (xsOwn (fLst xaNil)) (xaS (xrD (xC (.int 0))) (xaS (xrD (xC (.int 0))) xaNil))))))
  (sSeq (sFor (iRg (xaD (xOp addD (xCall lenD (xaD (xVar 4) xaNil)) (xCall lenD (xaD (xVar 7) xaNil))) xaNil)) (gNm 6)
  (sSeq (sAsg (xIf (xAndT (xBool (xOp ltD (xVar 9) (xCall lenD (xaD (xVar 7) xaNil)))) (xBool (xOp ltD (xVar 9) (xLenO 8)))) (xOp addD (xIxO 8 (xVar 9)) (xOp ixD (xVar 7) (xVar 9))) (xC .none)) (gNm 10))
  (sIf (xOrT (xBool (xOp (isD false) (xVar 10) (xC .none))) (xAndT (xBool (xOp ltD (xVar 5) (xCall lenD (xaD (xVar 4) xaNil)))) (xBool (xOp leD (xOp ixD (xVar 4) (xVar 5)) (xVar 10)))))
  (sSeq (sApp 8 (xOp ixD (xVar 4) (xVar 5)))
  (sAsg (xOp addD (xVar 5) (xC (.int 1))) (gNm 5)))
  (sSeq (sApp 8 (xVar 10))
  (sAsg (xOp addD (xVar 9) (xC (.int 1))) (gNm 9))))))
  (sFrz 8 (sApp 2 (xVar 8))))))))
  (sFrz 2 (sRet (xVar 2)))))
def m_law_lists : XM := mOf 2 11 b_law_lists
/-! def law_prices -/
def b_law_prices : SE :=
  (sSeq (sIf (xBool (xOp eqD (xVar 0) (xC (.str "over"))))
  (sSeq (sAsg (xOp addD (xCall lstD (xaD (xC (.int 1)) xaNil)) (xF (fRep (fLst (xaD (xC (.int 2)) xaNil)) (xVar 1)))) (gNm 3))
  (sSeq (sFor (iLst (xIf (xBool (xOp gtD (xVar 2) (xC (.int 0)))) (xFn m_law_lists (xaD (xVar 1) (xaD (xVar 2) xaNil))) (xCall lstD xaNil))) (gNm 4)
  (sAsg (xOp addD (xVar 3) (xF (lcD (iLst (xVar 4)) (gNm 5) xYes (xOp mulD (xC (.int 2)) (xVar 5)) [5]))) (gNm 3)))
  (sRet (xCall sortedD (xaD (xVar 3) xaNil)))))
  sNext)
  (sRet (xOp ixD (xFn m_law_lists (xaD (xVar 1) (xaD (xIf (xBool (xOp eqD (xVar 0) (xC (.str "into")))) (xVar 2) (xOp addD (xVar 2) (xC (.int 1)))) xaNil))) (xUn negD (xC (.int 1))))))
def m_law_prices : XM := mOf 3 6 b_law_prices
/-! def law_kind -/
def b_law_kind : SE :=
  (sRet (xOp ixD (xCall lstD (xaD (xC (.str "over")) (xaD (xC (.str "into")) (xaD (xC (.str "whole")) xaNil)))) (xFn m_law_random (xaO 0 (xaD (xC (.int 3)) xaNil)))))
def m_law_kind : XM := mOf 1 1 b_law_kind
/-! def law_columns -/
def b_law_columns : SE :=
  (sRet (xOp addD (xFn m_law_random (xaO 0 (xaD (xVar 2) xaNil))) (xIf (xBool (xOp eqD (xVar 1) (xC (.str "into")))) (xC (.int 1)) (xC (.int 0)))))
def m_law_columns : XM := mOf 3 3 b_law_columns
/-! def law_least -/
def b_law_least : SE :=
  (sSeq (sFor (iEn (xaD (xVar 0) xaNil)) (gTp 2 (gsCons (gNm 3) (gsCons (gNm 4) gsNil)))
  (sIf (xAndT (xBool (xOp geD (xCall lenD (xaD (xVar 4) xaNil)) (xVar 1))) (xOrT (xBool (xOp (isD false) (xVar 2) (xC .none))) (xBool (xOp leD (xCall sumD (xaD (xF (xSl (xVar 4) oNone (oSome (xVar 1)))) xaNil)) (xVar 2)))))
  (sRet (xVar 3))
  sNext))
  (sRet (xC .none)))
def m_law_least : XM := mOf 3 5 b_law_least
/-! def law_right -/
def b_law_right (Z : Cs) : SE :=
  (sSeq (sAsg (xFn m_law_kind (xaO 0 xaNil)) (gNm 1))
  (sSeq (sTupV [5, 6] (xaS (xrD (xFn m_law_columns (xaO 0 (xaD (xVar 1) (xaD (xC (.int 3)) xaNil))))) (xaS (xrD (xOp addD (xC (.int 1)) (xFn m_law_random (xaO 0 (xaD (xC (.int 9)) xaNil))))) xaNil)))
  (sSeq (sAsg (xF (lcD (iRg (xaD (xOp addD (xVar 6) (xC (.int 1))) xaNil)) (gNm 7) xYes (xFn m_law_prices (xaD (xVar 1) (xaD (xVar 7) (xaD (xVar 5) xaNil)))) [7])) (gNm 2))
  (sSeq (sAsg (xFn m_law_least (xaD (xVar 2) (xaD (xVar 6) (xaD (xC .none) xaNil)))) (gNm 3))
  (sSeq (sIf (xBool (xOp neD (xCall reprD (xaD (xCall lstD (xaD (xFn m_cells_for (xaD (xVar 1) (xaD (xVar 5) (xaD (xVar 6) xaNil)))) (xaD (xFn (fun ss => m_cells_for (pmI [2, 1, 0] ss)) (xaD (xVar 6) (xaD (xVar 5) (xaD (xVar 1) xaNil)))) xaNil))) xaNil)) (xCall reprD (xaD (xCall lstD (xaD (xVar 3) (xaD (xVar 3) xaNil))) xaNil))))
  (sRet (xC (.bool false)))
  sNext)
  (sSeq (sFor (iLst (xCall lstD (xaD (xFn m_law_random (xaO 0 (xaD (xOp mulD (xC (.int 6)) (xVar 6)) xaNil))) (xaD (xOp subD (xOp mulD (xC (.int 2)) (xVar 6)) (xC (.int 1))) (xaD (xOp subD (xOp mulD (xC (.int 2)) (xVar 6)) (xC (.int 2))) xaNil))))) (gNm 4)
  (sSeq (sAsg (xFn m_law_least (xaD (xVar 2) (xaD (xVar 6) (xaD (xVar 4) xaNil)))) (gNm 3))
  (sSeq (sIf (xBool (xOp neD (xCall reprD (xaD (xCall lstD (xaD (xFn (m_cells_within Z) (xaD (xVar 1) (xaD (xVar 5) (xaD (xVar 6) (xaD (xVar 4) xaNil))))) (xaD (xFn (fun ss => (m_cells_within Z) (pmI [3, 2, 1, 0] ss)) (xaD (xVar 4) (xaD (xVar 6) (xaD (xVar 5) (xaD (xVar 1) xaNil))))) xaNil))) xaNil)) (xCall reprD (xaD (xCall lstD (xaD (xVar 3) (xaD (xVar 3) xaNil))) xaNil))))
  (sRet (xC (.bool false)))
  sNext)
  (sIf (xBool (xOp neD (xOp (isD false) (xVar 3) (xC .none)) (xOp ltD (xVar 4) (xOp subD (xOp mulD (xC (.int 2)) (xVar 6)) (xC (.int 1))))))
  (sRet (xC (.bool false)))
  sNext))))
  (sRet (xC (.bool true)))))))))
def m_law_right (Z : Cs) : XM := mOf 1 8 (b_law_right Z)
/-! def law_great_right -/
def b_law_great_right (Z : Cs) : SE :=
  (sSeq (sPar 3 4 (xFn m_law_kind (xaO 0 xaNil)) (xOp addD (xC (.int 1)) (xFn m_law_random (xaO 0 (xaD (xOp powD (xC (.int 10)) (xC (.int 29))) xaNil)))))
  (sSeq (sAsg (xFn m_law_columns (xaO 0 (xaD (xVar 3) (xaD (xC (.int 4)) xaNil)))) (gNm 1))
  (sSeq (sPar 5 6 (xFn m_cells_for (xaD (xVar 3) (xaD (xVar 1) (xaD (xVar 4) xaNil)))) (xOp addD (xOp subD (xOp mulD (xC (.int 2)) (xVar 4)) (xC (.int 1))) (xFn m_law_random (xaO 0 (xaD (xOp mulD (xC (.int 3)) (xVar 4)) xaNil)))))
  (sSeq (sIf (xOrT (xBool (xOp (isD false) (xFn (m_fewest Z) (xaD (xVar 3) (xaD (xVar 5) (xaD (xVar 1) (xaD (xVar 4) xaNil))))) (xC .none))) (xAndT (xBool (xOp gtD (xVar 5) (xC (.int 0)))) (xBool (xOp (isD true) (xFn (m_fewest Z) (xaD (xVar 3) (xaD (xOp subD (xVar 5) (xC (.int 1))) (xaD (xVar 1) (xaD (xVar 4) xaNil))))) (xC .none)))))
  (sRet (xC (.bool false)))
  sNext)
  (sSeq (sAsg (xFn (m_cells_within Z) (xaD (xVar 3) (xaD (xVar 1) (xaD (xVar 4) (xaD (xVar 6) xaNil))))) (gNm 2))
  (sSeq (sIf (xOrT (xBool (xOp ltD (xVar 2) (xVar 5))) (xOrT (xBool (xOp gtD (xFn (m_fewest Z) (xaD (xVar 3) (xaD (xVar 2) (xaD (xVar 1) (xaD (xVar 4) xaNil))))) (xVar 6))) (xBool (xOp (isD true) (xFn (m_cells_within Z) (xaD (xVar 3) (xaD (xVar 1) (xaD (xVar 4) (xaD (xOp subD (xOp mulD (xC (.int 2)) (xVar 4)) (xC (.int 2))) xaNil))))) (xC .none)))))
  (sRet (xC (.bool false)))
  sNext)
  (sRet (xOrV (xOp eqD (xVar 2) (xVar 5)) (xOp gtD (xFn (m_fewest Z) (xaD (xVar 3) (xaD (xOp subD (xVar 2) (xC (.int 1))) (xaD (xVar 1) (xaD (xVar 4) xaNil))))) (xVar 6))))))))))
def m_law_great_right (Z : Cs) : XM := mOf 1 7 (b_law_great_right Z)
/-! def law -/
def b_law (Z : Cs) : SE :=
  (sSeq (sFor (iRg (xaD (xC (.int 3)) xaNil)) (gNm 1)
  (sIf (xNotT (xTruth (xFnN (m_law_right Z) (fFn m_law_generator (xaD (xVar 0) (xaD (xVar 1) xaNil))) xaNil)))
  (sRet (xC (.bool false)))
  sNext))
  (sSeq (sAsg (xCall lstD (xaD (xFn (m_cells_within Z) (xaD (xC (.str "over")) (xaD (xC (.int 5)) (xaD (xC (.int 10)) (xaD (xC (.int 25)) xaNil))))) (xaD (xFn (m_cells_within Z) (xaD (xC (.str "over")) (xaD (xC (.int 5)) (xaD (xC (.int 10)) (xaD (xC (.int 27)) xaNil))))) (xaD (xFn (m_cells_within Z) (xaD (xC (.str "over")) (xaD (xC (.int 5)) (xaD (xC (.int 10)) (xaD (xC (.int 26)) xaNil))))) (xaD (xFn (m_cells_within Z) (xaD (xC (.str "over")) (xaD (xC (.int 6)) (xaD (xC (.int 20)) (xaD (xC (.int 60)) xaNil))))) (xaD (xFn (m_cells_within Z) (xaD (xC (.str "into")) (xaD (xC (.int 7)) (xaD (xC (.int 30)) (xaD (xC (.int 120)) xaNil))))) xaNil)))))) (gNm 2))
  (sSeq (sIf (xBool (xOp neD (xCall reprD (xaD (xVar 2) xaNil)) (xCall reprD (xaD (xCall lstD (xaD (xC (.int 1)) (xaD (xC (.int 0)) (xaD (xC (.int 1)) (xaD (xC (.int 3)) (xaD (xC (.int 1)) xaNil)))))) xaNil))))
  (sRet (xC (.bool false)))
  sNext)
  (sSeq (sAsg (xCall lstD (xaD (xFn m_cells_for (xaD (xC (.str "over")) (xaD (xC (.int 2)) (xaD (xC (.int 20)) xaNil)))) (xaD (xFn m_cells_for (xaD (xC (.str "into")) (xaD (xC (.int 1)) (xaD (xC (.int 7)) xaNil)))) (xaD (xFn m_cells_for (xaD (xC (.str "over")) (xaD (xC (.int 3)) (xaD (xC (.int 1)) xaNil)))) (xaD (xFn (m_cells_within Z) (xaD (xC (.str "over")) (xaD (xC (.int 2)) (xaD (xC (.int 20)) (xaD (xC (.int 81)) xaNil))))) (xaD (xFn (m_cells_within Z) (xaD (xC (.str "over")) (xaD (xC (.int 2)) (xaD (xC (.int 20)) (xaD (xC (.int 80)) xaNil))))) xaNil)))))) (gNm 2))
  (sSeq (sAsg (xOp addD (xVar 2) (xCall lstD (xaD (xFn (m_cells_within Z) (xaD (xC (.str "over")) (xaD (xC (.int 2)) (xaD (xC (.int 20)) (xaD (xC (.int 38)) xaNil))))) (xaD (xFn (m_cells_within Z) (xaD (xC (.str "over")) (xaD (xC (.int 2)) (xaD (xC (.int 20)) (xaD (xC (.int 39)) xaNil))))) (xaD (xFn (m_cells_within Z) (xaD (xC (.str "over")) (xaD (xC (.int 0)) (xaD (xOp powD (xC (.int 10)) (xC (.int 29))) (xaD (xOp mulD (xC (.int 2)) (xOp powD (xC (.int 10)) (xC (.int 29)))) xaNil))))) xaNil))))) (gNm 2))
  (sRet (xAndV (xOp eqD (xCall reprD (xaD (xVar 2) xaNil)) (xCall reprD (xaD (xCall lstD (xaD (xC (.int 4)) (xaD (xC (.int 6)) (xaD (xC (.int 0)) (xaD (xC (.int 4)) (xaD (xC (.int 5)) (xaD (xC .none) (xaD (xC (.int 17)) (xaD (xOp subD (xOp powD (xC (.int 10)) (xC (.int 29))) (xC (.int 1))) xaNil))))))))) xaNil))) (xFnN (m_law_great_right Z) (fFn m_law_generator (xaD (xVar 0) (xaD (xC (.int 3)) xaNil))) xaNil))))))))
def m_law (Z : Cs) : XM := mOf 1 3 (b_law Z)
/-! what stands at the top -/
structure Tx (K : PySem.W.Frag) (w : World) (mg : Str → Option Value) where
  Z : Cs
  cl_Walk : Cls K Z.Walk
  mg_Walk : mg "Walk" = some (.ref Z.Walk)
  na_Walk_rows : NoAttr K Z.Walk "rows"
  na_Walk_at : NoAttr K Z.Walk "at"
  na_Walk_passed : NoAttr K Z.Walk "passed"
  f_is_whole : Addr
  d_is_whole : FuncData
  F_is_whole : Fun K "is_whole" "is_whole" s_is_whole f_is_whole d_is_whole
  b_is_whole : Binds K d_is_whole ["value"] []
  m_is_whole : mg "is_whole" = some (.ref f_is_whole)
  f_is_from : Addr
  d_is_from : FuncData
  F_is_from : Fun K "is_from" "is_from" s_is_from f_is_from d_is_from
  b_is_from : Binds K d_is_from ["value", "low"] []
  m_is_from : mg "is_from" = some (.ref f_is_from)
  f_is_within : Addr
  d_is_within : FuncData
  F_is_within : Fun K "is_within" "is_within" s_is_within f_is_within d_is_within
  b_is_within : Binds K d_is_within ["value", "low", "high"] []
  m_is_within : mg "is_within" = some (.ref f_is_within)
  f_check_from : Addr
  d_check_from : FuncData
  F_check_from : Fun K "check_from" "check_from" s_check_from f_check_from d_check_from
  b_check_from : Binds K d_check_from ["value", "low"] []
  m_check_from : mg "check_from" = some (.ref f_check_from)
  f_is_kind : Addr
  d_is_kind : FuncData
  F_is_kind : Fun K "is_kind" "is_kind" s_is_kind f_is_kind d_is_kind
  b_is_kind : Binds K d_is_kind ["value"] []
  m_is_kind : mg "is_kind" = some (.ref f_is_kind)
  f_check_kind : Addr
  d_check_kind : FuncData
  F_check_kind : Fun K "check_kind" "check_kind" s_check_kind f_check_kind d_check_kind
  b_check_kind : Binds K d_check_kind ["kind"] []
  m_check_kind : mg "check_kind" = some (.ref f_check_kind)
  f_bound_beside : Addr
  d_bound_beside : FuncData
  F_bound_beside : Fun K "bound_beside" "bound_beside" s_bound_beside f_bound_beside d_bound_beside
  b_bound_beside : Binds K d_bound_beside ["kind", "cells", "empty"] []
  m_bound_beside : mg "bound_beside" = some (.ref f_bound_beside)
  f_cells_beside : Addr
  d_cells_beside : FuncData
  F_cells_beside : Fun K "cells_beside" "cells_beside" s_cells_beside f_cells_beside d_cells_beside
  b_cells_beside : Binds K d_cells_beside ["kind", "empty", "longest"] []
  m_cells_beside : mg "cells_beside" = some (.ref f_cells_beside)
  f_fewest_empty : Addr
  d_fewest_empty : FuncData
  F_fewest_empty : Fun K "fewest_empty" "fewest_empty" s_fewest_empty f_fewest_empty d_fewest_empty
  b_fewest_empty : Binds K d_fewest_empty ["kind"] []
  m_fewest_empty : mg "fewest_empty" = some (.ref f_fewest_empty)
  f_Walk__init : Addr
  d_Walk__init : FuncData
  F_Walk__init : Fun K "__init__" "Walk.__init__" s_Walk__init f_Walk__init d_Walk__init
  b_Walk__init : Binds K d_Walk__init ["self", "rows"] []
  mk_Walk : Mk K Z.Walk f_Walk__init
  f_Walk_is_over : Addr
  d_Walk_is_over : FuncData
  F_Walk_is_over : Fun K "is_over" "Walk.is_over" s_Walk_is_over f_Walk_is_over d_Walk_is_over
  b_Walk_is_over : Binds K d_Walk_is_over ["self"] []
  me_Walk_is_over : Meth K Z.Walk "is_over" f_Walk_is_over
  f_Walk_price : Addr
  d_Walk_price : FuncData
  F_Walk_price : Fun K "price" "Walk.price" s_Walk_price f_Walk_price d_Walk_price
  b_Walk_price : Binds K d_Walk_price ["self"] []
  me_Walk_price : Meth K Z.Walk "price" f_Walk_price
  f_Walk_left : Addr
  d_Walk_left : FuncData
  F_Walk_left : Fun K "left" "Walk.left" s_Walk_left f_Walk_left d_Walk_left
  b_Walk_left : Binds K d_Walk_left ["self"] []
  me_Walk_left : Meth K Z.Walk "left" f_Walk_left
  f_Walk_go_on : Addr
  d_Walk_go_on : FuncData
  F_Walk_go_on : Fun K "go_on" "Walk.go_on" s_Walk_go_on f_Walk_go_on d_Walk_go_on
  b_Walk_go_on : Binds K d_Walk_go_on ["self", "many"] []
  me_Walk_go_on : Meth K Z.Walk "go_on" f_Walk_go_on
  f_next_price : Addr
  d_next_price : FuncData
  F_next_price : Fun K "next_price" "next_price" s_next_price f_next_price d_next_price
  b_next_price : Binds K d_next_price ["walks"] []
  m_next_price : mg "next_price" = some (.ref f_next_price)
  f_go_past : Addr
  d_go_past : FuncData
  F_go_past : Fun K "go_past" "go_past" s_go_past f_go_past d_go_past
  b_go_past : Binds K d_go_past ["walks", "price"] []
  m_go_past : mg "go_past" = some (.ref f_go_past)
  f_first_list : Addr
  d_first_list : FuncData
  F_first_list : Fun K "first_list" "first_list" s_first_list f_first_list d_first_list
  b_first_list : Binds K d_first_list ["cells"] []
  m_first_list : mg "first_list" = some (.ref f_first_list)
  f_list_behind : Addr
  d_list_behind : FuncData
  F_list_behind : Fun K "list_behind" "list_behind" s_list_behind f_list_behind d_list_behind
  b_list_behind : Binds K d_list_behind ["shorter"] []
  m_list_behind : mg "list_behind" = some (.ref f_list_behind)
  f_lists_to : Addr
  d_lists_to : FuncData
  F_lists_to : Fun K "lists_to" "lists_to" s_lists_to f_lists_to d_lists_to
  b_lists_to : Binds K d_lists_to ["cells", "last"] []
  m_lists_to : mg "lists_to" = some (.ref f_lists_to)
  f_told_together : Addr
  d_told_together : FuncData
  F_told_together : Fun K "told_together" "told_together" s_told_together f_told_together d_told_together
  b_told_together : Binds K d_told_together ["lists"] []
  m_told_together : mg "told_together" = some (.ref f_told_together)
  f_rows_beside : Addr
  d_rows_beside : FuncData
  F_rows_beside : Fun K "rows_beside" "rows_beside" s_rows_beside f_rows_beside d_rows_beside
  b_rows_beside : Binds K d_rows_beside ["kind", "cells", "empty"] []
  m_rows_beside : mg "rows_beside" = some (.ref f_rows_beside)
  f_sum_of_least : Addr
  d_sum_of_least : FuncData
  F_sum_of_least : Fun K "sum_of_least" "sum_of_least" s_sum_of_least f_sum_of_least d_sum_of_least
  b_sum_of_least : Binds K d_sum_of_least ["rows", "many"] []
  m_sum_of_least : mg "sum_of_least" = some (.ref f_sum_of_least)
  f_check_beside : Addr
  d_check_beside : FuncData
  F_check_beside : Fun K "check_beside" "check_beside" s_check_beside f_check_beside d_check_beside
  b_check_beside : Binds K d_check_beside ["kind", "cells", "empty"] []
  m_check_beside : mg "check_beside" = some (.ref f_check_beside)
  f_fewest : Addr
  d_fewest : FuncData
  F_fewest : Fun K "fewest" "fewest" s_fewest f_fewest d_fewest
  b_fewest : Binds K d_fewest ["kind", "cells", "empty", "many"] []
  m_fewest : mg "fewest" = some (.ref f_fewest)
  f_check_columns : Addr
  d_check_columns : FuncData
  F_check_columns : Fun K "check_columns" "check_columns" s_check_columns f_check_columns d_check_columns
  b_check_columns : Binds K d_check_columns ["kind", "empty"] []
  m_check_columns : mg "check_columns" = some (.ref f_check_columns)
  f_cells_for : Addr
  d_cells_for : FuncData
  F_cells_for : Fun K "cells_for" "cells_for" s_cells_for f_cells_for d_cells_for
  b_cells_for : Binds K d_cells_for ["kind", "empty", "many"] []
  m_cells_for : mg "cells_for" = some (.ref f_cells_for)
  f_cells_within : Addr
  d_cells_within : FuncData
  F_cells_within : Fun K "cells_within" "cells_within" s_cells_within f_cells_within d_cells_within
  b_cells_within : Binds K d_cells_within ["kind", "empty", "many", "steps"] []
  m_cells_within : mg "cells_within" = some (.ref f_cells_within)
  f_law_hash : Addr
  d_law_hash : FuncData
  F_law_hash : Fun K "_law_hash" "_law_hash" s_law_hash f_law_hash d_law_hash
  b_law_hash : Binds K d_law_hash ["seed", "index"] []
  m_law_hash : mg "_law_hash" = some (.ref f_law_hash)
  f_law_random : Addr
  d_law_random : FuncData
  F_law_random : Fun K "_law_random" "_law_random" s_law_random f_law_random d_law_random
  b_law_random : Binds K d_law_random ["generator", "bound"] []
  m_law_random : mg "_law_random" = some (.ref f_law_random)
  f_law_cell : Addr
  d_law_cell : FuncData
  F_law_cell : Fun K "_law_cell" "_law_cell" s_law_cell f_law_cell d_law_cell
  b_law_cell : Binds K d_law_cell ["script", "index"] []
  m_law_cell : mg "_law_cell" = some (.ref f_law_cell)
  f_law_generator : Addr
  d_law_generator : FuncData
  F_law_generator : Fun K "_law_generator" "_law_generator" s_law_generator f_law_generator d_law_generator
  b_law_generator : Binds K d_law_generator ["script", "index"] []
  m_law_generator : mg "_law_generator" = some (.ref f_law_generator)
  f_law_lists : Addr
  d_law_lists : FuncData
  F_law_lists : Fun K "_law_lists" "_law_lists" s_law_lists f_law_lists d_law_lists
  b_law_lists : Binds K d_law_lists ["cells", "most"] []
  m_law_lists : mg "_law_lists" = some (.ref f_law_lists)
  f_law_prices : Addr
  d_law_prices : FuncData
  F_law_prices : Fun K "_law_prices" "_law_prices" s_law_prices f_law_prices d_law_prices
  b_law_prices : Binds K d_law_prices ["sort", "cells", "columns"] []
  m_law_prices : mg "_law_prices" = some (.ref f_law_prices)
  f_law_kind : Addr
  d_law_kind : FuncData
  F_law_kind : Fun K "_law_kind" "_law_kind" s_law_kind f_law_kind d_law_kind
  b_law_kind : Binds K d_law_kind ["generator"] []
  m_law_kind : mg "_law_kind" = some (.ref f_law_kind)
  f_law_columns : Addr
  d_law_columns : FuncData
  F_law_columns : Fun K "_law_columns" "_law_columns" s_law_columns f_law_columns d_law_columns
  b_law_columns : Binds K d_law_columns ["generator", "sort", "most"] []
  m_law_columns : mg "_law_columns" = some (.ref f_law_columns)
  f_law_least : Addr
  d_law_least : FuncData
  F_law_least : Fun K "_law_least" "_law_least" s_law_least f_law_least d_law_least
  b_law_least : Binds K d_law_least ["lists", "size", "most"] []
  m_law_least : mg "_law_least" = some (.ref f_law_least)
  f_law_right : Addr
  d_law_right : FuncData
  F_law_right : Fun K "_law_right" "_law_right" s_law_right f_law_right d_law_right
  b_law_right : Binds K d_law_right ["generator"] []
  m_law_right : mg "_law_right" = some (.ref f_law_right)
  f_law_great_right : Addr
  d_law_great_right : FuncData
  F_law_great_right : Fun K "_law_great_right" "_law_great_right" s_law_great_right f_law_great_right d_law_great_right
  b_law_great_right : Binds K d_law_great_right ["generator"] []
  m_law_great_right : mg "_law_great_right" = some (.ref f_law_great_right)
  f_law : Addr
  d_law : FuncData
  F_law : Fun K "law" "law" s_law f_law d_law
  b_law : Binds K d_law ["script"] []
  m_law : mg "law" = some (.ref f_law)
  n_any : mg "any" = none
  n_bool : mg "bool" = none
  n_enumerate : mg "enumerate" = none
  n_int : mg "int" = none
  n_isinstance : mg "isinstance" = none
  n_len : mg "len" = none
  n_max : mg "max" = none
  n_min : mg "min" = none
  n_range : mg "range" = none
  n_repr : mg "repr" = none
  n_sorted : mg "sorted" = none
  n_sum : mg "sum" = none
  a_KINDS : Addr
  v_KINDS : List V
  g_KINDS : mg "KINDS" = some (.ref a_KINDS)
  t_KINDS : ∀ H, SqT K H a_KINDS v_KINDS
  d_KINDS : ∀ H, DaAll K H v_KINDS c_KINDS
  k_MOST_EMPTY : Tok
  g_MOST_EMPTY : mg "MOST_EMPTY" = some (.int 7 k_MOST_EMPTY)
  kb_0 : KwBinds d_cells_for ["kind", "empty", "many"] ["many", "empty", "kind"] (pmI [2, 1, 0])
  kb_1 : KwBinds d_cells_within ["kind", "empty", "many", "steps"] ["steps", "many", "empty", "kind"] (pmI [3, 2, 1, 0])
section
variable {P : Program} {w : World} {K : PySem.W.Frag} {mg : Str → Option Value} {base : Heap}
theorem ok_is_whole (T : Tx K w mg) : FnG P w K mg base 1 T.f_is_whole T.d_is_whole 1 ["value"] (spM K 1 m_is_whole) :=
  fn_m T.F_is_whole sc_is_whole fun W cdv A outer s H E hr =>
  (psx_one (psx_ret (px_and (px_isi (by rfl) T.n_isinstance (px_var (pv 0)) (by rfl) T.n_int bt_int) (px_one (px_not (px_isi (by rfl) T.n_isinstance (px_var (pv 0)) (by rfl) T.n_bool bt_bool))))))
theorem ok_is_from (T : Tx K w mg) (G_is_whole : FnG P w K mg base 1 T.f_is_whole T.d_is_whole 1 ["value"] (spM K 1 m_is_whole)) : FnG P w K mg base 2 T.f_is_from T.d_is_from 2 ["value", "low"] (spM K 2 m_is_from) :=
  fn_m T.F_is_from sc_is_from fun W cdv A outer s H E hr =>
  (psx_one (psx_ret (px_and (px_fn G_is_whole (hr.mono (by decide)) (by rfl) T.m_is_whole T.F_is_whole.kp T.b_is_whole (pxa_d (px_var (pv 0)) pxa_nil) (xaD_len (fun _ _ _ _ h => xaNil_len h))) (px_one (px_cmp op_geD (px_var (pv 0)) (px_var (pv 1)) (nomark _))))))
theorem ok_is_within (T : Tx K w mg) (G_is_whole : FnG P w K mg base 1 T.f_is_whole T.d_is_whole 1 ["value"] (spM K 1 m_is_whole)) : FnG P w K mg base 2 T.f_is_within T.d_is_within 3 ["value", "low", "high"] (spM K 3 m_is_within) :=
  fn_m T.F_is_within sc_is_within fun W cdv A outer s H E hr =>
  (psx_one (psx_ret (px_and (px_fn G_is_whole (hr.mono (by decide)) (by rfl) T.m_is_whole T.F_is_whole.kp T.b_is_whole (pxa_d (px_var (pv 0)) pxa_nil) (xaD_len (fun _ _ _ _ h => xaNil_len h))) (px_one (px_chain op_leD op_leD (px_var (pv 1)) (px_var (pv 0)) (px_var (pv 2)))))))
theorem ok_check_from (T : Tx K w mg) (G_is_from : FnG P w K mg base 2 T.f_is_from T.d_is_from 2 ["value", "low"] (spM K 2 m_is_from)) : FnG P w K mg base 3 T.f_check_from T.d_check_from 2 ["value", "low"] (spM K 2 m_check_from) :=
  fn_m T.F_check_from sc_check_from fun W cdv A outer s H E hr =>
  (psx_one (psx_if (pxt_not (pxt_truth (px_fn G_is_from (hr.mono (by decide)) (by rfl) T.m_is_from T.F_is_from.kp T.b_is_from (pxa_d (px_var (pv 0)) (pxa_d (px_var (pv 1)) pxa_nil)) (xaD_len (xaD_len (fun _ _ _ _ h => xaNil_len h))))))
  (psx_one psx_never)
  psx_nil))
theorem ok_is_kind (T : Tx K w mg) : FnG P w K mg base 1 T.f_is_kind T.d_is_kind 1 ["value"] (spM K 1 m_is_kind) :=
  fn_m T.F_is_kind sc_is_kind fun W cdv A outer s H E hr =>
  (psx_one (psx_ret (px_inT hr.u65 (px_var (pv 0)) (by rfl) T.g_KINDS T.t_KINDS T.d_KINDS)))
theorem ok_check_kind (T : Tx K w mg) (G_is_kind : FnG P w K mg base 1 T.f_is_kind T.d_is_kind 1 ["value"] (spM K 1 m_is_kind)) : FnG P w K mg base 2 T.f_check_kind T.d_check_kind 1 ["kind"] (spM K 1 m_check_kind) :=
  fn_m T.F_check_kind sc_check_kind fun W cdv A outer s H E hr =>
  (psx_one (psx_if (pxt_not (pxt_truth (px_fn G_is_kind (hr.mono (by decide)) (by rfl) T.m_is_kind T.F_is_kind.kp T.b_is_kind (pxa_d (px_var (pv 0)) pxa_nil) (xaD_len (fun _ _ _ _ h => xaNil_len h)))))
  (psx_one psx_never)
  psx_nil))
theorem ok_bound_beside (T : Tx K w mg) : FnG P w K mg base 1 T.f_bound_beside T.d_bound_beside 3 ["kind", "cells", "empty"] (spM K 3 m_bound_beside) :=
  fn_m T.F_bound_beside sc_bound_beside fun W cdv A outer s H E hr =>
  (psx_cons (psx_if (pxt_cmp (op_neDD hr.u64) (px_var (pv 0)) px_str (nomark _))
  (psx_one (psx_ret (px_op op_shlD (px_op op_addD (px_var (pv 1)) px_int) (px_var (pv 2)))))
  psx_nil)
  (psx_one (psx_ret (px_if (pxt_cmp op_gtD (px_var (pv 2)) px_int (nomark _)) (px_op op_shlD (px_op op_addD (px_var (pv 1)) px_int) (px_op op_subD (px_var (pv 2)) px_int)) px_int))))
theorem ok_cells_beside (T : Tx K w mg) (G_bound_beside : FnG P w K mg base 1 T.f_bound_beside T.d_bound_beside 3 ["kind", "cells", "empty"] (spM K 3 m_bound_beside)) : FnG P w K mg base 2 T.f_cells_beside T.d_cells_beside 3 ["kind", "empty", "longest"] (spM K 3 m_cells_beside) :=
  fn_m T.F_cells_beside sc_cells_beside fun W cdv A outer s H E hr =>
  (psx_one (psx_ret (px_op op_fdivD (px_op op_subD (px_var (pv 2)) px_int) (px_fn G_bound_beside (hr.mono (by decide)) (by rfl) T.m_bound_beside T.F_bound_beside.kp T.b_bound_beside (pxa_d (px_var (pv 0)) (pxa_d px_int (pxa_d (px_var (pv 1)) pxa_nil))) (xaD_len (xaD_len (xaD_len (fun _ _ _ _ h => xaNil_len h))))))))
theorem ok_fewest_empty (T : Tx K w mg) : FnG P w K mg base 1 T.f_fewest_empty T.d_fewest_empty 1 ["kind"] (spM K 1 m_fewest_empty) :=
  fn_m T.F_fewest_empty sc_fewest_empty fun W cdv A outer s H E hr =>
  (psx_one (psx_ret (px_if (pxt_cmp (op_eqDD hr.u64) (px_var (pv 0)) px_str (nomark _)) px_int px_int)))
theorem ok_Walk__init (T : Tx K w mg) : FnG P w K mg base 1 T.f_Walk__init T.d_Walk__init 2 ["self", "rows"] (spN K 2 (m_Walk__init T.Z)) :=
  fn_n T.F_Walk__init sc_Walk__init fun W cdv A outer s H E hr =>
  (psx_cons (psx_fldV T.cl_Walk T.na_Walk_rows (pxv_var (pv 0)) (pxs_r (pxv_var (pv 1))))
  (psx_cons (psx_fldV T.cl_Walk T.na_Walk_at (pxv_var (pv 0)) (pxs_r (pxv_d px_int)))
  (psx_one (psx_fldV T.cl_Walk T.na_Walk_passed (pxv_var (pv 0)) (pxs_r (pxv_d px_int))))))
theorem ok_Walk_is_over (T : Tx K w mg) : FnG P w K mg base 1 T.f_Walk_is_over T.d_Walk_is_over 1 ["self"] (spM K 1 (m_Walk_is_over T.Z)) :=
  fn_m T.F_Walk_is_over sc_Walk_is_over fun W cdv A outer s H E hr =>
  (psx_one (psx_ret (px_cmp (op_eqDD hr.u64) (px_of_r (pxv_fld T.cl_Walk T.na_Walk_at (pxv_var (pv 0)))) (px_lenV (by rfl) T.n_len (pxv_fld T.cl_Walk T.na_Walk_rows (pxv_var (pv 0)))) (nomark _))))
theorem ok_Walk_price (T : Tx K w mg) : FnG P w K mg base 1 T.f_Walk_price T.d_Walk_price 1 ["self"] (spM K 1 (m_Walk_price T.Z)) :=
  fn_m T.F_Walk_price sc_Walk_price fun W cdv A outer s H E hr =>
  (psx_one (psx_ret (px_of_r (pxv_ix (pxv_ix (pxv_fld T.cl_Walk T.na_Walk_rows (pxv_var (pv 0))) (px_of_r (pxv_fld T.cl_Walk T.na_Walk_at (pxv_var (pv 0)))) (fun _ _ => rfl)) px_int (fun _ _ => rfl)))))
theorem ok_Walk_left (T : Tx K w mg) : FnG P w K mg base 1 T.f_Walk_left T.d_Walk_left 1 ["self"] (spM K 1 (m_Walk_left T.Z)) :=
  fn_m T.F_Walk_left sc_Walk_left fun W cdv A outer s H E hr =>
  (psx_one (psx_ret (px_op op_subD (px_of_r (pxv_ix (pxv_ix (pxv_fld T.cl_Walk T.na_Walk_rows (pxv_var (pv 0))) (px_of_r (pxv_fld T.cl_Walk T.na_Walk_at (pxv_var (pv 0)))) (fun _ _ => rfl)) px_int (fun _ _ => rfl))) (px_of_r (pxv_fld T.cl_Walk T.na_Walk_passed (pxv_var (pv 0)))))))
theorem ok_Walk_go_on (T : Tx K w mg) (G_Walk_left : FnG P w K mg base 1 T.f_Walk_left T.d_Walk_left 1 ["self"] (spM K 1 (m_Walk_left T.Z))) : FnG P w K mg base 2 T.f_Walk_go_on T.d_Walk_go_on 2 ["self", "many"] (spM K 2 (m_Walk_go_on T.Z)) :=
  fn_m T.F_Walk_go_on sc_Walk_go_on fun W cdv A outer s H E hr =>
  (psx_cons (psx_fldAug T.cl_Walk T.na_Walk_passed (pxv_var (pv 0)) (px_var (pv 1)) ip_add)
  (psx_one (psx_if (pxt_cmp (op_eqDD hr.u64) (px_meth0 (pxv_var (pv 0)) T.cl_Walk T.me_Walk_left G_Walk_left (hr.mono (by decide)) T.b_Walk_left) px_int (nomark _))
  (psx_cons (psx_fldAug T.cl_Walk T.na_Walk_at (pxv_var (pv 0)) px_int ip_add)
  (psx_one (psx_fldV T.cl_Walk T.na_Walk_passed (pxv_var (pv 0)) (pxs_r (pxv_d px_int)))))
  psx_nil)))
theorem ok_next_price (T : Tx K w mg) (G_Walk_is_over : FnG P w K mg base 1 T.f_Walk_is_over T.d_Walk_is_over 1 ["self"] (spM K 1 (m_Walk_is_over T.Z))) (G_Walk_price : FnG P w K mg base 1 T.f_Walk_price T.d_Walk_price 1 ["self"] (spM K 1 (m_Walk_price T.Z))) : FnG P w K mg base 2 T.f_next_price T.d_next_price 1 ["walks"] (spM K 1 (m_next_price T.Z)) :=
  fn_m T.F_next_price sc_next_price fun W cdv A outer s H E hr =>
  (psx_cons (psx_if (pxt_truth (px_bi (c_any rfl) (by rfl) T.n_any bt_any (pxa_d (px_of_f (pxf_lcL (own := [("walk", 1)]) rfl sc_next_price.nd (pxv_var (pv 0)) (blkOk_by (own := [("walk", 1)]) (N := N_next_price) (sc := defScope s_next_price) (by decide +kernel)) (fun _ _ _ _ _ => (pgl_nm (pg_name (i := 1) sc_next_price.nd rfl (.inl rfl)))) (fun _ _ _ _ _ => pxts_nil) (fun _ _ _ _ _ => (px_meth0 (pxv_var (pv 1)) T.cl_Walk T.me_Walk_is_over G_Walk_is_over (hr.mono (by decide)) T.b_Walk_is_over)) (by decide))) pxa_nil)))
  (psx_one (psx_ret px_non))
  psx_nil)
  (psx_one (psx_ret (px_bi (c_sum rfl) (by rfl) T.n_sum bt_sum (pxa_d (px_of_f (pxf_lcL (own := [("walk", 1)]) rfl sc_next_price.nd (pxv_var (pv 0)) (blkOk_by (own := [("walk", 1)]) (N := N_next_price) (sc := defScope s_next_price) (by decide +kernel)) (fun _ _ _ _ _ => (pgl_nm (pg_name (i := 1) sc_next_price.nd rfl (.inl rfl)))) (fun _ _ _ _ _ => pxts_nil) (fun _ _ _ _ _ => (px_meth0 (pxv_var (pv 1)) T.cl_Walk T.me_Walk_price G_Walk_price (hr.mono (by decide)) T.b_Walk_price)) (by decide))) pxa_nil)))))
theorem ok_go_past (T : Tx K w mg) (G_Walk_left : FnG P w K mg base 1 T.f_Walk_left T.d_Walk_left 1 ["self"] (spM K 1 (m_Walk_left T.Z))) (G_Walk_go_on : FnG P w K mg base 2 T.f_Walk_go_on T.d_Walk_go_on 2 ["self", "many"] (spM K 2 (m_Walk_go_on T.Z))) (G_next_price : FnG P w K mg base 2 T.f_next_price T.d_next_price 1 ["walks"] (spM K 1 (m_next_price T.Z))) : FnG P w K mg base 3 T.f_go_past T.d_go_past 2 ["walks", "price"] (spM K 2 (m_go_past T.Z)) :=
  fn_m T.F_go_past sc_go_past fun W cdv A outer s H E hr =>
  (psx_cons (psx_set (i := 2) sc_go_past.nd rfl (.inl rfl) px_int)
  (psx_cons (psx_while PassesOwn.never (pxt_cmp (op_eqDD hr.u64) (px_fn G_next_price (hr.mono (by decide)) (by rfl) T.m_next_price T.F_next_price.kp T.b_next_price (pxa_v (pxv_var (pv 0)) pxa_nil) (xaV_len (fun _ _ _ _ h => xaNil_len h))) (px_var (pv 1)) (nomark _))
  (psx_cons (psx_set (i := 3) sc_go_past.nd rfl (.inl rfl) (px_bi (c_min rfl) (by rfl) T.n_min bt_min (pxa_d (px_of_f (pxf_lcL (own := [("walk", 4)]) rfl sc_go_past.nd (pxv_var (pv 0)) (blkOk_by (own := [("walk", 4)]) (N := N_go_past) (sc := defScope s_go_past) (by decide +kernel)) (fun _ _ _ _ _ => (pgl_nm (pg_name (i := 4) sc_go_past.nd rfl (.inl rfl)))) (fun _ _ _ _ _ => pxts_nil) (fun _ _ _ _ _ => (px_meth0 (pxv_var (pv 4)) T.cl_Walk T.me_Walk_left G_Walk_left (hr.mono (by decide)) T.b_Walk_left)) (by decide))) pxa_nil)))
  (psx_cons (psx_forL PassesOwn.never rfl (pxv_var (pv 0)) (pgl_nm (pg_name (i := 4) sc_go_past.nd rfl (.inl rfl)))
  (psx_one (psx_expr (px_meth (pxv_var (pv 4)) T.cl_Walk T.me_Walk_go_on G_Walk_go_on (hr.mono (by decide)) T.b_Walk_go_on (pxa_d (px_var (pv 3)) pxa_nil) (fun _ _ _ _ h => congrArg (· + 1) ((xaD_len (fun _ _ _ _ h => xaNil_len h)) _ _ _ _ h))))))
  (psx_one (psx_aug (ps_aug (i := 2) sc_go_past.nd rfl (.inl rfl) (px_var (pv 3)) ip_add))))))
  (psx_one (psx_ret (px_var (pv 2))))))
theorem ok_first_list (T : Tx K w mg) : FnG P w K mg base 1 T.f_first_list T.d_first_list 1 ["cells"] (spF K 1 m_first_list) :=
  fn_f T.F_first_list sc_first_list fun n0 W cdv A outer s H E hr =>
  (psx_one (psx_retF (pxf_if (pxt_cmp op_gtD (px_var (pv 0)) px_int (nomark _)) (pxf_lst (pxa_d (px_tup (pxa_d px_int (pxa_d px_int pxa_nil))) (pxa_d (px_tup (pxa_d px_int (pxa_d (px_var (pv 0)) pxa_nil))) pxa_nil))) (pxf_lst (pxa_d (px_tup (pxa_d px_int (pxa_d px_int pxa_nil))) pxa_nil)))))
theorem ok_list_behind (T : Tx K w mg) (G_Walk__init : FnG P w K mg base 1 T.f_Walk__init T.d_Walk__init 2 ["self", "rows"] (spN K 2 (m_Walk__init T.Z))) (G_next_price : FnG P w K mg base 2 T.f_next_price T.d_next_price 1 ["walks"] (spM K 1 (m_next_price T.Z))) (G_go_past : FnG P w K mg base 3 T.f_go_past T.d_go_past 2 ["walks", "price"] (spM K 2 (m_go_past T.Z))) : FnG P w K mg base 4 T.f_list_behind T.d_list_behind 1 ["shorter"] (spF K 1 (m_list_behind T.Z)) :=
  fn_f T.F_list_behind sc_list_behind fun n0 W cdv A outer s H E hr =>
  (psx_cons (psx_own (i := 1) sc_list_behind.nd rfl (.inl rfl) (pxf_lst pxa_nil))
  (psx_cons (psx_asgV (i := 2) sc_list_behind.nd rfl (.inl rfl) (pxs_lst (pxas_s (pxs_new T.mk_Walk G_Walk__init (hr.mono (by decide)) (by rfl) T.mg_Walk T.b_Walk__init (pxa_v (pxv_var (pv 0)) pxa_nil) (fun _ _ _ _ h => congrArg (· + 1) ((xaV_len (fun _ _ _ _ h => xaNil_len h)) _ _ _ _ h))) (pxas_of pxa_nil))))
  (psx_cons (psx_asgV (i := 3) sc_list_behind.nd rfl (.inl rfl) (pxs_lst (pxas_s (pxs_new T.mk_Walk G_Walk__init (hr.mono (by decide)) (by rfl) T.mg_Walk T.b_Walk__init (pxa_o (pv 1) pxa_nil) (fun _ _ _ _ h => congrArg (· + 1) ((xaO_len (fun _ _ _ _ h => xaNil_len h)) _ _ _ _ h))) (pxas_s (pxs_new T.mk_Walk G_Walk__init (hr.mono (by decide)) (by rfl) T.mg_Walk T.b_Walk__init (pxa_v (pxv_var (pv 0)) pxa_nil) (fun _ _ _ _ h => congrArg (· + 1) ((xaV_len (fun _ _ _ _ h => xaNil_len h)) _ _ _ _ h))) (pxas_of pxa_nil)))))
  (psx_cons (psx_set (i := 4) sc_list_behind.nd rfl (.inl rfl) (px_fn G_next_price (hr.mono (by decide)) (by rfl) T.m_next_price T.F_next_price.kp T.b_next_price (pxa_v (pxv_var (pv 2)) pxa_nil) (xaV_len (fun _ _ _ _ h => xaNil_len h))))
  (psx_cons (psx_while PassesOwn.never (pxt_cmp op_isntD (px_var (pv 4)) px_non (nomark _))
  (psx_cons (psx_app (ps_expr (pe_bm PySem.F.plainAttrs_list PySem.F.slot_list_append PySem.F.type_list_append mt_append (pv 1) (pa_cons (px_tup (pxa_d (px_var (pv 4)) (pxa_d (px_op op_addD (px_fn G_go_past (hr.mono (by decide)) (by rfl) T.m_go_past T.F_go_past.kp T.b_go_past (pxa_v (pxv_var (pv 2)) (pxa_d (px_var (pv 4)) pxa_nil)) (xaV_len (xaD_len (fun _ _ _ _ h => xaNil_len h)))) (px_fn G_go_past (hr.mono (by decide)) (by rfl) T.m_go_past T.F_go_past.kp T.b_go_past (pxa_v (pxv_var (pv 3)) (pxa_d (px_var (pv 4)) pxa_nil)) (xaV_len (xaD_len (fun _ _ _ _ h => xaNil_len h))))) pxa_nil))) pa_nil))))
  (psx_cons (psx_setLc (ps_lcF (own := [("one", 6)]) (by decide) (ps_setLc (i := 5) (own := [("one", 6)]) rfl sc_list_behind.nd rfl rfl (sw_true rfl rfl rfl (by decide +kernel)) (pxi_list (px_lst (pxa_d (px_fn G_next_price (hr.mono (by decide)) (by rfl) T.m_next_price T.F_next_price.kp T.b_next_price (pxa_v (pxv_var (pv 2)) pxa_nil) (xaV_len (fun _ _ _ _ h => xaNil_len h))) (pxa_d (px_fn G_next_price (hr.mono (by decide)) (by rfl) T.m_next_price T.F_next_price.kp T.b_next_price (pxa_v (pxv_var (pv 3)) pxa_nil) (xaV_len (fun _ _ _ _ h => xaNil_len h))) pxa_nil)))) (blkOk_by (own := [("one", 6)]) (N := N_list_behind) (sc := defScope s_list_behind) (by decide +kernel)) (fun _ _ _ _ _ => (pxg_nm (pg_name (i := 6) sc_list_behind.nd rfl (.inl rfl)))) (fun _ _ _ _ _ => (pxts_one (pxt_cmp op_isntD (px_var (pv 6)) px_non (nomark _)))) (fun _ _ _ _ _ => (px_var (pv 6))))))
  (psx_one (psx_set (i := 4) sc_list_behind.nd rfl (.inl rfl) (px_minDef rfl (by rfl) T.n_min (pxa_d (px_var (pv 5)) pxa_nil)))))))
  (psx_one (psx_retO (pv 1))))))))
theorem ok_lists_to (T : Tx K w mg) (G_first_list : FnG P w K mg base 1 T.f_first_list T.d_first_list 1 ["cells"] (spF K 1 m_first_list)) (G_list_behind : FnG P w K mg base 4 T.f_list_behind T.d_list_behind 1 ["shorter"] (spF K 1 (m_list_behind T.Z))) : FnG P w K mg base 5 T.f_lists_to T.d_lists_to 2 ["cells", "last"] (spS K 2 (m_lists_to T.Z)) :=
  fn_s T.F_lists_to sc_lists_to fun W cdv A outer s H E hr =>
  (psx_cons (psx_asgV (i := 2) sc_lists_to.nd rfl (.inl rfl) (pxs_lst (pxas_s (pxs_own (pxf_fn G_first_list (hr.mono (by decide)) (by rfl) T.m_first_list T.F_first_list.kp T.b_first_list (pxa_d (px_var (pv 0)) pxa_nil) (xaD_len (fun _ _ _ _ h => xaNil_len h)))) (pxas_of pxa_nil))))
  (psx_cons (psx_while PassesOwn.never (pxt_cmp op_ltD (px_lenV (by rfl) T.n_len (pxv_var (pv 2))) (px_var (pv 1)) (nomark _))
  (psx_one (psx_appV (ps_expr (pe_bm PySem.F.plainAttrs_list PySem.F.slot_list_append PySem.F.type_list_append mt_append (pxv_var (pv 2)) (pa_cons (pxs_own (pxf_fn G_list_behind (hr.mono (by decide)) (by rfl) T.m_list_behind T.F_list_behind.kp T.b_list_behind (pxa_v (pxv_ix (pxv_var (pv 2)) (px_un un_negD px_int) (fun _ _ => rfl)) pxa_nil) (xaV_len (fun _ _ _ _ h => xaNil_len h)))) pa_nil))))))
  (psx_one (psx_retS (pxs_slice (pxv_var (pv 2)) pxo_none (pxo_some (px_var (pv 1))))))))
theorem ok_told_together (T : Tx K w mg) : FnG P w K mg base 1 T.f_told_together T.d_told_together 1 ["lists"] (spF K 1 m_told_together) :=
  fn_f T.F_told_together sc_told_together fun n0 W cdv A outer s H E hr =>
  (psx_cons (psx_asgV (i := 1) sc_told_together.nd rfl (.inl rfl) pxs_dictK)
  (psx_cons (psx_for PassesOwn.never rfl (pxi_list (px_var (pv 0))) (pxg_nm (pg_name (i := 2) sc_told_together.nd rfl (.inl rfl)))
  (psx_one (psx_for PassesOwn.never rfl (pxi_list (px_var (pv 2))) (pxg_tup rfl (pxgs_cons (pxg_nm (pg_name (i := 3) sc_told_together.nd rfl (.inl rfl))) (pxgs_cons (pxg_nm (pg_name (i := 4) sc_told_together.nd rfl (.inl rfl))) pxgs_nil)))
  (psx_one (psx_putK hr.u1 (pxv_var (pv 1)) (px_var (pv 3)) (px_op op_addD (px_getD hr.u1 (pxv_var (pv 1)) (px_var (pv 3)) px_int) (px_var (pv 4))))))))
  (psx_one (psx_retF (pxf_sortItems rfl (by rfl) T.n_sorted (pxv_var (pv 1)))))))
theorem ok_rows_beside (T : Tx K w mg) (G_first_list : FnG P w K mg base 1 T.f_first_list T.d_first_list 1 ["cells"] (spF K 1 m_first_list)) (G_lists_to : FnG P w K mg base 5 T.f_lists_to T.d_lists_to 2 ["cells", "last"] (spS K 2 (m_lists_to T.Z))) (G_told_together : FnG P w K mg base 1 T.f_told_together T.d_told_together 1 ["lists"] (spF K 1 m_told_together)) : FnG P w K mg base 6 T.f_rows_beside T.d_rows_beside 3 ["kind", "cells", "empty"] (spF K 3 (m_rows_beside T.Z)) :=
  fn_f T.F_rows_beside sc_rows_beside fun n0 W cdv A outer s H E hr =>
  (psx_cons (psx_if (pxt_cmp (op_eqDD hr.u64) (px_var (pv 0)) px_str (nomark _))
  (psx_one (psx_retV (pxs_ix (pxs_fn G_lists_to (hr.mono (by decide)) (by rfl) T.m_lists_to T.F_lists_to.kp T.b_lists_to (pxas_s (pxs_r (pxv_d (px_var (pv 1)))) (pxas_s (pxs_r (pxv_d (px_var (pv 2)))) (pxas_of pxa_nil))) (xaS_len (xaS_len (fun _ _ _ _ h => xaNil_len h)))) (px_un un_negD px_int) (fun _ _ => rfl))))
  psx_nil)
  (psx_cons (psx_if (pxt_cmp (op_eqDD hr.u64) (px_var (pv 0)) px_str (nomark _))
  (psx_one (psx_retV (pxs_ix (pxs_fn G_lists_to (hr.mono (by decide)) (by rfl) T.m_lists_to T.F_lists_to.kp T.b_lists_to (pxas_s (pxs_r (pxv_d (px_var (pv 1)))) (pxas_s (pxs_r (pxv_d (px_op op_addD (px_var (pv 2)) px_int))) (pxas_of pxa_nil))) (xaS_len (xaS_len (fun _ _ _ _ h => xaNil_len h)))) (px_un un_negD px_int) (fun _ _ => rfl))))
  psx_nil)
  (psx_cons (psx_setLc (ps_lcFLS (own := [("rows", 4)]) (by decide) (ps_setLc (i := 3) (own := [("rows", 4)]) rfl sc_rows_beside.nd rfl rfl (sw_true rfl rfl rfl (by decide +kernel)) (pi_list (pxs_fn G_lists_to (hr.mono (by decide)) (by rfl) T.m_lists_to T.F_lists_to.kp T.b_lists_to (pxas_s (pxs_r (pxv_d (px_var (pv 1)))) (pxas_s (pxs_r (pxv_d (px_var (pv 2)))) (pxas_of pxa_nil))) (xaS_len (xaS_len (fun _ _ _ _ h => xaNil_len h))))) (blkOk_by (own := [("rows", 4)]) (N := N_rows_beside) (sc := defScope s_rows_beside) (by decide +kernel)) (fun _ _ _ _ _ => (pgl_nm (pg_name (i := 4) sc_rows_beside.nd rfl (.inl rfl)))) (fun _ _ _ _ _ => pxts_nil) (fun _ _ _ _ _ => (px_of_f (pxf_lcL (own := [("price", 5), ("many", 6)]) rfl sc_rows_beside.nd (pxv_var (pv 4)) (blkOk_by (by kernel_rfl)) (fun _ _ _ _ _ => (pgl_d (pxg_tup rfl (pxgs_cons (pxg_nm (pg_name (i := 5) sc_rows_beside.nd rfl (.inl rfl))) (pxgs_cons (pxg_nm (pg_name (i := 6) sc_rows_beside.nd rfl (.inl rfl))) pxgs_nil))))) (fun _ _ _ _ _ => pxts_nil) (fun _ _ _ _ _ => (px_tup (pxa_d (px_op op_mulD px_int (px_var (pv 5))) (pxa_d (px_var (pv 6)) pxa_nil)))) (by decide)))))))
  (psx_one (psx_retF (pxf_fn G_told_together (hr.mono (by decide)) (by rfl) T.m_told_together T.F_told_together.kp T.b_told_together (pxa_d (px_op op_addD (px_lst (pxa_d (px_of_f (pxf_fn G_first_list (hr.mono (by decide)) (by rfl) T.m_first_list T.F_first_list.kp T.b_first_list (pxa_d (px_var (pv 1)) pxa_nil) (xaD_len (fun _ _ _ _ h => xaNil_len h)))) pxa_nil)) (px_var (pv 3))) pxa_nil) (xaD_len (fun _ _ _ _ h => xaNil_len h))))))))
theorem ok_sum_of_least (T : Tx K w mg) : FnG P w K mg base 1 T.f_sum_of_least T.d_sum_of_least 2 ["rows", "many"] (spM K 2 m_sum_of_least) :=
  fn_m T.F_sum_of_least sc_sum_of_least fun W cdv A outer s H E hr =>
  (psx_cons (psx_set (i := 2) sc_sum_of_least.nd rfl (.inl rfl) px_int)
  (psx_cons (psx_for PassesOwn.never rfl (pxi_list (px_var (pv 0))) (pxg_tup rfl (pxgs_cons (pxg_nm (pg_name (i := 3) sc_sum_of_least.nd rfl (.inl rfl))) (pxgs_cons (pxg_nm (pg_name (i := 4) sc_sum_of_least.nd rfl (.inl rfl))) pxgs_nil)))
  (psx_cons (psx_set (i := 5) sc_sum_of_least.nd rfl (.inl rfl) (px_bi (c_min rfl) (by rfl) T.n_min bt_min (pxa_d (px_var (pv 4)) (pxa_d (px_var (pv 1)) pxa_nil))))
  (psx_cons (psx_aug (ps_aug (i := 2) sc_sum_of_least.nd rfl (.inl rfl) (px_op op_mulD (px_var (pv 3)) (px_var (pv 5))) ip_add))
  (psx_one (psx_aug (ps_aug (i := 1) sc_sum_of_least.nd rfl (.inl rfl) (px_var (pv 5)) ip_sub))))))
  (psx_one (psx_ret (px_if (pxt_cmp (op_eqDD hr.u64) (px_var (pv 1)) px_int (nomark _)) (px_var (pv 2)) px_non)))))
theorem ok_check_beside (T : Tx K w mg) (G_check_from : FnG P w K mg base 3 T.f_check_from T.d_check_from 2 ["value", "low"] (spM K 2 m_check_from)) (G_check_kind : FnG P w K mg base 2 T.f_check_kind T.d_check_kind 1 ["kind"] (spM K 1 m_check_kind)) (G_fewest_empty : FnG P w K mg base 1 T.f_fewest_empty T.d_fewest_empty 1 ["kind"] (spM K 1 m_fewest_empty)) : FnG P w K mg base 4 T.f_check_beside T.d_check_beside 3 ["kind", "cells", "empty"] (spM K 3 m_check_beside) :=
  fn_m T.F_check_beside sc_check_beside fun W cdv A outer s H E hr =>
  (psx_cons (psx_expr (px_fn G_check_kind (hr.mono (by decide)) (by rfl) T.m_check_kind T.F_check_kind.kp T.b_check_kind (pxa_d (px_var (pv 0)) pxa_nil) (xaD_len (fun _ _ _ _ h => xaNil_len h))))
  (psx_cons (psx_expr (px_fn G_check_from (hr.mono (by decide)) (by rfl) T.m_check_from T.F_check_from.kp T.b_check_from (pxa_d (px_var (pv 1)) (pxa_d px_int pxa_nil)) (xaD_len (xaD_len (fun _ _ _ _ h => xaNil_len h)))))
  (psx_one (psx_expr (px_fn G_check_from (hr.mono (by decide)) (by rfl) T.m_check_from T.F_check_from.kp T.b_check_from (pxa_d (px_var (pv 2)) (pxa_d (px_fn G_fewest_empty (hr.mono (by decide)) (by rfl) T.m_fewest_empty T.F_fewest_empty.kp T.b_fewest_empty (pxa_d (px_var (pv 0)) pxa_nil) (xaD_len (fun _ _ _ _ h => xaNil_len h))) pxa_nil)) (xaD_len (xaD_len (fun _ _ _ _ h => xaNil_len h))))))))
theorem ok_fewest (T : Tx K w mg) (G_check_from : FnG P w K mg base 3 T.f_check_from T.d_check_from 2 ["value", "low"] (spM K 2 m_check_from)) (G_rows_beside : FnG P w K mg base 6 T.f_rows_beside T.d_rows_beside 3 ["kind", "cells", "empty"] (spF K 3 (m_rows_beside T.Z))) (G_sum_of_least : FnG P w K mg base 1 T.f_sum_of_least T.d_sum_of_least 2 ["rows", "many"] (spM K 2 m_sum_of_least)) (G_check_beside : FnG P w K mg base 4 T.f_check_beside T.d_check_beside 3 ["kind", "cells", "empty"] (spM K 3 m_check_beside)) : FnG P w K mg base 7 T.f_fewest T.d_fewest 4 ["kind", "cells", "empty", "many"] (spM K 4 (m_fewest T.Z)) :=
  fn_m T.F_fewest sc_fewest fun W cdv A outer s H E hr =>
  (psx_cons (psx_expr (px_fn G_check_beside (hr.mono (by decide)) (by rfl) T.m_check_beside T.F_check_beside.kp T.b_check_beside (pxa_d (px_var (pv 0)) (pxa_d (px_var (pv 1)) (pxa_d (px_var (pv 2)) pxa_nil))) (xaD_len (xaD_len (xaD_len (fun _ _ _ _ h => xaNil_len h))))))
  (psx_cons (psx_expr (px_fn G_check_from (hr.mono (by decide)) (by rfl) T.m_check_from T.F_check_from.kp T.b_check_from (pxa_d (px_var (pv 3)) (pxa_d px_int pxa_nil)) (xaD_len (xaD_len (fun _ _ _ _ h => xaNil_len h)))))
  (psx_one (psx_ret (px_fn G_sum_of_least (hr.mono (by decide)) (by rfl) T.m_sum_of_least T.F_sum_of_least.kp T.b_sum_of_least (pxa_d (px_of_f (pxf_fn G_rows_beside (hr.mono (by decide)) (by rfl) T.m_rows_beside T.F_rows_beside.kp T.b_rows_beside (pxa_d (px_var (pv 0)) (pxa_d (px_var (pv 1)) (pxa_d (px_var (pv 2)) pxa_nil))) (xaD_len (xaD_len (xaD_len (fun _ _ _ _ h => xaNil_len h)))))) (pxa_d (px_var (pv 3)) pxa_nil)) (xaD_len (xaD_len (fun _ _ _ _ h => xaNil_len h))))))))
theorem ok_check_columns (T : Tx K w mg) (G_is_within : FnG P w K mg base 2 T.f_is_within T.d_is_within 3 ["value", "low", "high"] (spM K 3 m_is_within)) (G_check_kind : FnG P w K mg base 2 T.f_check_kind T.d_check_kind 1 ["kind"] (spM K 1 m_check_kind)) (G_fewest_empty : FnG P w K mg base 1 T.f_fewest_empty T.d_fewest_empty 1 ["kind"] (spM K 1 m_fewest_empty)) : FnG P w K mg base 3 T.f_check_columns T.d_check_columns 2 ["kind", "empty"] (spM K 2 m_check_columns) :=
  fn_m T.F_check_columns sc_check_columns fun W cdv A outer s H E hr =>
  (psx_cons (psx_expr (px_fn G_check_kind (hr.mono (by decide)) (by rfl) T.m_check_kind T.F_check_kind.kp T.b_check_kind (pxa_d (px_var (pv 0)) pxa_nil) (xaD_len (fun _ _ _ _ h => xaNil_len h))))
  (psx_cons (psx_set (i := 2) sc_check_columns.nd rfl (.inl rfl) (px_if (pxt_cmp (op_eqDD hr.u64) (px_var (pv 0)) px_str (nomark _)) (px_op op_subD (px_c (pe_glob (v := .int 7) (by rfl) T.g_MOST_EMPTY ⟨_, rfl⟩) fun _ _ => .int _) px_int) (px_c (pe_glob (v := .int 7) (by rfl) T.g_MOST_EMPTY ⟨_, rfl⟩) fun _ _ => .int _)))
  (psx_one (psx_if (pxt_not (pxt_truth (px_fn G_is_within (hr.mono (by decide)) (by rfl) T.m_is_within T.F_is_within.kp T.b_is_within (pxa_d (px_var (pv 1)) (pxa_d (px_fn G_fewest_empty (hr.mono (by decide)) (by rfl) T.m_fewest_empty T.F_fewest_empty.kp T.b_fewest_empty (pxa_d (px_var (pv 0)) pxa_nil) (xaD_len (fun _ _ _ _ h => xaNil_len h))) (pxa_d (px_var (pv 2)) pxa_nil))) (xaD_len (xaD_len (xaD_len (fun _ _ _ _ h => xaNil_len h)))))))
  (psx_one psx_never)
  psx_nil))))
theorem ok_cells_for (T : Tx K w mg) (G_check_from : FnG P w K mg base 3 T.f_check_from T.d_check_from 2 ["value", "low"] (spM K 2 m_check_from)) (G_cells_beside : FnG P w K mg base 2 T.f_cells_beside T.d_cells_beside 3 ["kind", "empty", "longest"] (spM K 3 m_cells_beside)) (G_check_columns : FnG P w K mg base 3 T.f_check_columns T.d_check_columns 2 ["kind", "empty"] (spM K 2 m_check_columns)) : FnG P w K mg base 4 T.f_cells_for T.d_cells_for 3 ["kind", "empty", "many"] (spM K 3 m_cells_for) :=
  fn_m T.F_cells_for sc_cells_for fun W cdv A outer s H E hr =>
  (psx_cons (psx_expr (px_fn G_check_columns (hr.mono (by decide)) (by rfl) T.m_check_columns T.F_check_columns.kp T.b_check_columns (pxa_d (px_var (pv 0)) (pxa_d (px_var (pv 1)) pxa_nil)) (xaD_len (xaD_len (fun _ _ _ _ h => xaNil_len h)))))
  (psx_cons (psx_expr (px_fn G_check_from (hr.mono (by decide)) (by rfl) T.m_check_from T.F_check_from.kp T.b_check_from (pxa_d (px_var (pv 2)) (pxa_d px_int pxa_nil)) (xaD_len (xaD_len (fun _ _ _ _ h => xaNil_len h)))))
  (psx_one (psx_ret (px_fn G_cells_beside (hr.mono (by decide)) (by rfl) T.m_cells_beside T.F_cells_beside.kp T.b_cells_beside (pxa_d (px_var (pv 0)) (pxa_d (px_var (pv 1)) (pxa_d (px_var (pv 2)) pxa_nil))) (xaD_len (xaD_len (xaD_len (fun _ _ _ _ h => xaNil_len h)))))))))
theorem ok_cells_within (T : Tx K w mg) (G_check_from : FnG P w K mg base 3 T.f_check_from T.d_check_from 2 ["value", "low"] (spM K 2 m_check_from)) (G_cells_beside : FnG P w K mg base 2 T.f_cells_beside T.d_cells_beside 3 ["kind", "empty", "longest"] (spM K 3 m_cells_beside)) (G_rows_beside : FnG P w K mg base 6 T.f_rows_beside T.d_rows_beside 3 ["kind", "cells", "empty"] (spF K 3 (m_rows_beside T.Z))) (G_sum_of_least : FnG P w K mg base 1 T.f_sum_of_least T.d_sum_of_least 2 ["rows", "many"] (spM K 2 m_sum_of_least)) (G_check_columns : FnG P w K mg base 3 T.f_check_columns T.d_check_columns 2 ["kind", "empty"] (spM K 2 m_check_columns)) : FnG P w K mg base 7 T.f_cells_within T.d_cells_within 4 ["kind", "empty", "many", "steps"] (spM K 4 (m_cells_within T.Z)) :=
  fn_m T.F_cells_within sc_cells_within fun W cdv A outer s H E hr =>
  (psx_cons (psx_expr (px_fn G_check_columns (hr.mono (by decide)) (by rfl) T.m_check_columns T.F_check_columns.kp T.b_check_columns (pxa_d (px_var (pv 0)) (pxa_d (px_var (pv 1)) pxa_nil)) (xaD_len (xaD_len (fun _ _ _ _ h => xaNil_len h)))))
  (psx_cons (psx_expr (px_fn G_check_from (hr.mono (by decide)) (by rfl) T.m_check_from T.F_check_from.kp T.b_check_from (pxa_d (px_var (pv 2)) (pxa_d px_int pxa_nil)) (xaD_len (xaD_len (fun _ _ _ _ h => xaNil_len h)))))
  (psx_cons (psx_expr (px_fn G_check_from (hr.mono (by decide)) (by rfl) T.m_check_from T.F_check_from.kp T.b_check_from (pxa_d (px_var (pv 3)) (pxa_d px_int pxa_nil)) (xaD_len (xaD_len (fun _ _ _ _ h => xaNil_len h)))))
  (psx_cons (psx_if (pxt_cmp op_ltD (px_var (pv 3)) (px_op op_subD (px_op op_mulD px_int (px_var (pv 2))) px_int) (nomark _))
  (psx_one (psx_ret px_non))
  psx_nil)
  (psx_cons (psx_par (ps_par (i := 4) (j := 5) rfl sc_cells_within.nd rfl rfl (by decide) rfl rfl (pa_cons (px_fn G_cells_beside (hr.mono (by decide)) (by rfl) T.m_cells_beside T.F_cells_beside.kp T.b_cells_beside (pxa_d (px_var (pv 0)) (pxa_d (px_var (pv 1)) (pxa_d (px_var (pv 2)) pxa_nil))) (xaD_len (xaD_len (xaD_len (fun _ _ _ _ h => xaNil_len h))))) (pa_cons (px_op op_subD (px_var (pv 2)) px_int) pa_nil)) (by rfl)))
  (psx_cons (psx_while PassesOwn.never (pxt_cmp op_ltD (px_var (pv 4)) (px_var (pv 5)) (nomark _))
  (psx_cons (psx_set (i := 6) sc_cells_within.nd rfl (.inl rfl) (px_op op_fdivD (px_op op_addD (px_var (pv 4)) (px_var (pv 5))) px_int))
  (psx_one (psx_if (pxt_cmp op_leD (px_fn G_sum_of_least (hr.mono (by decide)) (by rfl) T.m_sum_of_least T.F_sum_of_least.kp T.b_sum_of_least (pxa_d (px_of_f (pxf_fn G_rows_beside (hr.mono (by decide)) (by rfl) T.m_rows_beside T.F_rows_beside.kp T.b_rows_beside (pxa_d (px_var (pv 0)) (pxa_d (px_var (pv 6)) (pxa_d (px_var (pv 1)) pxa_nil))) (xaD_len (xaD_len (xaD_len (fun _ _ _ _ h => xaNil_len h)))))) (pxa_d (px_var (pv 2)) pxa_nil)) (xaD_len (xaD_len (fun _ _ _ _ h => xaNil_len h)))) (px_var (pv 3)) (nomark _))
  (psx_one (psx_set (i := 5) sc_cells_within.nd rfl (.inl rfl) (px_var (pv 6))))
  (psx_one (psx_set (i := 4) sc_cells_within.nd rfl (.inl rfl) (px_op op_addD (px_var (pv 6)) px_int)))))))
  (psx_one (psx_ret (px_var (pv 4))))))))))
theorem ok_law_hash (T : Tx K w mg) : FnG P w K mg base 1 T.f_law_hash T.d_law_hash 2 ["seed", "index"] (spM K 2 m_law_hash) :=
  fn_m T.F_law_hash sc_law_hash fun W cdv A outer s H E hr =>
  (psx_cons (psx_set (i := 2) sc_law_hash.nd rfl (.inl rfl) (px_op op_modD (px_ty (c_int) (by rfl) T.n_int bt_int (pxa_d (px_op op_addD (px_op op_addD (px_op op_addD (px_op op_mulD (px_var (pv 0)) px_int) (px_op op_mulD (px_op op_mulD px_int (px_var (pv 1))) (px_var (pv 1)))) (px_op op_mulD px_int (px_var (pv 1)))) px_int) pxa_nil)) px_int))
  (psx_cons (psx_set (i := 2) sc_law_hash.nd rfl (.inl rfl) (px_op op_modD (px_ty (c_int) (by rfl) T.n_int bt_int (pxa_d (px_op op_addD (px_op op_addD (px_op op_mulD (px_var (pv 2)) (px_var (pv 2))) (px_op op_mulD px_int (px_var (pv 1)))) px_int) pxa_nil)) px_int))
  (psx_one (psx_ret (px_op op_modD (px_ty (c_int) (by rfl) T.n_int bt_int (pxa_d (px_op op_mulD (px_var (pv 2)) px_int) pxa_nil)) px_int)))))
theorem ok_law_random (T : Tx K w mg) (G_law_hash : FnG P w K mg base 1 T.f_law_hash T.d_law_hash 2 ["seed", "index"] (spM K 2 m_law_hash)) : FnG P w K mg base 2 T.f_law_random T.d_law_random 2 ["generator", "bound"] (spM K 2 m_law_random) :=
  fn_m T.F_law_random sc_law_random fun W cdv A outer s H E hr =>
  (psx_cons (psx_if (pxt_cmp op_gtD (px_ixO (pe_ix ix_list (pv 0) px_int (fun _ _ => rfl))) px_int (nomark _))
  (psx_cons (psx_set (i := 2) sc_law_random.nd rfl (.inl rfl) (px_op op_modD (px_ty (c_int) (by rfl) T.n_int bt_int (pxa_d (px_ixO (pe_ix ix_list (pv 0) px_int (fun _ _ => rfl))) pxa_nil)) (px_var (pv 1))))
  (psx_cons (psx_setItem (ps_asg (px_op op_fdivD (px_ixO (pe_ix ix_list (pv 0) px_int (fun _ _ => rfl))) (px_var (pv 1))) (pg_sub (pv 0) px_int set_list)))
  (psx_one (psx_ret (px_var (pv 2))))))
  psx_nil)
  (psx_cons (psx_set (i := 2) sc_law_random.nd rfl (.inl rfl) px_int)
  (psx_cons (psx_for PassesOwn.never rfl (pxi_range1 (by rfl) T.n_range (pxa_d (px_op op_addD px_int (px_op op_fdivD (px_bits (pe_bits (px_var (pv 1)))) px_int)) pxa_nil) (h1 := (xaD_len (fun _ _ _ _ h => xaNil_len h)))) (pxg_nm (pg_name (i := 3) sc_law_random.nd rfl (.inl rfl)))
  (psx_cons (psx_setItem (ps_asg (px_op op_addD (px_ixO (pe_ix ix_list (pv 0) px_int (fun _ _ => rfl))) px_int) (pg_sub (pv 0) px_int set_list)))
  (psx_one (psx_set (i := 2) sc_law_random.nd rfl (.inl rfl) (px_op op_addD (px_op op_mulD (px_var (pv 2)) px_int) (px_fn G_law_hash (hr.mono (by decide)) (by rfl) T.m_law_hash T.F_law_hash.kp T.b_law_hash (pxa_d (px_ixO (pe_ix ix_list (pv 0) px_int (fun _ _ => rfl))) (pxa_d (px_ixO (pe_ix ix_list (pv 0) px_int (fun _ _ => rfl))) pxa_nil)) (xaD_len (xaD_len (fun _ _ _ _ h => xaNil_len h)))))))))
  (psx_one (psx_ret (px_op op_modD (px_ty (c_int) (by rfl) T.n_int bt_int (pxa_d (px_var (pv 2)) pxa_nil)) (px_var (pv 1))))))))
theorem ok_law_cell (T : Tx K w mg) : FnG P w K mg base 1 T.f_law_cell T.d_law_cell 2 ["script", "index"] (spM K 2 m_law_cell) :=
  fn_m T.F_law_cell sc_law_cell fun W cdv A outer s H E hr =>
  (psx_cons (psx_if (pxt_cmp op_ltD (px_var (pv 1)) (px_bi (c_len) (by rfl) T.n_len bt_len (pxa_d (px_var (pv 0)) pxa_nil)) (nomark _))
  (psx_one (psx_ret (px_ix (px_var (pv 0)) (px_var (pv 1)) (fun _ _ => rfl))))
  psx_nil)
  (psx_one (psx_ret (px_op op_modD (px_bi (c_sum rfl) (by rfl) T.n_sum bt_sum (pxa_d (px_of_f (pxf_slice (px_var (pv 0)) pxo_none (pxo_some px_int))) pxa_nil)) px_int))))
theorem ok_law_generator (T : Tx K w mg) (G_law_cell : FnG P w K mg base 1 T.f_law_cell T.d_law_cell 2 ["script", "index"] (spM K 2 m_law_cell)) : FnG P w K mg base 2 T.f_law_generator T.d_law_generator 2 ["script", "index"] (spF K 2 m_law_generator) :=
  fn_f T.F_law_generator sc_law_generator fun n0 W cdv A outer s H E hr =>
  (psx_cons (psx_set (i := 2) sc_law_generator.nd rfl (.inl rfl) (px_fn G_law_cell (hr.mono (by decide)) (by rfl) T.m_law_cell T.F_law_cell.kp T.b_law_cell (pxa_d (px_var (pv 0)) (pxa_d (px_var (pv 1)) pxa_nil)) (xaD_len (xaD_len (fun _ _ _ _ h => xaNil_len h)))))
  (psx_one (psx_retF (pxf_lst (pxa_d (px_op op_modD (px_ty (c_int) (by rfl) T.n_int bt_int (pxa_d (px_bi (c_max rfl) (by rfl) T.n_max bt_max (pxa_d (px_op op_subD (px_var (pv 2)) (px_op op_powD px_int px_int)) (pxa_d px_int pxa_nil))) pxa_nil)) (px_op op_powD (px_op op_powD px_int px_int) px_int)) (pxa_d (px_op op_modD (px_ty (c_int) (by rfl) T.n_int bt_int (pxa_d (px_var (pv 2)) pxa_nil)) px_int) (pxa_d (px_op op_mulD px_int (px_var (pv 1))) pxa_nil)))))))
theorem ok_law_lists (T : Tx K w mg) : FnG P w K mg base 1 T.f_law_lists T.d_law_lists 2 ["cells", "most"] (spM K 2 m_law_lists) :=
  fn_m T.F_law_lists sc_law_lists fun W cdv A outer s H E hr =>
  (psx_cons (psx_own (i := 2) sc_law_lists.nd rfl (.inr rfl) (pxf_lst (pxa_d (px_op op_addD (px_lst (pxa_d px_int pxa_nil)) (px_of_f (pxf_rep (pxf_lst (pxa_d px_int pxa_nil)) (px_var (pv 0))))) pxa_nil)))
  (psx_cons (psx_for PassesOwn.never rfl (pxi_range2 (by rfl) T.n_range (pxa_d px_int (pxa_d (px_var (pv 1)) pxa_nil)) (h1 := (xaD_len (xaD_len (fun _ _ _ _ h => xaNil_len h))))) (pxg_nm (pg_name (i := 3) sc_law_lists.nd rfl (.inl rfl)))
  (psx_cons (psx_set (i := 4) sc_law_lists.nd rfl (.inl rfl) (px_op op_addD (px_lst (pxa_d px_int pxa_nil)) (px_of_f (pxf_rep (pxf_lst (pxa_d px_int pxa_nil)) (px_var (pv 0))))))
  (psx_cons (psx_for PassesOwn.never rfl (pxi_range2 (by rfl) T.n_range (pxa_d px_int (pxa_d (px_lenO (pe_callB call_len_seq (by rfl) T.n_len bt_len (pa_cons (pv 2) pa_nil))) pxa_nil)) (h1 := (xaD_len (xaD_len (fun _ _ _ _ h => xaNil_len h))))) (pxg_nm (pg_name (i := 5) sc_law_lists.nd rfl (.inr rfl)))
  (psx_one (psx_set (i := 4) sc_law_lists.nd rfl (.inl rfl) (px_op op_addD (px_var (pv 4)) (px_of_f (pxf_lc (own := [("place", 9)]) rfl sc_law_lists.nd (pxi_range1 (by rfl) T.n_range (pxa_d (px_bi (c_len) (by rfl) T.n_len bt_len (pxa_d (px_ixO (pe_ix ix_list (pv 2) (px_op op_subD (px_var (pv 5)) px_int) (fun _ _ => rfl))) pxa_nil)) pxa_nil) (h1 := (xaD_len (fun _ _ _ _ h => xaNil_len h)))) (blkOk_by (own := [("place", 9)]) (N := N_law_lists) (sc := defScope s_law_lists) (by decide +kernel)) (fun _ _ _ _ _ => (pxg_nm (pg_name (i := 9) sc_law_lists.nd rfl (.inl rfl)))) (fun _ _ _ _ _ => pxts_nil) (fun _ _ _ _ _ => (px_op op_addD (px_ix (px_ixO (pe_ix ix_list (pv 2) (px_var (pv 5)) (fun _ _ => rfl))) (px_var (pv 9)) (fun _ _ => rfl)) (px_ix (px_ixO (pe_ix ix_list (pv 2) (px_op op_subD (px_var (pv 5)) px_int) (fun _ _ => rfl))) (px_var (pv 9)) (fun _ _ => rfl)))) (by decide)))))))
  (psx_cons (psx_tupN (js := [4, 7, 8, 5, 9]) rfl (pxas_s (pxs_r (pxv_d (px_bi (c_sorted) (by rfl) T.n_sorted bt_sorted (pxa_d (px_var (pv 4)) pxa_nil)))) (pxas_s (pxs_r (pxv_d (px_ixO (pe_ix ix_list (pv 2) (px_un un_negD px_int) (fun _ _ => rfl))))) (pxas_s (pxs_own (pxf_lst pxa_nil)) (pxas_s (pxs_r (pxv_d px_int)) (pxas_s (pxs_r (pxv_d px_int)) (pxas_of pxa_nil)))))) (pgs_cons (pg_name (i := 4) sc_law_lists.nd rfl (.inl rfl)) (pgs_cons (pg_name (i := 7) sc_law_lists.nd rfl (.inl rfl)) (pgs_cons (pg_name (i := 8) sc_law_lists.nd rfl (.inl rfl)) (pgs_cons (pg_name (i := 5) sc_law_lists.nd rfl (.inr rfl)) (pgs_cons (pg_name (i := 9) sc_law_lists.nd rfl (.inl rfl)) pgs_nil))))) (by decide))
  (psx_cons (psx_for PassesOwn.never rfl (pxi_range1 (by rfl) T.n_range (pxa_d (px_op op_addD (px_bi (c_len) (by rfl) T.n_len bt_len (pxa_d (px_var (pv 4)) pxa_nil)) (px_bi (c_len) (by rfl) T.n_len bt_len (pxa_d (px_var (pv 7)) pxa_nil))) pxa_nil) (h1 := (xaD_len (fun _ _ _ _ h => xaNil_len h)))) (pxg_nm (pg_name (i := 6) sc_law_lists.nd rfl (.inl rfl)))
  (psx_cons (psx_set (i := 10) sc_law_lists.nd rfl (.inl rfl) (px_if (pxw_t (pxw_and (pxt_cmp op_ltD (px_var (pv 9)) (px_bi (c_len) (by rfl) T.n_len bt_len (pxa_d (px_var (pv 7)) pxa_nil)) (nomark _)) (pxw_and1 (pxt_cmp op_ltD (px_var (pv 9)) (px_lenO (pe_callB call_len_seq (by rfl) T.n_len bt_len (pa_cons (pv 8) pa_nil))) (nomark _))))) (px_op op_addD (px_ixO (pe_ix ix_list (pv 8) (px_var (pv 9)) (fun _ _ => rfl))) (px_ix (px_var (pv 7)) (px_var (pv 9)) (fun _ _ => rfl))) px_non))
  (psx_one (psx_if (pxw_t (pxw_or (pxt_cmp op_isD (px_var (pv 10)) px_non (nomark _)) (pxw_or1 (pxw_t (pxw_and (pxt_cmp op_ltD (px_var (pv 5)) (px_bi (c_len) (by rfl) T.n_len bt_len (pxa_d (px_var (pv 4)) pxa_nil)) (nomark _)) (pxw_and1 (pxt_cmp op_leD (px_ix (px_var (pv 4)) (px_var (pv 5)) (fun _ _ => rfl)) (px_var (pv 10)) (nomark _))))))))
  (psx_cons (psx_app (ps_expr (pe_bm PySem.F.plainAttrs_list PySem.F.slot_list_append PySem.F.type_list_append mt_append (pv 8) (pa_cons (px_ix (px_var (pv 4)) (px_var (pv 5)) (fun _ _ => rfl)) pa_nil))))
  (psx_one (psx_set (i := 5) sc_law_lists.nd rfl (.inr rfl) (px_op op_addD (px_var (pv 5)) px_int))))
  (psx_cons (psx_app (ps_expr (pe_bm PySem.F.plainAttrs_list PySem.F.slot_list_append PySem.F.type_list_append mt_append (pv 8) (pa_cons (px_var (pv 10)) pa_nil))))
  (psx_one (psx_set (i := 9) sc_law_lists.nd rfl (.inl rfl) (px_op op_addD (px_var (pv 9)) px_int))))))))
  (psx_one (psx_frz 8 (psx_app (ps_expr (pe_bm PySem.F.plainAttrs_list PySem.F.slot_list_append PySem.F.type_list_append mt_append (pv 2) (pa_cons (px_var (pv 8)) pa_nil)))))))))))
  (psx_one (psx_frz 2 (psx_ret (px_var (pv 2)))))))
theorem ok_law_prices (T : Tx K w mg) (G_law_lists : FnG P w K mg base 1 T.f_law_lists T.d_law_lists 2 ["cells", "most"] (spM K 2 m_law_lists)) : FnG P w K mg base 2 T.f_law_prices T.d_law_prices 3 ["sort", "cells", "columns"] (spM K 3 m_law_prices) :=
  fn_m T.F_law_prices sc_law_prices fun W cdv A outer s H E hr =>
  (psx_cons (psx_if (pxt_cmp (op_eqDD hr.u64) (px_var (pv 0)) px_str (nomark _))
  (psx_cons (psx_set (i := 3) sc_law_prices.nd rfl (.inl rfl) (px_op op_addD (px_lst (pxa_d px_int pxa_nil)) (px_of_f (pxf_rep (pxf_lst (pxa_d px_int pxa_nil)) (px_var (pv 1))))))
  (psx_cons (psx_for PassesOwn.never rfl (pxi_list (px_if (pxt_cmp op_gtD (px_var (pv 2)) px_int (nomark _)) (px_fn G_law_lists (hr.mono (by decide)) (by rfl) T.m_law_lists T.F_law_lists.kp T.b_law_lists (pxa_d (px_var (pv 1)) (pxa_d (px_var (pv 2)) pxa_nil)) (xaD_len (xaD_len (fun _ _ _ _ h => xaNil_len h)))) (px_lst pxa_nil))) (pxg_nm (pg_name (i := 4) sc_law_prices.nd rfl (.inl rfl)))
  (psx_one (psx_set (i := 3) sc_law_prices.nd rfl (.inl rfl) (px_op op_addD (px_var (pv 3)) (px_of_f (pxf_lc (own := [("price_told", 5)]) rfl sc_law_prices.nd (pxi_list (px_var (pv 4))) (blkOk_by (own := [("price_told", 5)]) (N := N_law_prices) (sc := defScope s_law_prices) (by decide +kernel)) (fun _ _ _ _ _ => (pxg_nm (pg_name (i := 5) sc_law_prices.nd rfl (.inl rfl)))) (fun _ _ _ _ _ => pxts_nil) (fun _ _ _ _ _ => (px_op op_mulD px_int (px_var (pv 5)))) (by decide)))))))
  (psx_one (psx_ret (px_bi (c_sorted) (by rfl) T.n_sorted bt_sorted (pxa_d (px_var (pv 3)) pxa_nil))))))
  psx_nil)
  (psx_one (psx_ret (px_ix (px_fn G_law_lists (hr.mono (by decide)) (by rfl) T.m_law_lists T.F_law_lists.kp T.b_law_lists (pxa_d (px_var (pv 1)) (pxa_d (px_if (pxt_cmp (op_eqDD hr.u64) (px_var (pv 0)) px_str (nomark _)) (px_var (pv 2)) (px_op op_addD (px_var (pv 2)) px_int)) pxa_nil)) (xaD_len (xaD_len (fun _ _ _ _ h => xaNil_len h)))) (px_un un_negD px_int) (fun _ _ => rfl)))))
theorem ok_law_kind (T : Tx K w mg) (G_law_random : FnG P w K mg base 2 T.f_law_random T.d_law_random 2 ["generator", "bound"] (spM K 2 m_law_random)) : FnG P w K mg base 3 T.f_law_kind T.d_law_kind 1 ["generator"] (spM K 1 m_law_kind) :=
  fn_m T.F_law_kind sc_law_kind fun W cdv A outer s H E hr =>
  (psx_one (psx_ret (px_ix (px_lst (pxa_d px_str (pxa_d px_str (pxa_d px_str pxa_nil)))) (px_fn G_law_random (hr.mono (by decide)) (by rfl) T.m_law_random T.F_law_random.kp T.b_law_random (pxa_o (pv 0) (pxa_d px_int pxa_nil)) (xaO_len (xaD_len (fun _ _ _ _ h => xaNil_len h)))) (fun _ _ => rfl))))
theorem ok_law_columns (T : Tx K w mg) (G_law_random : FnG P w K mg base 2 T.f_law_random T.d_law_random 2 ["generator", "bound"] (spM K 2 m_law_random)) : FnG P w K mg base 3 T.f_law_columns T.d_law_columns 3 ["generator", "sort", "most"] (spM K 3 m_law_columns) :=
  fn_m T.F_law_columns sc_law_columns fun W cdv A outer s H E hr =>
  (psx_one (psx_ret (px_op op_addD (px_fn G_law_random (hr.mono (by decide)) (by rfl) T.m_law_random T.F_law_random.kp T.b_law_random (pxa_o (pv 0) (pxa_d (px_var (pv 2)) pxa_nil)) (xaO_len (xaD_len (fun _ _ _ _ h => xaNil_len h)))) (px_if (pxt_cmp (op_eqDD hr.u64) (px_var (pv 1)) px_str (nomark _)) px_int px_int))))
theorem ok_law_least (T : Tx K w mg) : FnG P w K mg base 1 T.f_law_least T.d_law_least 3 ["lists", "size", "most"] (spM K 3 m_law_least) :=
  fn_m T.F_law_least sc_law_least fun W cdv A outer s H E hr =>
  (psx_cons (psx_for PassesOwn.never rfl (pxi_enum (by rfl) T.n_enumerate (pxa_d (px_var (pv 0)) pxa_nil)) (pxg_tup rfl (pxgs_cons (pxg_nm (pg_name (i := 3) sc_law_least.nd rfl (.inl rfl))) (pxgs_cons (pxg_nm (pg_name (i := 4) sc_law_least.nd rfl (.inl rfl))) pxgs_nil)))
  (psx_one (psx_if (pxw_t (pxw_and (pxt_cmp op_geD (px_bi (c_len) (by rfl) T.n_len bt_len (pxa_d (px_var (pv 4)) pxa_nil)) (px_var (pv 1)) (nomark _)) (pxw_and1 (pxw_t (pxw_or (pxt_cmp op_isD (px_var (pv 2)) px_non (nomark _)) (pxw_or1 (pxt_cmp op_leD (px_bi (c_sum rfl) (by rfl) T.n_sum bt_sum (pxa_d (px_of_f (pxf_slice (px_var (pv 4)) pxo_none (pxo_some (px_var (pv 1))))) pxa_nil)) (px_var (pv 2)) (nomark _))))))))
  (psx_one (psx_ret (px_var (pv 3))))
  psx_nil)))
  (psx_one (psx_ret px_non)))
theorem ok_law_right (T : Tx K w mg) (G_cells_for : FnG P w K mg base 4 T.f_cells_for T.d_cells_for 3 ["kind", "empty", "many"] (spM K 3 m_cells_for)) (G_cells_within : FnG P w K mg base 7 T.f_cells_within T.d_cells_within 4 ["kind", "empty", "many", "steps"] (spM K 4 (m_cells_within T.Z))) (G_law_random : FnG P w K mg base 2 T.f_law_random T.d_law_random 2 ["generator", "bound"] (spM K 2 m_law_random)) (G_law_prices : FnG P w K mg base 2 T.f_law_prices T.d_law_prices 3 ["sort", "cells", "columns"] (spM K 3 m_law_prices)) (G_law_kind : FnG P w K mg base 3 T.f_law_kind T.d_law_kind 1 ["generator"] (spM K 1 m_law_kind)) (G_law_columns : FnG P w K mg base 3 T.f_law_columns T.d_law_columns 3 ["generator", "sort", "most"] (spM K 3 m_law_columns)) (G_law_least : FnG P w K mg base 1 T.f_law_least T.d_law_least 3 ["lists", "size", "most"] (spM K 3 m_law_least)) : FnG P w K mg base 8 T.f_law_right T.d_law_right 1 ["generator"] (spM K 1 (m_law_right T.Z)) :=
  fn_m T.F_law_right sc_law_right fun W cdv A outer s H E hr =>
  (psx_cons (psx_set (i := 1) sc_law_right.nd rfl (.inr rfl) (px_fn G_law_kind (hr.mono (by decide)) (by rfl) T.m_law_kind T.F_law_kind.kp T.b_law_kind (pxa_o (pv 0) pxa_nil) (xaO_len (fun _ _ _ _ h => xaNil_len h))))
  (psx_cons (psx_tupN (js := [5, 6]) rfl (pxas_s (pxs_r (pxv_d (px_fn G_law_columns (hr.mono (by decide)) (by rfl) T.m_law_columns T.F_law_columns.kp T.b_law_columns (pxa_o (pv 0) (pxa_d (px_var (pv 1)) (pxa_d px_int pxa_nil))) (xaO_len (xaD_len (xaD_len (fun _ _ _ _ h => xaNil_len h))))))) (pxas_s (pxs_r (pxv_d (px_op op_addD px_int (px_fn G_law_random (hr.mono (by decide)) (by rfl) T.m_law_random T.F_law_random.kp T.b_law_random (pxa_o (pv 0) (pxa_d px_int pxa_nil)) (xaO_len (xaD_len (fun _ _ _ _ h => xaNil_len h))))))) (pxas_of pxa_nil))) (pgs_cons (pg_name (i := 5) sc_law_right.nd rfl (.inr rfl)) (pgs_cons (pg_name (i := 6) sc_law_right.nd rfl (.inl rfl)) pgs_nil)) (by decide))
  (psx_cons (psx_setLc (ps_lcF (own := [("place", 7)]) (by decide) (ps_setLc (i := 2) (own := [("place", 7)]) rfl sc_law_right.nd rfl rfl (sw_true rfl rfl rfl (by decide +kernel)) (pxi_range1 (by rfl) T.n_range (pxa_d (px_op op_addD (px_var (pv 6)) px_int) pxa_nil) (h1 := (xaD_len (fun _ _ _ _ h => xaNil_len h)))) (blkOk_by (own := [("place", 7)]) (N := N_law_right) (sc := defScope s_law_right) (by decide +kernel)) (fun _ _ _ _ _ => (pxg_nm (pg_name (i := 7) sc_law_right.nd rfl (.inl rfl)))) (fun _ _ _ _ _ => pxts_nil) (fun _ _ _ _ _ => (px_fn G_law_prices (hr.mono (by decide)) (by rfl) T.m_law_prices T.F_law_prices.kp T.b_law_prices (pxa_d (px_var (pv 1)) (pxa_d (px_var (pv 7)) (pxa_d (px_var (pv 5)) pxa_nil))) (xaD_len (xaD_len (xaD_len (fun _ _ _ _ h => xaNil_len h)))))))))
  (psx_cons (psx_set (i := 3) sc_law_right.nd rfl (.inl rfl) (px_fn G_law_least (hr.mono (by decide)) (by rfl) T.m_law_least T.F_law_least.kp T.b_law_least (pxa_d (px_var (pv 2)) (pxa_d (px_var (pv 6)) (pxa_d px_non pxa_nil))) (xaD_len (xaD_len (xaD_len (fun _ _ _ _ h => xaNil_len h))))))
  (psx_cons (psx_if (pxt_cmp (op_neDD hr.u64) (px_bi (c_repr hr.gd hr.u65) (by rfl) T.n_repr bt_repr (pxa_d (px_lst (pxa_d (px_fn G_cells_for (hr.mono (by decide)) (by rfl) T.m_cells_for T.F_cells_for.kp T.b_cells_for (pxa_d (px_var (pv 1)) (pxa_d (px_var (pv 5)) (pxa_d (px_var (pv 6)) pxa_nil))) (xaD_len (xaD_len (xaD_len (fun _ _ _ _ h => xaNil_len h))))) (pxa_d (px_fnk G_cells_for (hr.mono (by decide)) (by rfl) T.m_cells_for T.F_cells_for.kp T.kb_0 rfl (pxk_d (px_var (pv 6)) (pxk_d (px_var (pv 5)) (pxk_d (px_var (pv 1)) pxk_nil))) (fun _ _ _ _ h => pmI_len (js := [2, 1, 0]) (by decide) ((xaD_len (xaD_len (xaD_len (fun _ _ _ _ h => xaNil_len h)))) _ _ _ _ h))) pxa_nil))) pxa_nil)) (px_bi (c_repr hr.gd hr.u65) (by rfl) T.n_repr bt_repr (pxa_d (px_lst (pxa_d (px_var (pv 3)) (pxa_d (px_var (pv 3)) pxa_nil))) pxa_nil)) (nomark _))
  (psx_one (psx_ret px_bl))
  psx_nil)
  (psx_cons (psx_for PassesOwn.never rfl (pxi_list (px_lst (pxa_d (px_fn G_law_random (hr.mono (by decide)) (by rfl) T.m_law_random T.F_law_random.kp T.b_law_random (pxa_o (pv 0) (pxa_d (px_op op_mulD px_int (px_var (pv 6))) pxa_nil)) (xaO_len (xaD_len (fun _ _ _ _ h => xaNil_len h)))) (pxa_d (px_op op_subD (px_op op_mulD px_int (px_var (pv 6))) px_int) (pxa_d (px_op op_subD (px_op op_mulD px_int (px_var (pv 6))) px_int) pxa_nil))))) (pxg_nm (pg_name (i := 4) sc_law_right.nd rfl (.inl rfl)))
  (psx_cons (psx_set (i := 3) sc_law_right.nd rfl (.inl rfl) (px_fn G_law_least (hr.mono (by decide)) (by rfl) T.m_law_least T.F_law_least.kp T.b_law_least (pxa_d (px_var (pv 2)) (pxa_d (px_var (pv 6)) (pxa_d (px_var (pv 4)) pxa_nil))) (xaD_len (xaD_len (xaD_len (fun _ _ _ _ h => xaNil_len h))))))
  (psx_cons (psx_if (pxt_cmp (op_neDD hr.u64) (px_bi (c_repr hr.gd hr.u65) (by rfl) T.n_repr bt_repr (pxa_d (px_lst (pxa_d (px_fn G_cells_within (hr.mono (by decide)) (by rfl) T.m_cells_within T.F_cells_within.kp T.b_cells_within (pxa_d (px_var (pv 1)) (pxa_d (px_var (pv 5)) (pxa_d (px_var (pv 6)) (pxa_d (px_var (pv 4)) pxa_nil)))) (xaD_len (xaD_len (xaD_len (xaD_len (fun _ _ _ _ h => xaNil_len h)))))) (pxa_d (px_fnk G_cells_within (hr.mono (by decide)) (by rfl) T.m_cells_within T.F_cells_within.kp T.kb_1 rfl (pxk_d (px_var (pv 4)) (pxk_d (px_var (pv 6)) (pxk_d (px_var (pv 5)) (pxk_d (px_var (pv 1)) pxk_nil)))) (fun _ _ _ _ h => pmI_len (js := [3, 2, 1, 0]) (by decide) ((xaD_len (xaD_len (xaD_len (xaD_len (fun _ _ _ _ h => xaNil_len h))))) _ _ _ _ h))) pxa_nil))) pxa_nil)) (px_bi (c_repr hr.gd hr.u65) (by rfl) T.n_repr bt_repr (pxa_d (px_lst (pxa_d (px_var (pv 3)) (pxa_d (px_var (pv 3)) pxa_nil))) pxa_nil)) (nomark _))
  (psx_one (psx_ret px_bl))
  psx_nil)
  (psx_one (psx_if (pxt_cmp (op_neDD hr.u64) (px_cmp op_isD (px_var (pv 3)) px_non (nomark _)) (px_cmp op_ltD (px_var (pv 4)) (px_op op_subD (px_op op_mulD px_int (px_var (pv 6))) px_int) (nomark _)) (nomark _))
  (psx_one (psx_ret px_bl))
  psx_nil)))))
  (psx_one (psx_ret px_bl))))))))
theorem ok_law_great_right (T : Tx K w mg) (G_fewest : FnG P w K mg base 7 T.f_fewest T.d_fewest 4 ["kind", "cells", "empty", "many"] (spM K 4 (m_fewest T.Z))) (G_cells_for : FnG P w K mg base 4 T.f_cells_for T.d_cells_for 3 ["kind", "empty", "many"] (spM K 3 m_cells_for)) (G_cells_within : FnG P w K mg base 7 T.f_cells_within T.d_cells_within 4 ["kind", "empty", "many", "steps"] (spM K 4 (m_cells_within T.Z))) (G_law_random : FnG P w K mg base 2 T.f_law_random T.d_law_random 2 ["generator", "bound"] (spM K 2 m_law_random)) (G_law_kind : FnG P w K mg base 3 T.f_law_kind T.d_law_kind 1 ["generator"] (spM K 1 m_law_kind)) (G_law_columns : FnG P w K mg base 3 T.f_law_columns T.d_law_columns 3 ["generator", "sort", "most"] (spM K 3 m_law_columns)) : FnG P w K mg base 8 T.f_law_great_right T.d_law_great_right 1 ["generator"] (spM K 1 (m_law_great_right T.Z)) :=
  fn_m T.F_law_great_right sc_law_great_right fun W cdv A outer s H E hr =>
  (psx_cons (psx_par (ps_par (i := 3) (j := 4) rfl sc_law_great_right.nd rfl rfl (by decide) rfl rfl (pa_cons (px_fn G_law_kind (hr.mono (by decide)) (by rfl) T.m_law_kind T.F_law_kind.kp T.b_law_kind (pxa_o (pv 0) pxa_nil) (xaO_len (fun _ _ _ _ h => xaNil_len h))) (pa_cons (px_op op_addD px_int (px_fn G_law_random (hr.mono (by decide)) (by rfl) T.m_law_random T.F_law_random.kp T.b_law_random (pxa_o (pv 0) (pxa_d (px_op op_powD px_int px_int) pxa_nil)) (xaO_len (xaD_len (fun _ _ _ _ h => xaNil_len h))))) pa_nil)) (by rfl)))
  (psx_cons (psx_set (i := 1) sc_law_great_right.nd rfl (.inl rfl) (px_fn G_law_columns (hr.mono (by decide)) (by rfl) T.m_law_columns T.F_law_columns.kp T.b_law_columns (pxa_o (pv 0) (pxa_d (px_var (pv 3)) (pxa_d px_int pxa_nil))) (xaO_len (xaD_len (xaD_len (fun _ _ _ _ h => xaNil_len h))))))
  (psx_cons (psx_par (ps_par (i := 5) (j := 6) rfl sc_law_great_right.nd rfl rfl (by decide) rfl rfl (pa_cons (px_fn G_cells_for (hr.mono (by decide)) (by rfl) T.m_cells_for T.F_cells_for.kp T.b_cells_for (pxa_d (px_var (pv 3)) (pxa_d (px_var (pv 1)) (pxa_d (px_var (pv 4)) pxa_nil))) (xaD_len (xaD_len (xaD_len (fun _ _ _ _ h => xaNil_len h))))) (pa_cons (px_op op_addD (px_op op_subD (px_op op_mulD px_int (px_var (pv 4))) px_int) (px_fn G_law_random (hr.mono (by decide)) (by rfl) T.m_law_random T.F_law_random.kp T.b_law_random (pxa_o (pv 0) (pxa_d (px_op op_mulD px_int (px_var (pv 4))) pxa_nil)) (xaO_len (xaD_len (fun _ _ _ _ h => xaNil_len h))))) pa_nil)) (by rfl)))
  (psx_cons (psx_if (pxw_t (pxw_or (pxt_cmp op_isD (px_fn G_fewest (hr.mono (by decide)) (by rfl) T.m_fewest T.F_fewest.kp T.b_fewest (pxa_d (px_var (pv 3)) (pxa_d (px_var (pv 5)) (pxa_d (px_var (pv 1)) (pxa_d (px_var (pv 4)) pxa_nil)))) (xaD_len (xaD_len (xaD_len (xaD_len (fun _ _ _ _ h => xaNil_len h)))))) px_non (nomark _)) (pxw_or1 (pxw_t (pxw_and (pxt_cmp op_gtD (px_var (pv 5)) px_int (nomark _)) (pxw_and1 (pxt_cmp op_isntD (px_fn G_fewest (hr.mono (by decide)) (by rfl) T.m_fewest T.F_fewest.kp T.b_fewest (pxa_d (px_var (pv 3)) (pxa_d (px_op op_subD (px_var (pv 5)) px_int) (pxa_d (px_var (pv 1)) (pxa_d (px_var (pv 4)) pxa_nil)))) (xaD_len (xaD_len (xaD_len (xaD_len (fun _ _ _ _ h => xaNil_len h)))))) px_non (nomark _))))))))
  (psx_one (psx_ret px_bl))
  psx_nil)
  (psx_cons (psx_set (i := 2) sc_law_great_right.nd rfl (.inl rfl) (px_fn G_cells_within (hr.mono (by decide)) (by rfl) T.m_cells_within T.F_cells_within.kp T.b_cells_within (pxa_d (px_var (pv 3)) (pxa_d (px_var (pv 1)) (pxa_d (px_var (pv 4)) (pxa_d (px_var (pv 6)) pxa_nil)))) (xaD_len (xaD_len (xaD_len (xaD_len (fun _ _ _ _ h => xaNil_len h)))))))
  (psx_cons (psx_if (pxw_t (pxw_or (pxt_cmp op_ltD (px_var (pv 2)) (px_var (pv 5)) (nomark _)) (pxw_or (pxt_cmp op_gtD (px_fn G_fewest (hr.mono (by decide)) (by rfl) T.m_fewest T.F_fewest.kp T.b_fewest (pxa_d (px_var (pv 3)) (pxa_d (px_var (pv 2)) (pxa_d (px_var (pv 1)) (pxa_d (px_var (pv 4)) pxa_nil)))) (xaD_len (xaD_len (xaD_len (xaD_len (fun _ _ _ _ h => xaNil_len h)))))) (px_var (pv 6)) (nomark _)) (pxw_or1 (pxt_cmp op_isntD (px_fn G_cells_within (hr.mono (by decide)) (by rfl) T.m_cells_within T.F_cells_within.kp T.b_cells_within (pxa_d (px_var (pv 3)) (pxa_d (px_var (pv 1)) (pxa_d (px_var (pv 4)) (pxa_d (px_op op_subD (px_op op_mulD px_int (px_var (pv 4))) px_int) pxa_nil)))) (xaD_len (xaD_len (xaD_len (xaD_len (fun _ _ _ _ h => xaNil_len h)))))) px_non (nomark _))))))
  (psx_one (psx_ret px_bl))
  psx_nil)
  (psx_one (psx_ret (px_or (px_cmp (op_eqDD hr.u64) (px_var (pv 2)) (px_var (pv 5)) (nomark _)) (px_one (px_cmp op_gtD (px_fn G_fewest (hr.mono (by decide)) (by rfl) T.m_fewest T.F_fewest.kp T.b_fewest (pxa_d (px_var (pv 3)) (pxa_d (px_op op_subD (px_var (pv 2)) px_int) (pxa_d (px_var (pv 1)) (pxa_d (px_var (pv 4)) pxa_nil)))) (xaD_len (xaD_len (xaD_len (xaD_len (fun _ _ _ _ h => xaNil_len h)))))) (px_var (pv 6)) (nomark _))))))))))))
theorem ok_law (T : Tx K w mg) (G_cells_for : FnG P w K mg base 4 T.f_cells_for T.d_cells_for 3 ["kind", "empty", "many"] (spM K 3 m_cells_for)) (G_cells_within : FnG P w K mg base 7 T.f_cells_within T.d_cells_within 4 ["kind", "empty", "many", "steps"] (spM K 4 (m_cells_within T.Z))) (G_law_generator : FnG P w K mg base 2 T.f_law_generator T.d_law_generator 2 ["script", "index"] (spF K 2 m_law_generator)) (G_law_right : FnG P w K mg base 8 T.f_law_right T.d_law_right 1 ["generator"] (spM K 1 (m_law_right T.Z))) (G_law_great_right : FnG P w K mg base 8 T.f_law_great_right T.d_law_great_right 1 ["generator"] (spM K 1 (m_law_great_right T.Z))) : FnG P w K mg base 9 T.f_law T.d_law 1 ["script"] (spM K 1 (m_law T.Z)) :=
  fn_m T.F_law sc_law fun W cdv A outer s H E hr =>
  (psx_cons (psx_for PassesOwn.never rfl (pxi_range1 (by rfl) T.n_range (pxa_d px_int pxa_nil) (h1 := (xaD_len (fun _ _ _ _ h => xaNil_len h)))) (pxg_nm (pg_name (i := 1) sc_law.nd rfl (.inl rfl)))
  (psx_one (psx_if (pxt_not (pxt_truth (px_fnN G_law_right (hr.mono (by decide)) (by rfl) T.m_law_right T.F_law_right.kp T.b_law_right (pxf_fn G_law_generator (hr.mono (by decide)) (by rfl) T.m_law_generator T.F_law_generator.kp T.b_law_generator (pxa_d (px_var (pv 0)) (pxa_d (px_var (pv 1)) pxa_nil)) (xaD_len (xaD_len (fun _ _ _ _ h => xaNil_len h)))) pxa_nil (fun _ _ _ _ h => congrArg (· + 1) (xaNil_len h)))))
  (psx_one (psx_ret px_bl))
  psx_nil)))
  (psx_cons (psx_set (i := 2) sc_law.nd rfl (.inl rfl) (px_lst (pxa_d (px_fn G_cells_within (hr.mono (by decide)) (by rfl) T.m_cells_within T.F_cells_within.kp T.b_cells_within (pxa_d px_str (pxa_d px_int (pxa_d px_int (pxa_d px_int pxa_nil)))) (xaD_len (xaD_len (xaD_len (xaD_len (fun _ _ _ _ h => xaNil_len h)))))) (pxa_d (px_fn G_cells_within (hr.mono (by decide)) (by rfl) T.m_cells_within T.F_cells_within.kp T.b_cells_within (pxa_d px_str (pxa_d px_int (pxa_d px_int (pxa_d px_int pxa_nil)))) (xaD_len (xaD_len (xaD_len (xaD_len (fun _ _ _ _ h => xaNil_len h)))))) (pxa_d (px_fn G_cells_within (hr.mono (by decide)) (by rfl) T.m_cells_within T.F_cells_within.kp T.b_cells_within (pxa_d px_str (pxa_d px_int (pxa_d px_int (pxa_d px_int pxa_nil)))) (xaD_len (xaD_len (xaD_len (xaD_len (fun _ _ _ _ h => xaNil_len h)))))) (pxa_d (px_fn G_cells_within (hr.mono (by decide)) (by rfl) T.m_cells_within T.F_cells_within.kp T.b_cells_within (pxa_d px_str (pxa_d px_int (pxa_d px_int (pxa_d px_int pxa_nil)))) (xaD_len (xaD_len (xaD_len (xaD_len (fun _ _ _ _ h => xaNil_len h)))))) (pxa_d (px_fn G_cells_within (hr.mono (by decide)) (by rfl) T.m_cells_within T.F_cells_within.kp T.b_cells_within (pxa_d px_str (pxa_d px_int (pxa_d px_int (pxa_d px_int pxa_nil)))) (xaD_len (xaD_len (xaD_len (xaD_len (fun _ _ _ _ h => xaNil_len h)))))) pxa_nil)))))))
  (psx_cons (psx_if (pxt_cmp (op_neDD hr.u64) (px_bi (c_repr hr.gd hr.u65) (by rfl) T.n_repr bt_repr (pxa_d (px_var (pv 2)) pxa_nil)) (px_bi (c_repr hr.gd hr.u65) (by rfl) T.n_repr bt_repr (pxa_d (px_lst (pxa_d px_int (pxa_d px_int (pxa_d px_int (pxa_d px_int (pxa_d px_int pxa_nil)))))) pxa_nil)) (nomark _))
  (psx_one (psx_ret px_bl))
  psx_nil)
  (psx_cons (psx_set (i := 2) sc_law.nd rfl (.inl rfl) (px_lst (pxa_d (px_fn G_cells_for (hr.mono (by decide)) (by rfl) T.m_cells_for T.F_cells_for.kp T.b_cells_for (pxa_d px_str (pxa_d px_int (pxa_d px_int pxa_nil))) (xaD_len (xaD_len (xaD_len (fun _ _ _ _ h => xaNil_len h))))) (pxa_d (px_fn G_cells_for (hr.mono (by decide)) (by rfl) T.m_cells_for T.F_cells_for.kp T.b_cells_for (pxa_d px_str (pxa_d px_int (pxa_d px_int pxa_nil))) (xaD_len (xaD_len (xaD_len (fun _ _ _ _ h => xaNil_len h))))) (pxa_d (px_fn G_cells_for (hr.mono (by decide)) (by rfl) T.m_cells_for T.F_cells_for.kp T.b_cells_for (pxa_d px_str (pxa_d px_int (pxa_d px_int pxa_nil))) (xaD_len (xaD_len (xaD_len (fun _ _ _ _ h => xaNil_len h))))) (pxa_d (px_fn G_cells_within (hr.mono (by decide)) (by rfl) T.m_cells_within T.F_cells_within.kp T.b_cells_within (pxa_d px_str (pxa_d px_int (pxa_d px_int (pxa_d px_int pxa_nil)))) (xaD_len (xaD_len (xaD_len (xaD_len (fun _ _ _ _ h => xaNil_len h)))))) (pxa_d (px_fn G_cells_within (hr.mono (by decide)) (by rfl) T.m_cells_within T.F_cells_within.kp T.b_cells_within (pxa_d px_str (pxa_d px_int (pxa_d px_int (pxa_d px_int pxa_nil)))) (xaD_len (xaD_len (xaD_len (xaD_len (fun _ _ _ _ h => xaNil_len h)))))) pxa_nil)))))))
  (psx_cons (psx_set (i := 2) sc_law.nd rfl (.inl rfl) (px_op op_addD (px_var (pv 2)) (px_lst (pxa_d (px_fn G_cells_within (hr.mono (by decide)) (by rfl) T.m_cells_within T.F_cells_within.kp T.b_cells_within (pxa_d px_str (pxa_d px_int (pxa_d px_int (pxa_d px_int pxa_nil)))) (xaD_len (xaD_len (xaD_len (xaD_len (fun _ _ _ _ h => xaNil_len h)))))) (pxa_d (px_fn G_cells_within (hr.mono (by decide)) (by rfl) T.m_cells_within T.F_cells_within.kp T.b_cells_within (pxa_d px_str (pxa_d px_int (pxa_d px_int (pxa_d px_int pxa_nil)))) (xaD_len (xaD_len (xaD_len (xaD_len (fun _ _ _ _ h => xaNil_len h)))))) (pxa_d (px_fn G_cells_within (hr.mono (by decide)) (by rfl) T.m_cells_within T.F_cells_within.kp T.b_cells_within (pxa_d px_str (pxa_d px_int (pxa_d (px_op op_powD px_int px_int) (pxa_d (px_op op_mulD px_int (px_op op_powD px_int px_int)) pxa_nil)))) (xaD_len (xaD_len (xaD_len (xaD_len (fun _ _ _ _ h => xaNil_len h)))))) pxa_nil))))))
  (psx_one (psx_ret (px_and (px_cmp (op_eqDD hr.u64) (px_bi (c_repr hr.gd hr.u65) (by rfl) T.n_repr bt_repr (pxa_d (px_var (pv 2)) pxa_nil)) (px_bi (c_repr hr.gd hr.u65) (by rfl) T.n_repr bt_repr (pxa_d (px_lst (pxa_d px_int (pxa_d px_int (pxa_d px_int (pxa_d px_int (pxa_d px_int (pxa_d px_non (pxa_d px_int (pxa_d (px_op op_subD (px_op op_powD px_int px_int) px_int) pxa_nil))))))))) pxa_nil)) (nomark _)) (px_one (px_fnN G_law_great_right (hr.mono (by decide)) (by rfl) T.m_law_great_right T.F_law_great_right.kp T.b_law_great_right (pxf_fn G_law_generator (hr.mono (by decide)) (by rfl) T.m_law_generator T.F_law_generator.kp T.b_law_generator (pxa_d (px_var (pv 0)) (pxa_d px_int pxa_nil)) (xaD_len (xaD_len (fun _ _ _ _ h => xaNil_len h)))) pxa_nil (fun _ _ _ _ h => congrArg (· + 1) (xaNil_len h))))))))))))
end
theorem all_mk {l : PySem.W.OpenLaw} {w : World} {K : PySem.W.Frag} {h : Heap} {mg : Str → Option Value} {fa : Addr} (X : K.In h) (G : h.Ns mainGlobals mg) (hfa : mg "law" = some (.ref fa))
    {C0 : Addr} (aC0 : PySem.W.nsIn K mainGlobals "Walk" = some (some (.ref C0)))
    (pg0 : PySem.W.plainGet K C0 Str.empty = true) (hd0 : PySem.W.hasDictIn K C0 = true) (po0 : PySem.W.plainOver K C0 = true) (sa0 : PySem.W.findIn K (.ref C0) "__setattr__" = some (some (.builtin "object.__setattr__"))) (mk0 : PySem.W.makesIn K C0 = true) (kc0 : PySem.W.keepIn K (.ref C0) = true)
    (na0_rows : PySem.W.findIn K (.ref C0) "rows" = some none)
    (na0_at : PySem.W.findIn K (.ref C0) "at" = some none)
    (na0_passed : PySem.W.findIn K (.ref C0) "passed" = some none)
    {f0 : Addr} {od0 an0 : Option Addr} {sl0 : Array (Option Value)} {oc0 kV0 dc0 pm0 cd0 ct0 : Value}
    (a0 : PySem.W.nsIn K mainGlobals "is_whole" = some (some (.ref f0)))
    (l0 : K.lookup f0 = some ⟨oc0, od0, .func (PySem.W.fnOf "is_whole" "is_whole" (defArgs s_is_whole) (defBody s_is_whole) (defScope s_is_whole) .none kV0 dc0 pm0 an0 cd0 ct0), sl0⟩) (c0 : PySem.W.codeIn K cd0 "is_whole" = true) (k0 : PySem.W.keepIn K (.ref f0) = true)
    {f1 : Addr} {od1 an1 : Option Addr} {sl1 : Array (Option Value)} {oc1 kV1 dc1 pm1 cd1 ct1 : Value}
    (a1 : PySem.W.nsIn K mainGlobals "is_from" = some (some (.ref f1)))
    (l1 : K.lookup f1 = some ⟨oc1, od1, .func (PySem.W.fnOf "is_from" "is_from" (defArgs s_is_from) (defBody s_is_from) (defScope s_is_from) .none kV1 dc1 pm1 an1 cd1 ct1), sl1⟩) (c1 : PySem.W.codeIn K cd1 "is_from" = true) (k1 : PySem.W.keepIn K (.ref f1) = true)
    {f2 : Addr} {od2 an2 : Option Addr} {sl2 : Array (Option Value)} {oc2 kV2 dc2 pm2 cd2 ct2 : Value}
    (a2 : PySem.W.nsIn K mainGlobals "is_within" = some (some (.ref f2)))
    (l2 : K.lookup f2 = some ⟨oc2, od2, .func (PySem.W.fnOf "is_within" "is_within" (defArgs s_is_within) (defBody s_is_within) (defScope s_is_within) .none kV2 dc2 pm2 an2 cd2 ct2), sl2⟩) (c2 : PySem.W.codeIn K cd2 "is_within" = true) (k2 : PySem.W.keepIn K (.ref f2) = true)
    {f3 : Addr} {od3 an3 : Option Addr} {sl3 : Array (Option Value)} {oc3 kV3 dc3 pm3 cd3 ct3 : Value}
    (a3 : PySem.W.nsIn K mainGlobals "check_from" = some (some (.ref f3)))
    (l3 : K.lookup f3 = some ⟨oc3, od3, .func (PySem.W.fnOf "check_from" "check_from" (defArgs s_check_from) (defBody s_check_from) (defScope s_check_from) .none kV3 dc3 pm3 an3 cd3 ct3), sl3⟩) (c3 : PySem.W.codeIn K cd3 "check_from" = true) (k3 : PySem.W.keepIn K (.ref f3) = true)
    {f4 : Addr} {od4 an4 : Option Addr} {sl4 : Array (Option Value)} {oc4 kV4 dc4 pm4 cd4 ct4 : Value}
    (a4 : PySem.W.nsIn K mainGlobals "is_kind" = some (some (.ref f4)))
    (l4 : K.lookup f4 = some ⟨oc4, od4, .func (PySem.W.fnOf "is_kind" "is_kind" (defArgs s_is_kind) (defBody s_is_kind) (defScope s_is_kind) .none kV4 dc4 pm4 an4 cd4 ct4), sl4⟩) (c4 : PySem.W.codeIn K cd4 "is_kind" = true) (k4 : PySem.W.keepIn K (.ref f4) = true)
    {f5 : Addr} {od5 an5 : Option Addr} {sl5 : Array (Option Value)} {oc5 kV5 dc5 pm5 cd5 ct5 : Value}
    (a5 : PySem.W.nsIn K mainGlobals "check_kind" = some (some (.ref f5)))
    (l5 : K.lookup f5 = some ⟨oc5, od5, .func (PySem.W.fnOf "check_kind" "check_kind" (defArgs s_check_kind) (defBody s_check_kind) (defScope s_check_kind) .none kV5 dc5 pm5 an5 cd5 ct5), sl5⟩) (c5 : PySem.W.codeIn K cd5 "check_kind" = true) (k5 : PySem.W.keepIn K (.ref f5) = true)
    {f6 : Addr} {od6 an6 : Option Addr} {sl6 : Array (Option Value)} {oc6 kV6 dc6 pm6 cd6 ct6 : Value}
    (a6 : PySem.W.nsIn K mainGlobals "bound_beside" = some (some (.ref f6)))
    (l6 : K.lookup f6 = some ⟨oc6, od6, .func (PySem.W.fnOf "bound_beside" "bound_beside" (defArgs s_bound_beside) (defBody s_bound_beside) (defScope s_bound_beside) .none kV6 dc6 pm6 an6 cd6 ct6), sl6⟩) (c6 : PySem.W.codeIn K cd6 "bound_beside" = true) (k6 : PySem.W.keepIn K (.ref f6) = true)
    {f7 : Addr} {od7 an7 : Option Addr} {sl7 : Array (Option Value)} {oc7 kV7 dc7 pm7 cd7 ct7 : Value}
    (a7 : PySem.W.nsIn K mainGlobals "cells_beside" = some (some (.ref f7)))
    (l7 : K.lookup f7 = some ⟨oc7, od7, .func (PySem.W.fnOf "cells_beside" "cells_beside" (defArgs s_cells_beside) (defBody s_cells_beside) (defScope s_cells_beside) .none kV7 dc7 pm7 an7 cd7 ct7), sl7⟩) (c7 : PySem.W.codeIn K cd7 "cells_beside" = true) (k7 : PySem.W.keepIn K (.ref f7) = true)
    {f8 : Addr} {od8 an8 : Option Addr} {sl8 : Array (Option Value)} {oc8 kV8 dc8 pm8 cd8 ct8 : Value}
    (a8 : PySem.W.nsIn K mainGlobals "fewest_empty" = some (some (.ref f8)))
    (l8 : K.lookup f8 = some ⟨oc8, od8, .func (PySem.W.fnOf "fewest_empty" "fewest_empty" (defArgs s_fewest_empty) (defBody s_fewest_empty) (defScope s_fewest_empty) .none kV8 dc8 pm8 an8 cd8 ct8), sl8⟩) (c8 : PySem.W.codeIn K cd8 "fewest_empty" = true) (k8 : PySem.W.keepIn K (.ref f8) = true)
    {f9 : Addr} {od9 an9 : Option Addr} {sl9 : Array (Option Value)} {oc9 kV9 dc9 pm9 cd9 ct9 : Value}
    (a9 : PySem.W.findIn K (.ref C0) "__init__" = some (some (.ref f9))) (i9 : PySem.W.isFn K (.ref f9) = true)
    (l9 : K.lookup f9 = some ⟨oc9, od9, .func (PySem.W.fnOf "__init__" "Walk.__init__" (defArgs s_Walk__init) (defBody s_Walk__init) (defScope s_Walk__init) .none kV9 dc9 pm9 an9 cd9 ct9), sl9⟩) (c9 : PySem.W.codeIn K cd9 "Walk.__init__" = true) (k9 : PySem.W.keepIn K (.ref f9) = true)
    {f10 : Addr} {od10 an10 : Option Addr} {sl10 : Array (Option Value)} {oc10 kV10 dc10 pm10 cd10 ct10 : Value}
    (a10 : PySem.W.findIn K (.ref C0) "is_over" = some (some (.ref f10))) (i10 : PySem.W.isFn K (.ref f10) = true)
    (l10 : K.lookup f10 = some ⟨oc10, od10, .func (PySem.W.fnOf "is_over" "Walk.is_over" (defArgs s_Walk_is_over) (defBody s_Walk_is_over) (defScope s_Walk_is_over) .none kV10 dc10 pm10 an10 cd10 ct10), sl10⟩) (c10 : PySem.W.codeIn K cd10 "Walk.is_over" = true) (k10 : PySem.W.keepIn K (.ref f10) = true)
    {f11 : Addr} {od11 an11 : Option Addr} {sl11 : Array (Option Value)} {oc11 kV11 dc11 pm11 cd11 ct11 : Value}
    (a11 : PySem.W.findIn K (.ref C0) "price" = some (some (.ref f11))) (i11 : PySem.W.isFn K (.ref f11) = true)
    (l11 : K.lookup f11 = some ⟨oc11, od11, .func (PySem.W.fnOf "price" "Walk.price" (defArgs s_Walk_price) (defBody s_Walk_price) (defScope s_Walk_price) .none kV11 dc11 pm11 an11 cd11 ct11), sl11⟩) (c11 : PySem.W.codeIn K cd11 "Walk.price" = true) (k11 : PySem.W.keepIn K (.ref f11) = true)
    {f12 : Addr} {od12 an12 : Option Addr} {sl12 : Array (Option Value)} {oc12 kV12 dc12 pm12 cd12 ct12 : Value}
    (a12 : PySem.W.findIn K (.ref C0) "left" = some (some (.ref f12))) (i12 : PySem.W.isFn K (.ref f12) = true)
    (l12 : K.lookup f12 = some ⟨oc12, od12, .func (PySem.W.fnOf "left" "Walk.left" (defArgs s_Walk_left) (defBody s_Walk_left) (defScope s_Walk_left) .none kV12 dc12 pm12 an12 cd12 ct12), sl12⟩) (c12 : PySem.W.codeIn K cd12 "Walk.left" = true) (k12 : PySem.W.keepIn K (.ref f12) = true)
    {f13 : Addr} {od13 an13 : Option Addr} {sl13 : Array (Option Value)} {oc13 kV13 dc13 pm13 cd13 ct13 : Value}
    (a13 : PySem.W.findIn K (.ref C0) "go_on" = some (some (.ref f13))) (i13 : PySem.W.isFn K (.ref f13) = true)
    (l13 : K.lookup f13 = some ⟨oc13, od13, .func (PySem.W.fnOf "go_on" "Walk.go_on" (defArgs s_Walk_go_on) (defBody s_Walk_go_on) (defScope s_Walk_go_on) .none kV13 dc13 pm13 an13 cd13 ct13), sl13⟩) (c13 : PySem.W.codeIn K cd13 "Walk.go_on" = true) (k13 : PySem.W.keepIn K (.ref f13) = true)
    {f14 : Addr} {od14 an14 : Option Addr} {sl14 : Array (Option Value)} {oc14 kV14 dc14 pm14 cd14 ct14 : Value}
    (a14 : PySem.W.nsIn K mainGlobals "next_price" = some (some (.ref f14)))
    (l14 : K.lookup f14 = some ⟨oc14, od14, .func (PySem.W.fnOf "next_price" "next_price" (defArgs s_next_price) (defBody s_next_price) (defScope s_next_price) .none kV14 dc14 pm14 an14 cd14 ct14), sl14⟩) (c14 : PySem.W.codeIn K cd14 "next_price" = true) (k14 : PySem.W.keepIn K (.ref f14) = true)
    {f15 : Addr} {od15 an15 : Option Addr} {sl15 : Array (Option Value)} {oc15 kV15 dc15 pm15 cd15 ct15 : Value}
    (a15 : PySem.W.nsIn K mainGlobals "go_past" = some (some (.ref f15)))
    (l15 : K.lookup f15 = some ⟨oc15, od15, .func (PySem.W.fnOf "go_past" "go_past" (defArgs s_go_past) (defBody s_go_past) (defScope s_go_past) .none kV15 dc15 pm15 an15 cd15 ct15), sl15⟩) (c15 : PySem.W.codeIn K cd15 "go_past" = true) (k15 : PySem.W.keepIn K (.ref f15) = true)
    {f16 : Addr} {od16 an16 : Option Addr} {sl16 : Array (Option Value)} {oc16 kV16 dc16 pm16 cd16 ct16 : Value}
    (a16 : PySem.W.nsIn K mainGlobals "first_list" = some (some (.ref f16)))
    (l16 : K.lookup f16 = some ⟨oc16, od16, .func (PySem.W.fnOf "first_list" "first_list" (defArgs s_first_list) (defBody s_first_list) (defScope s_first_list) .none kV16 dc16 pm16 an16 cd16 ct16), sl16⟩) (c16 : PySem.W.codeIn K cd16 "first_list" = true) (k16 : PySem.W.keepIn K (.ref f16) = true)
    {f17 : Addr} {od17 an17 : Option Addr} {sl17 : Array (Option Value)} {oc17 kV17 dc17 pm17 cd17 ct17 : Value}
    (a17 : PySem.W.nsIn K mainGlobals "list_behind" = some (some (.ref f17)))
    (l17 : K.lookup f17 = some ⟨oc17, od17, .func (PySem.W.fnOf "list_behind" "list_behind" (defArgs s_list_behind) (defBody s_list_behind) (defScope s_list_behind) .none kV17 dc17 pm17 an17 cd17 ct17), sl17⟩) (c17 : PySem.W.codeIn K cd17 "list_behind" = true) (k17 : PySem.W.keepIn K (.ref f17) = true)
    {f18 : Addr} {od18 an18 : Option Addr} {sl18 : Array (Option Value)} {oc18 kV18 dc18 pm18 cd18 ct18 : Value}
    (a18 : PySem.W.nsIn K mainGlobals "lists_to" = some (some (.ref f18)))
    (l18 : K.lookup f18 = some ⟨oc18, od18, .func (PySem.W.fnOf "lists_to" "lists_to" (defArgs s_lists_to) (defBody s_lists_to) (defScope s_lists_to) .none kV18 dc18 pm18 an18 cd18 ct18), sl18⟩) (c18 : PySem.W.codeIn K cd18 "lists_to" = true) (k18 : PySem.W.keepIn K (.ref f18) = true)
    {f19 : Addr} {od19 an19 : Option Addr} {sl19 : Array (Option Value)} {oc19 kV19 dc19 pm19 cd19 ct19 : Value}
    (a19 : PySem.W.nsIn K mainGlobals "told_together" = some (some (.ref f19)))
    (l19 : K.lookup f19 = some ⟨oc19, od19, .func (PySem.W.fnOf "told_together" "told_together" (defArgs s_told_together) (defBody s_told_together) (defScope s_told_together) .none kV19 dc19 pm19 an19 cd19 ct19), sl19⟩) (c19 : PySem.W.codeIn K cd19 "told_together" = true) (k19 : PySem.W.keepIn K (.ref f19) = true)
    {f20 : Addr} {od20 an20 : Option Addr} {sl20 : Array (Option Value)} {oc20 kV20 dc20 pm20 cd20 ct20 : Value}
    (a20 : PySem.W.nsIn K mainGlobals "rows_beside" = some (some (.ref f20)))
    (l20 : K.lookup f20 = some ⟨oc20, od20, .func (PySem.W.fnOf "rows_beside" "rows_beside" (defArgs s_rows_beside) (defBody s_rows_beside) (defScope s_rows_beside) .none kV20 dc20 pm20 an20 cd20 ct20), sl20⟩) (c20 : PySem.W.codeIn K cd20 "rows_beside" = true) (k20 : PySem.W.keepIn K (.ref f20) = true)
    {f21 : Addr} {od21 an21 : Option Addr} {sl21 : Array (Option Value)} {oc21 kV21 dc21 pm21 cd21 ct21 : Value}
    (a21 : PySem.W.nsIn K mainGlobals "sum_of_least" = some (some (.ref f21)))
    (l21 : K.lookup f21 = some ⟨oc21, od21, .func (PySem.W.fnOf "sum_of_least" "sum_of_least" (defArgs s_sum_of_least) (defBody s_sum_of_least) (defScope s_sum_of_least) .none kV21 dc21 pm21 an21 cd21 ct21), sl21⟩) (c21 : PySem.W.codeIn K cd21 "sum_of_least" = true) (k21 : PySem.W.keepIn K (.ref f21) = true)
    {f22 : Addr} {od22 an22 : Option Addr} {sl22 : Array (Option Value)} {oc22 kV22 dc22 pm22 cd22 ct22 : Value}
    (a22 : PySem.W.nsIn K mainGlobals "check_beside" = some (some (.ref f22)))
    (l22 : K.lookup f22 = some ⟨oc22, od22, .func (PySem.W.fnOf "check_beside" "check_beside" (defArgs s_check_beside) (defBody s_check_beside) (defScope s_check_beside) .none kV22 dc22 pm22 an22 cd22 ct22), sl22⟩) (c22 : PySem.W.codeIn K cd22 "check_beside" = true) (k22 : PySem.W.keepIn K (.ref f22) = true)
    {f23 : Addr} {od23 an23 : Option Addr} {sl23 : Array (Option Value)} {oc23 kV23 dc23 pm23 cd23 ct23 : Value}
    (a23 : PySem.W.nsIn K mainGlobals "fewest" = some (some (.ref f23)))
    (l23 : K.lookup f23 = some ⟨oc23, od23, .func (PySem.W.fnOf "fewest" "fewest" (defArgs s_fewest) (defBody s_fewest) (defScope s_fewest) .none kV23 dc23 pm23 an23 cd23 ct23), sl23⟩) (c23 : PySem.W.codeIn K cd23 "fewest" = true) (k23 : PySem.W.keepIn K (.ref f23) = true)
    {f24 : Addr} {od24 an24 : Option Addr} {sl24 : Array (Option Value)} {oc24 kV24 dc24 pm24 cd24 ct24 : Value}
    (a24 : PySem.W.nsIn K mainGlobals "check_columns" = some (some (.ref f24)))
    (l24 : K.lookup f24 = some ⟨oc24, od24, .func (PySem.W.fnOf "check_columns" "check_columns" (defArgs s_check_columns) (defBody s_check_columns) (defScope s_check_columns) .none kV24 dc24 pm24 an24 cd24 ct24), sl24⟩) (c24 : PySem.W.codeIn K cd24 "check_columns" = true) (k24 : PySem.W.keepIn K (.ref f24) = true)
    {f25 : Addr} {od25 an25 : Option Addr} {sl25 : Array (Option Value)} {oc25 kV25 dc25 pm25 cd25 ct25 : Value}
    (a25 : PySem.W.nsIn K mainGlobals "cells_for" = some (some (.ref f25)))
    (l25 : K.lookup f25 = some ⟨oc25, od25, .func (PySem.W.fnOf "cells_for" "cells_for" (defArgs s_cells_for) (defBody s_cells_for) (defScope s_cells_for) .none kV25 dc25 pm25 an25 cd25 ct25), sl25⟩) (c25 : PySem.W.codeIn K cd25 "cells_for" = true) (k25 : PySem.W.keepIn K (.ref f25) = true)
    {f26 : Addr} {od26 an26 : Option Addr} {sl26 : Array (Option Value)} {oc26 kV26 dc26 pm26 cd26 ct26 : Value}
    (a26 : PySem.W.nsIn K mainGlobals "cells_within" = some (some (.ref f26)))
    (l26 : K.lookup f26 = some ⟨oc26, od26, .func (PySem.W.fnOf "cells_within" "cells_within" (defArgs s_cells_within) (defBody s_cells_within) (defScope s_cells_within) .none kV26 dc26 pm26 an26 cd26 ct26), sl26⟩) (c26 : PySem.W.codeIn K cd26 "cells_within" = true) (k26 : PySem.W.keepIn K (.ref f26) = true)
    {f27 : Addr} {od27 an27 : Option Addr} {sl27 : Array (Option Value)} {oc27 kV27 dc27 pm27 cd27 ct27 : Value}
    (a27 : PySem.W.nsIn K mainGlobals "_law_hash" = some (some (.ref f27)))
    (l27 : K.lookup f27 = some ⟨oc27, od27, .func (PySem.W.fnOf "_law_hash" "_law_hash" (defArgs s_law_hash) (defBody s_law_hash) (defScope s_law_hash) .none kV27 dc27 pm27 an27 cd27 ct27), sl27⟩) (c27 : PySem.W.codeIn K cd27 "_law_hash" = true) (k27 : PySem.W.keepIn K (.ref f27) = true)
    {f28 : Addr} {od28 an28 : Option Addr} {sl28 : Array (Option Value)} {oc28 kV28 dc28 pm28 cd28 ct28 : Value}
    (a28 : PySem.W.nsIn K mainGlobals "_law_random" = some (some (.ref f28)))
    (l28 : K.lookup f28 = some ⟨oc28, od28, .func (PySem.W.fnOf "_law_random" "_law_random" (defArgs s_law_random) (defBody s_law_random) (defScope s_law_random) .none kV28 dc28 pm28 an28 cd28 ct28), sl28⟩) (c28 : PySem.W.codeIn K cd28 "_law_random" = true) (k28 : PySem.W.keepIn K (.ref f28) = true)
    {f29 : Addr} {od29 an29 : Option Addr} {sl29 : Array (Option Value)} {oc29 kV29 dc29 pm29 cd29 ct29 : Value}
    (a29 : PySem.W.nsIn K mainGlobals "_law_cell" = some (some (.ref f29)))
    (l29 : K.lookup f29 = some ⟨oc29, od29, .func (PySem.W.fnOf "_law_cell" "_law_cell" (defArgs s_law_cell) (defBody s_law_cell) (defScope s_law_cell) .none kV29 dc29 pm29 an29 cd29 ct29), sl29⟩) (c29 : PySem.W.codeIn K cd29 "_law_cell" = true) (k29 : PySem.W.keepIn K (.ref f29) = true)
    {f30 : Addr} {od30 an30 : Option Addr} {sl30 : Array (Option Value)} {oc30 kV30 dc30 pm30 cd30 ct30 : Value}
    (a30 : PySem.W.nsIn K mainGlobals "_law_generator" = some (some (.ref f30)))
    (l30 : K.lookup f30 = some ⟨oc30, od30, .func (PySem.W.fnOf "_law_generator" "_law_generator" (defArgs s_law_generator) (defBody s_law_generator) (defScope s_law_generator) .none kV30 dc30 pm30 an30 cd30 ct30), sl30⟩) (c30 : PySem.W.codeIn K cd30 "_law_generator" = true) (k30 : PySem.W.keepIn K (.ref f30) = true)
    {f31 : Addr} {od31 an31 : Option Addr} {sl31 : Array (Option Value)} {oc31 kV31 dc31 pm31 cd31 ct31 : Value}
    (a31 : PySem.W.nsIn K mainGlobals "_law_lists" = some (some (.ref f31)))
    (l31 : K.lookup f31 = some ⟨oc31, od31, .func (PySem.W.fnOf "_law_lists" "_law_lists" (defArgs s_law_lists) (defBody s_law_lists) (defScope s_law_lists) .none kV31 dc31 pm31 an31 cd31 ct31), sl31⟩) (c31 : PySem.W.codeIn K cd31 "_law_lists" = true) (k31 : PySem.W.keepIn K (.ref f31) = true)
    {f32 : Addr} {od32 an32 : Option Addr} {sl32 : Array (Option Value)} {oc32 kV32 dc32 pm32 cd32 ct32 : Value}
    (a32 : PySem.W.nsIn K mainGlobals "_law_prices" = some (some (.ref f32)))
    (l32 : K.lookup f32 = some ⟨oc32, od32, .func (PySem.W.fnOf "_law_prices" "_law_prices" (defArgs s_law_prices) (defBody s_law_prices) (defScope s_law_prices) .none kV32 dc32 pm32 an32 cd32 ct32), sl32⟩) (c32 : PySem.W.codeIn K cd32 "_law_prices" = true) (k32 : PySem.W.keepIn K (.ref f32) = true)
    {f33 : Addr} {od33 an33 : Option Addr} {sl33 : Array (Option Value)} {oc33 kV33 dc33 pm33 cd33 ct33 : Value}
    (a33 : PySem.W.nsIn K mainGlobals "_law_kind" = some (some (.ref f33)))
    (l33 : K.lookup f33 = some ⟨oc33, od33, .func (PySem.W.fnOf "_law_kind" "_law_kind" (defArgs s_law_kind) (defBody s_law_kind) (defScope s_law_kind) .none kV33 dc33 pm33 an33 cd33 ct33), sl33⟩) (c33 : PySem.W.codeIn K cd33 "_law_kind" = true) (k33 : PySem.W.keepIn K (.ref f33) = true)
    {f34 : Addr} {od34 an34 : Option Addr} {sl34 : Array (Option Value)} {oc34 kV34 dc34 pm34 cd34 ct34 : Value}
    (a34 : PySem.W.nsIn K mainGlobals "_law_columns" = some (some (.ref f34)))
    (l34 : K.lookup f34 = some ⟨oc34, od34, .func (PySem.W.fnOf "_law_columns" "_law_columns" (defArgs s_law_columns) (defBody s_law_columns) (defScope s_law_columns) .none kV34 dc34 pm34 an34 cd34 ct34), sl34⟩) (c34 : PySem.W.codeIn K cd34 "_law_columns" = true) (k34 : PySem.W.keepIn K (.ref f34) = true)
    {f35 : Addr} {od35 an35 : Option Addr} {sl35 : Array (Option Value)} {oc35 kV35 dc35 pm35 cd35 ct35 : Value}
    (a35 : PySem.W.nsIn K mainGlobals "_law_least" = some (some (.ref f35)))
    (l35 : K.lookup f35 = some ⟨oc35, od35, .func (PySem.W.fnOf "_law_least" "_law_least" (defArgs s_law_least) (defBody s_law_least) (defScope s_law_least) .none kV35 dc35 pm35 an35 cd35 ct35), sl35⟩) (c35 : PySem.W.codeIn K cd35 "_law_least" = true) (k35 : PySem.W.keepIn K (.ref f35) = true)
    {f36 : Addr} {od36 an36 : Option Addr} {sl36 : Array (Option Value)} {oc36 kV36 dc36 pm36 cd36 ct36 : Value}
    (a36 : PySem.W.nsIn K mainGlobals "_law_right" = some (some (.ref f36)))
    (l36 : K.lookup f36 = some ⟨oc36, od36, .func (PySem.W.fnOf "_law_right" "_law_right" (defArgs s_law_right) (defBody s_law_right) (defScope s_law_right) .none kV36 dc36 pm36 an36 cd36 ct36), sl36⟩) (c36 : PySem.W.codeIn K cd36 "_law_right" = true) (k36 : PySem.W.keepIn K (.ref f36) = true)
    {f37 : Addr} {od37 an37 : Option Addr} {sl37 : Array (Option Value)} {oc37 kV37 dc37 pm37 cd37 ct37 : Value}
    (a37 : PySem.W.nsIn K mainGlobals "_law_great_right" = some (some (.ref f37)))
    (l37 : K.lookup f37 = some ⟨oc37, od37, .func (PySem.W.fnOf "_law_great_right" "_law_great_right" (defArgs s_law_great_right) (defBody s_law_great_right) (defScope s_law_great_right) .none kV37 dc37 pm37 an37 cd37 ct37), sl37⟩) (c37 : PySem.W.codeIn K cd37 "_law_great_right" = true) (k37 : PySem.W.keepIn K (.ref f37) = true)
    {f38 : Addr} {od38 an38 : Option Addr} {sl38 : Array (Option Value)} {oc38 kV38 dc38 pm38 cd38 ct38 : Value}
    (a38 : PySem.W.nsIn K mainGlobals "law" = some (some (.ref f38)))
    (l38 : K.lookup f38 = some ⟨oc38, od38, .func (PySem.W.fnOf "law" "law" (defArgs s_law) (defBody s_law) (defScope s_law) .none kV38 dc38 pm38 an38 cd38 ct38), sl38⟩) (c38 : PySem.W.codeIn K cd38 "law" = true) (k38 : PySem.W.keepIn K (.ref f38) = true)
    (z_any : PySem.W.nsIn K mainGlobals "any" = some none)
    (z_bool : PySem.W.nsIn K mainGlobals "bool" = some none)
    (z_enumerate : PySem.W.nsIn K mainGlobals "enumerate" = some none)
    (z_int : PySem.W.nsIn K mainGlobals "int" = some none)
    (z_isinstance : PySem.W.nsIn K mainGlobals "isinstance" = some none)
    (z_len : PySem.W.nsIn K mainGlobals "len" = some none)
    (z_max : PySem.W.nsIn K mainGlobals "max" = some none)
    (z_min : PySem.W.nsIn K mainGlobals "min" = some none)
    (z_range : PySem.W.nsIn K mainGlobals "range" = some none)
    (z_repr : PySem.W.nsIn K mainGlobals "repr" = some none)
    (z_sorted : PySem.W.nsIn K mainGlobals "sorted" = some none)
    (z_sum : PySem.W.nsIn K mainGlobals "sum" = some none)
    {p_KINDS : Addr} {dd_KINDS : Option Addr} {nn_KINDS : Nat} {ss_KINDS : Array (Option Value)} {t0_KINDS t1_KINDS t2_KINDS : Tok} (g_KINDS : PySem.W.nsIn K mainGlobals "KINDS" = some (some (.ref p_KINDS))) (o_KINDS : K.lookup p_KINDS = some ⟨.type "tuple", dd_KINDS, .seq #[.str "over" t0_KINDS, .str "into" t1_KINDS, .str "whole" t2_KINDS] nn_KINDS, ss_KINDS⟩)
    {tk_MOST_EMPTY : Tok} (g_MOST_EMPTY : PySem.W.nsIn K mainGlobals "MOST_EMPTY" = some (some (.int 7 tk_MOST_EMPTY))) :
    ∃ Z, ∃ fd : FuncData, (∀ (s : Shared) (v : Value), BindsTo s fd ⟨[v], []⟩ [("script", v)]) ∧ ∀ base : Heap, K.In base → base.Ns mainGlobals mg → FnG l.prog w K mg base 9 fa fd 1 ["script"] (spM K 1 (m_law Z)) := by
  have e := hfa.symm.trans (PySem.W.mg_of X G a38)
  cases e
  let T : Tx K w mg := {
    Z := ⟨C0⟩
    cl_Walk := ⟨pg0, hd0, po0, sa0⟩
    mg_Walk := PySem.W.mg_of X G aC0
    na_Walk_rows := na0_rows
    na_Walk_at := na0_at
    na_Walk_passed := na0_passed
    f_is_whole := f0
    d_is_whole := _
    F_is_whole := fun_mk (st := s_is_whole) l0 c0 k0
    b_is_whole := (fun_mk (st := s_is_whole) l0 c0 k0).binds (ps := ["value"]) fun _ _ _ _ _ _ us hl => match us, hl with | [_], _ => rfl
    m_is_whole := PySem.W.mg_of X G a0
    f_is_from := f1
    d_is_from := _
    F_is_from := fun_mk (st := s_is_from) l1 c1 k1
    b_is_from := (fun_mk (st := s_is_from) l1 c1 k1).binds (ps := ["value", "low"]) fun _ _ _ _ _ _ us hl => match us, hl with | [_, _], _ => rfl
    m_is_from := PySem.W.mg_of X G a1
    f_is_within := f2
    d_is_within := _
    F_is_within := fun_mk (st := s_is_within) l2 c2 k2
    b_is_within := (fun_mk (st := s_is_within) l2 c2 k2).binds (ps := ["value", "low", "high"]) fun _ _ _ _ _ _ us hl => match us, hl with | [_, _, _], _ => rfl
    m_is_within := PySem.W.mg_of X G a2
    f_check_from := f3
    d_check_from := _
    F_check_from := fun_mk (st := s_check_from) l3 c3 k3
    b_check_from := (fun_mk (st := s_check_from) l3 c3 k3).binds (ps := ["value", "low"]) fun _ _ _ _ _ _ us hl => match us, hl with | [_, _], _ => rfl
    m_check_from := PySem.W.mg_of X G a3
    f_is_kind := f4
    d_is_kind := _
    F_is_kind := fun_mk (st := s_is_kind) l4 c4 k4
    b_is_kind := (fun_mk (st := s_is_kind) l4 c4 k4).binds (ps := ["value"]) fun _ _ _ _ _ _ us hl => match us, hl with | [_], _ => rfl
    m_is_kind := PySem.W.mg_of X G a4
    f_check_kind := f5
    d_check_kind := _
    F_check_kind := fun_mk (st := s_check_kind) l5 c5 k5
    b_check_kind := (fun_mk (st := s_check_kind) l5 c5 k5).binds (ps := ["kind"]) fun _ _ _ _ _ _ us hl => match us, hl with | [_], _ => rfl
    m_check_kind := PySem.W.mg_of X G a5
    f_bound_beside := f6
    d_bound_beside := _
    F_bound_beside := fun_mk (st := s_bound_beside) l6 c6 k6
    b_bound_beside := (fun_mk (st := s_bound_beside) l6 c6 k6).binds (ps := ["kind", "cells", "empty"]) fun _ _ _ _ _ _ us hl => match us, hl with | [_, _, _], _ => rfl
    m_bound_beside := PySem.W.mg_of X G a6
    f_cells_beside := f7
    d_cells_beside := _
    F_cells_beside := fun_mk (st := s_cells_beside) l7 c7 k7
    b_cells_beside := (fun_mk (st := s_cells_beside) l7 c7 k7).binds (ps := ["kind", "empty", "longest"]) fun _ _ _ _ _ _ us hl => match us, hl with | [_, _, _], _ => rfl
    m_cells_beside := PySem.W.mg_of X G a7
    f_fewest_empty := f8
    d_fewest_empty := _
    F_fewest_empty := fun_mk (st := s_fewest_empty) l8 c8 k8
    b_fewest_empty := (fun_mk (st := s_fewest_empty) l8 c8 k8).binds (ps := ["kind"]) fun _ _ _ _ _ _ us hl => match us, hl with | [_], _ => rfl
    m_fewest_empty := PySem.W.mg_of X G a8
    f_Walk__init := f9
    d_Walk__init := _
    F_Walk__init := fun_mk (st := s_Walk__init) l9 c9 k9
    b_Walk__init := (fun_mk (st := s_Walk__init) l9 c9 k9).binds (ps := ["self", "rows"]) fun _ _ _ _ _ _ us hl => match us, hl with | [_, _], _ => rfl
    mk_Walk := ⟨mk0, a9, i9, kc0⟩
    f_Walk_is_over := f10
    d_Walk_is_over := _
    F_Walk_is_over := fun_mk (st := s_Walk_is_over) l10 c10 k10
    b_Walk_is_over := (fun_mk (st := s_Walk_is_over) l10 c10 k10).binds (ps := ["self"]) fun _ _ _ _ _ _ us hl => match us, hl with | [_], _ => rfl
    me_Walk_is_over := ⟨a10, i10, k10⟩
    f_Walk_price := f11
    d_Walk_price := _
    F_Walk_price := fun_mk (st := s_Walk_price) l11 c11 k11
    b_Walk_price := (fun_mk (st := s_Walk_price) l11 c11 k11).binds (ps := ["self"]) fun _ _ _ _ _ _ us hl => match us, hl with | [_], _ => rfl
    me_Walk_price := ⟨a11, i11, k11⟩
    f_Walk_left := f12
    d_Walk_left := _
    F_Walk_left := fun_mk (st := s_Walk_left) l12 c12 k12
    b_Walk_left := (fun_mk (st := s_Walk_left) l12 c12 k12).binds (ps := ["self"]) fun _ _ _ _ _ _ us hl => match us, hl with | [_], _ => rfl
    me_Walk_left := ⟨a12, i12, k12⟩
    f_Walk_go_on := f13
    d_Walk_go_on := _
    F_Walk_go_on := fun_mk (st := s_Walk_go_on) l13 c13 k13
    b_Walk_go_on := (fun_mk (st := s_Walk_go_on) l13 c13 k13).binds (ps := ["self", "many"]) fun _ _ _ _ _ _ us hl => match us, hl with | [_, _], _ => rfl
    me_Walk_go_on := ⟨a13, i13, k13⟩
    f_next_price := f14
    d_next_price := _
    F_next_price := fun_mk (st := s_next_price) l14 c14 k14
    b_next_price := (fun_mk (st := s_next_price) l14 c14 k14).binds (ps := ["walks"]) fun _ _ _ _ _ _ us hl => match us, hl with | [_], _ => rfl
    m_next_price := PySem.W.mg_of X G a14
    f_go_past := f15
    d_go_past := _
    F_go_past := fun_mk (st := s_go_past) l15 c15 k15
    b_go_past := (fun_mk (st := s_go_past) l15 c15 k15).binds (ps := ["walks", "price"]) fun _ _ _ _ _ _ us hl => match us, hl with | [_, _], _ => rfl
    m_go_past := PySem.W.mg_of X G a15
    f_first_list := f16
    d_first_list := _
    F_first_list := fun_mk (st := s_first_list) l16 c16 k16
    b_first_list := (fun_mk (st := s_first_list) l16 c16 k16).binds (ps := ["cells"]) fun _ _ _ _ _ _ us hl => match us, hl with | [_], _ => rfl
    m_first_list := PySem.W.mg_of X G a16
    f_list_behind := f17
    d_list_behind := _
    F_list_behind := fun_mk (st := s_list_behind) l17 c17 k17
    b_list_behind := (fun_mk (st := s_list_behind) l17 c17 k17).binds (ps := ["shorter"]) fun _ _ _ _ _ _ us hl => match us, hl with | [_], _ => rfl
    m_list_behind := PySem.W.mg_of X G a17
    f_lists_to := f18
    d_lists_to := _
    F_lists_to := fun_mk (st := s_lists_to) l18 c18 k18
    b_lists_to := (fun_mk (st := s_lists_to) l18 c18 k18).binds (ps := ["cells", "last"]) fun _ _ _ _ _ _ us hl => match us, hl with | [_, _], _ => rfl
    m_lists_to := PySem.W.mg_of X G a18
    f_told_together := f19
    d_told_together := _
    F_told_together := fun_mk (st := s_told_together) l19 c19 k19
    b_told_together := (fun_mk (st := s_told_together) l19 c19 k19).binds (ps := ["lists"]) fun _ _ _ _ _ _ us hl => match us, hl with | [_], _ => rfl
    m_told_together := PySem.W.mg_of X G a19
    f_rows_beside := f20
    d_rows_beside := _
    F_rows_beside := fun_mk (st := s_rows_beside) l20 c20 k20
    b_rows_beside := (fun_mk (st := s_rows_beside) l20 c20 k20).binds (ps := ["kind", "cells", "empty"]) fun _ _ _ _ _ _ us hl => match us, hl with | [_, _, _], _ => rfl
    m_rows_beside := PySem.W.mg_of X G a20
    f_sum_of_least := f21
    d_sum_of_least := _
    F_sum_of_least := fun_mk (st := s_sum_of_least) l21 c21 k21
    b_sum_of_least := (fun_mk (st := s_sum_of_least) l21 c21 k21).binds (ps := ["rows", "many"]) fun _ _ _ _ _ _ us hl => match us, hl with | [_, _], _ => rfl
    m_sum_of_least := PySem.W.mg_of X G a21
    f_check_beside := f22
    d_check_beside := _
    F_check_beside := fun_mk (st := s_check_beside) l22 c22 k22
    b_check_beside := (fun_mk (st := s_check_beside) l22 c22 k22).binds (ps := ["kind", "cells", "empty"]) fun _ _ _ _ _ _ us hl => match us, hl with | [_, _, _], _ => rfl
    m_check_beside := PySem.W.mg_of X G a22
    f_fewest := f23
    d_fewest := _
    F_fewest := fun_mk (st := s_fewest) l23 c23 k23
    b_fewest := (fun_mk (st := s_fewest) l23 c23 k23).binds (ps := ["kind", "cells", "empty", "many"]) fun _ _ _ _ _ _ us hl => match us, hl with | [_, _, _, _], _ => rfl
    m_fewest := PySem.W.mg_of X G a23
    f_check_columns := f24
    d_check_columns := _
    F_check_columns := fun_mk (st := s_check_columns) l24 c24 k24
    b_check_columns := (fun_mk (st := s_check_columns) l24 c24 k24).binds (ps := ["kind", "empty"]) fun _ _ _ _ _ _ us hl => match us, hl with | [_, _], _ => rfl
    m_check_columns := PySem.W.mg_of X G a24
    f_cells_for := f25
    d_cells_for := _
    F_cells_for := fun_mk (st := s_cells_for) l25 c25 k25
    b_cells_for := (fun_mk (st := s_cells_for) l25 c25 k25).binds (ps := ["kind", "empty", "many"]) fun _ _ _ _ _ _ us hl => match us, hl with | [_, _, _], _ => rfl
    m_cells_for := PySem.W.mg_of X G a25
    f_cells_within := f26
    d_cells_within := _
    F_cells_within := fun_mk (st := s_cells_within) l26 c26 k26
    b_cells_within := (fun_mk (st := s_cells_within) l26 c26 k26).binds (ps := ["kind", "empty", "many", "steps"]) fun _ _ _ _ _ _ us hl => match us, hl with | [_, _, _, _], _ => rfl
    m_cells_within := PySem.W.mg_of X G a26
    f_law_hash := f27
    d_law_hash := _
    F_law_hash := fun_mk (st := s_law_hash) l27 c27 k27
    b_law_hash := (fun_mk (st := s_law_hash) l27 c27 k27).binds (ps := ["seed", "index"]) fun _ _ _ _ _ _ us hl => match us, hl with | [_, _], _ => rfl
    m_law_hash := PySem.W.mg_of X G a27
    f_law_random := f28
    d_law_random := _
    F_law_random := fun_mk (st := s_law_random) l28 c28 k28
    b_law_random := (fun_mk (st := s_law_random) l28 c28 k28).binds (ps := ["generator", "bound"]) fun _ _ _ _ _ _ us hl => match us, hl with | [_, _], _ => rfl
    m_law_random := PySem.W.mg_of X G a28
    f_law_cell := f29
    d_law_cell := _
    F_law_cell := fun_mk (st := s_law_cell) l29 c29 k29
    b_law_cell := (fun_mk (st := s_law_cell) l29 c29 k29).binds (ps := ["script", "index"]) fun _ _ _ _ _ _ us hl => match us, hl with | [_, _], _ => rfl
    m_law_cell := PySem.W.mg_of X G a29
    f_law_generator := f30
    d_law_generator := _
    F_law_generator := fun_mk (st := s_law_generator) l30 c30 k30
    b_law_generator := (fun_mk (st := s_law_generator) l30 c30 k30).binds (ps := ["script", "index"]) fun _ _ _ _ _ _ us hl => match us, hl with | [_, _], _ => rfl
    m_law_generator := PySem.W.mg_of X G a30
    f_law_lists := f31
    d_law_lists := _
    F_law_lists := fun_mk (st := s_law_lists) l31 c31 k31
    b_law_lists := (fun_mk (st := s_law_lists) l31 c31 k31).binds (ps := ["cells", "most"]) fun _ _ _ _ _ _ us hl => match us, hl with | [_, _], _ => rfl
    m_law_lists := PySem.W.mg_of X G a31
    f_law_prices := f32
    d_law_prices := _
    F_law_prices := fun_mk (st := s_law_prices) l32 c32 k32
    b_law_prices := (fun_mk (st := s_law_prices) l32 c32 k32).binds (ps := ["sort", "cells", "columns"]) fun _ _ _ _ _ _ us hl => match us, hl with | [_, _, _], _ => rfl
    m_law_prices := PySem.W.mg_of X G a32
    f_law_kind := f33
    d_law_kind := _
    F_law_kind := fun_mk (st := s_law_kind) l33 c33 k33
    b_law_kind := (fun_mk (st := s_law_kind) l33 c33 k33).binds (ps := ["generator"]) fun _ _ _ _ _ _ us hl => match us, hl with | [_], _ => rfl
    m_law_kind := PySem.W.mg_of X G a33
    f_law_columns := f34
    d_law_columns := _
    F_law_columns := fun_mk (st := s_law_columns) l34 c34 k34
    b_law_columns := (fun_mk (st := s_law_columns) l34 c34 k34).binds (ps := ["generator", "sort", "most"]) fun _ _ _ _ _ _ us hl => match us, hl with | [_, _, _], _ => rfl
    m_law_columns := PySem.W.mg_of X G a34
    f_law_least := f35
    d_law_least := _
    F_law_least := fun_mk (st := s_law_least) l35 c35 k35
    b_law_least := (fun_mk (st := s_law_least) l35 c35 k35).binds (ps := ["lists", "size", "most"]) fun _ _ _ _ _ _ us hl => match us, hl with | [_, _, _], _ => rfl
    m_law_least := PySem.W.mg_of X G a35
    f_law_right := f36
    d_law_right := _
    F_law_right := fun_mk (st := s_law_right) l36 c36 k36
    b_law_right := (fun_mk (st := s_law_right) l36 c36 k36).binds (ps := ["generator"]) fun _ _ _ _ _ _ us hl => match us, hl with | [_], _ => rfl
    m_law_right := PySem.W.mg_of X G a36
    f_law_great_right := f37
    d_law_great_right := _
    F_law_great_right := fun_mk (st := s_law_great_right) l37 c37 k37
    b_law_great_right := (fun_mk (st := s_law_great_right) l37 c37 k37).binds (ps := ["generator"]) fun _ _ _ _ _ _ us hl => match us, hl with | [_], _ => rfl
    m_law_great_right := PySem.W.mg_of X G a37
    f_law := _
    d_law := _
    F_law := fun_mk (st := s_law) l38 c38 k38
    b_law := (fun_mk (st := s_law) l38 c38 k38).binds (ps := ["script"]) fun _ _ _ _ _ _ us hl => match us, hl with | [_], _ => rfl
    m_law := PySem.W.mg_of X G a38
    n_any := PySem.W.mg_none_of X G z_any
    n_bool := PySem.W.mg_none_of X G z_bool
    n_enumerate := PySem.W.mg_none_of X G z_enumerate
    n_int := PySem.W.mg_none_of X G z_int
    n_isinstance := PySem.W.mg_none_of X G z_isinstance
    n_len := PySem.W.mg_none_of X G z_len
    n_max := PySem.W.mg_none_of X G z_max
    n_min := PySem.W.mg_none_of X G z_min
    n_range := PySem.W.mg_none_of X G z_range
    n_repr := PySem.W.mg_none_of X G z_repr
    n_sorted := PySem.W.mg_none_of X G z_sorted
    n_sum := PySem.W.mg_none_of X G z_sum
    a_KINDS := p_KINDS
    v_KINDS := [.str "over", .str "into", .str "whole"]
    g_KINDS := PySem.W.mg_of X G g_KINDS
    t_KINDS := fun H => .inr ⟨_, #[_, _, _], _, o_KINDS, rfl, rfl, (by show 3 ≤ sizeLine; decide), (.cons ⟨_, rfl⟩ (.cons ⟨_, rfl⟩ (.cons ⟨_, rfl⟩ .nil)))⟩
    d_KINDS := fun H => (.cons (.str _) (.cons (.str _) (.cons (.str _) .nil)))
    k_MOST_EMPTY := tk_MOST_EMPTY
    g_MOST_EMPTY := PySem.W.mg_of X G g_MOST_EMPTY
    kb_0 := kwb (fun_mk (st := s_cells_for) l25 c25 k25) fun _ _ _ _ _ _ ws hl => match ws, hl with | [_, _, _], _ => rfl
    kb_1 := kwb (fun_mk (st := s_cells_within) l26 c26 k26) fun _ _ _ _ _ _ ws hl => match ws, hl with | [_, _, _, _], _ => rfl }
  refine ⟨T.Z, T.d_law, fun s v => .of_eq rfl, fun base _ _ => ?_⟩
  have G_is_whole := ok_is_whole (P := l.prog) (w := w) (base := base) T
  have G_is_from := ok_is_from (P := l.prog) (w := w) (base := base) T G_is_whole
  have G_is_within := ok_is_within (P := l.prog) (w := w) (base := base) T G_is_whole
  have G_check_from := ok_check_from (P := l.prog) (w := w) (base := base) T G_is_from
  have G_is_kind := ok_is_kind (P := l.prog) (w := w) (base := base) T
  have G_check_kind := ok_check_kind (P := l.prog) (w := w) (base := base) T G_is_kind
  have G_bound_beside := ok_bound_beside (P := l.prog) (w := w) (base := base) T
  have G_cells_beside := ok_cells_beside (P := l.prog) (w := w) (base := base) T G_bound_beside
  have G_fewest_empty := ok_fewest_empty (P := l.prog) (w := w) (base := base) T
  have G_Walk__init := ok_Walk__init (P := l.prog) (w := w) (base := base) T
  have G_Walk_is_over := ok_Walk_is_over (P := l.prog) (w := w) (base := base) T
  have G_Walk_price := ok_Walk_price (P := l.prog) (w := w) (base := base) T
  have G_Walk_left := ok_Walk_left (P := l.prog) (w := w) (base := base) T
  have G_Walk_go_on := ok_Walk_go_on (P := l.prog) (w := w) (base := base) T G_Walk_left
  have G_next_price := ok_next_price (P := l.prog) (w := w) (base := base) T G_Walk_is_over G_Walk_price
  have G_go_past := ok_go_past (P := l.prog) (w := w) (base := base) T G_Walk_left G_Walk_go_on G_next_price
  have G_first_list := ok_first_list (P := l.prog) (w := w) (base := base) T
  have G_list_behind := ok_list_behind (P := l.prog) (w := w) (base := base) T G_Walk__init G_next_price G_go_past
  have G_lists_to := ok_lists_to (P := l.prog) (w := w) (base := base) T G_first_list G_list_behind
  have G_told_together := ok_told_together (P := l.prog) (w := w) (base := base) T
  have G_rows_beside := ok_rows_beside (P := l.prog) (w := w) (base := base) T G_first_list G_lists_to G_told_together
  have G_sum_of_least := ok_sum_of_least (P := l.prog) (w := w) (base := base) T
  have G_check_beside := ok_check_beside (P := l.prog) (w := w) (base := base) T G_check_from G_check_kind G_fewest_empty
  have G_fewest := ok_fewest (P := l.prog) (w := w) (base := base) T G_check_from G_rows_beside G_sum_of_least G_check_beside
  have G_check_columns := ok_check_columns (P := l.prog) (w := w) (base := base) T G_is_within G_check_kind G_fewest_empty
  have G_cells_for := ok_cells_for (P := l.prog) (w := w) (base := base) T G_check_from G_cells_beside G_check_columns
  have G_cells_within := ok_cells_within (P := l.prog) (w := w) (base := base) T G_check_from G_cells_beside G_rows_beside G_sum_of_least G_check_columns
  have G_law_hash := ok_law_hash (P := l.prog) (w := w) (base := base) T
  have G_law_random := ok_law_random (P := l.prog) (w := w) (base := base) T G_law_hash
  have G_law_cell := ok_law_cell (P := l.prog) (w := w) (base := base) T
  have G_law_generator := ok_law_generator (P := l.prog) (w := w) (base := base) T G_law_cell
  have G_law_lists := ok_law_lists (P := l.prog) (w := w) (base := base) T
  have G_law_prices := ok_law_prices (P := l.prog) (w := w) (base := base) T G_law_lists
  have G_law_kind := ok_law_kind (P := l.prog) (w := w) (base := base) T G_law_random
  have G_law_columns := ok_law_columns (P := l.prog) (w := w) (base := base) T G_law_random
  have G_law_least := ok_law_least (P := l.prog) (w := w) (base := base) T
  have G_law_right := ok_law_right (P := l.prog) (w := w) (base := base) T G_cells_for G_cells_within G_law_random G_law_prices G_law_kind G_law_columns G_law_least
  have G_law_great_right := ok_law_great_right (P := l.prog) (w := w) (base := base) T G_fewest G_cells_for G_cells_within G_law_random G_law_kind G_law_columns
  have G_law := ok_law (P := l.prog) (w := w) (base := base) T G_cells_for G_cells_within G_law_generator G_law_right G_law_great_right
  exact G_law
end Lw

set_option Elab.async false
set_option linter.all false
set_option maxRecDepth 100000
set_option maxHeartbeats 4000000
set_option exponentiation.threshold 3000
namespace Lw
open PySem PySem.Spec PyProof.Rows L2 Evl DL

theorem cell_ok (ns : List Int) (i : Nat) (os : Os) (ht : Tidy os) : ∃ s : Int, m_law_cell [.d (.list (ns.map .int)), .d (.int i)] os = some (.int s, os) := by
  unfold m_law_cell
  rw [m_2]
  by_cases h : i < ns.length
  · have h1 : ixD (.list (ns.map .int)) (.int (i : Int)) = some (.int ns[i]) := ixD_list (by simp [h])
    refine ⟨ns[i], ?_⟩
    simp -implicitDefEqProofs [b_law_cell, cutW_self ht, h, h1]
  · have h2 : DL.cutD (ns.map PyData.int) none (some 1) = (DL.cutD ns none (some 1)).map PyData.int := by
      unfold DL.cutD
      simp [List.map_take, List.map_drop]
    have h3 : ∀ a : Int, modD (.int a) (.int 1000003) = some (.int (a % 1000003)) := fun a => modD_ok (by decide)
    refine ⟨(DL.cutD ns none (some 1)).sum % 1000003, ?_⟩
    simp -implicitDefEqProofs [b_law_cell, cutW_self ht, h, h2, h3]
theorem mulD_ex {a b : Int} (p q : Nat) (ha : a.natAbs < 2 ^ p) (hb : b.natAbs < 2 ^ q) (h : p + q ≤ 134217728) : ∃ y : Int, mulD (.int a) (.int b) = some (.int y) ∧ y.natAbs < 2 ^ (p + q) := by
  refine ⟨_, mulD_ok ha hb h, ?_⟩
  rw [Int.natAbs_mul, Nat.pow_add]
  exact Nat.mul_lt_mul_of_lt_of_lt ha hb
theorem modD_ex (a : Int) {b : Int} (h : 0 < b) : ∃ y : Int, modD (.int a) (.int b) = some (.int y) ∧ 0 ≤ y ∧ y < b :=
  ⟨_, modD_ok h, Int.emod_nonneg _ (Int.ne_of_gt h), Int.emod_lt_of_pos _ h⟩
theorem addD_ex (a b : Int) : ∃ y : Int, addD (.int a) (.int b) = some (.int y) ∧ y = a + b := ⟨_, rfl, rfl⟩
theorem hash_ok (s i : Int) (os : Os) (ht : Tidy os) (hs : s.natAbs < 2 ^ 40) (hi : i.natAbs < 2 ^ 100) : ∃ r : Int, m_law_hash [.d (.int s), .d (.int i)] os = some (.int r, os) ∧ 0 ≤ r ∧ r < 2147483647 := by
  unfold m_law_hash
  rw [m_2]
  obtain ⟨y1, h1, _⟩ := mulD_ex (a := s) (b := 1140671) 40 40 hs (by decide) (by decide)
  obtain ⟨y2, h2, c2⟩ := mulD_ex (a := 27644437) (b := i) 40 100 (by decide) hi (by decide)
  obtain ⟨y3, h3, _⟩ := mulD_ex (a := y2) (b := i) 140 100 c2 hi (by decide)
  obtain ⟨y4, h4, _⟩ := addD_ex y1 y3
  obtain ⟨y5, h5, _⟩ := mulD_ex (a := 131) (b := i) 40 100 (by decide) hi (by decide)
  obtain ⟨y6, h6, _⟩ := addD_ex y4 y5
  obtain ⟨y7, h7, _⟩ := addD_ex y6 19
  obtain ⟨y8, h8, c8, d8⟩ := modD_ex y7 (b := 2147483629) (by decide)
  obtain ⟨y9, h9, _⟩ := mulD_ex (a := y8) (b := y8) 40 40 (by omega) (by omega) (by decide)
  obtain ⟨z1, h10, _⟩ := mulD_ex (a := 62089) (b := i) 40 100 (by decide) hi (by decide)
  obtain ⟨z2, h11, _⟩ := addD_ex y9 z1
  obtain ⟨z3, h12, _⟩ := addD_ex z2 32416187
  obtain ⟨z4, h13, c13, d13⟩ := modD_ex z3 (b := 2147483587) (by decide)
  obtain ⟨z5, h14, _⟩ := mulD_ex (a := z4) (b := 48271) 40 40 (by omega) (by decide) (by decide)
  obtain ⟨z6, h15, c15, d15⟩ := modD_ex z5 (b := 2147483647) (by decide)
  refine ⟨z6, ?_, c15, d15⟩
  simp -implicitDefEqProofs [b_law_hash, cutW_self ht, -addD_int, h1, h2, h3, h4, h5, h6, h7, h8, h9, h10, h11, h12, h13, h14, h15]
def top2 : Int := (2 : Int) ^ 2000
/-- what a generator holds -/
def GenL (g : List PyData) (B : Int) : Prop := ∃ a b c : Int, g = [.int a, .int b, .int c] ∧ 0 ≤ a ∧ a < top2 ∧ 0 ≤ b ∧ b < 2147483647 ∧ 0 ≤ c ∧ c ≤ B
theorem GenL.mono {g : List PyData} {A B : Int} (h : GenL g A) (e : A ≤ B) : GenL g B := by
  obtain ⟨a, b, c, h0, h1, h2, h3, h4, h5, h6⟩ := h
  exact ⟨a, b, c, h0, h1, h2, h3, h4, h5, by omega⟩
theorem some_int {a b : Int} (h : a = b) : some (PyData.int a) = some (PyData.int b) := by rw [h]
theorem powD_10_18 : powD (.int 10) (.int 18) = some (.int 1000000000000000000) := (powD_ok (p := 40) (by decide) (by decide) (by decide)).trans (some_int (by decide))
theorem powD_10_60 : powD (.int 10) (.int 60) = some (.int 1000000000000000000000000000000000000000000000000000000000000) := (powD_ok (p := 40) (by decide) (by decide) (by decide)).trans (some_int (by decide))
def tens : Int := 1000000000000000000000000000000000000000000000000000000000000 ^ 10
theorem tens_pos : 0 < tens := by decide
theorem tens_lt : tens < top2 := by decide +kernel
theorem powD_600 : powD (.int 1000000000000000000000000000000000000000000000000000000000000) (.int 10) = some (.int tens) :=
  powD_ok (p := 200) (by decide) (by decide) (by decide)
theorem generator_ok (ns : List Int) (i : Nat) (os : Os) (ht : Tidy os) (hi : i < 100) : ∃ g, m_law_generator [.d (.list (ns.map .int)), .d (.int i)] os = some (g, os) ∧ GenL g 100000 := by
  obtain ⟨s, hs⟩ := cell_ok ns i os ht
  unfold m_law_generator
  rw [mF_2]
  have h1 : ∀ a : Int, modD (.int a) (.int tens) = some (.int (a % tens)) := fun a => modD_ok tens_pos
  have h7 : ∀ a : Int, modD (.int a) (.int 2147483647) = some (.int (a % 2147483647)) := fun a => modD_ok (by decide)
  have h2 : mulD (.int 1000) (.int (i : Int)) = some (.int (1000 * (i : Int))) := mulD_ok (p := 40) (q := 100) (by decide) (by omega) (by decide)
  have h3 : (3 : Nat) ≤ sizeLine := by decide
  obtain ⟨x, hx⟩ : ∃ x, maxD [.int (s - 1000000000000000000), .int 0] = some (.int x) := ⟨_, rfl⟩
  refine ⟨[.int (x % tens), .int (s % 2147483647), .int (1000 * i)], ?_, _, _, _, rfl, Int.emod_nonneg _ (Int.ne_of_gt tens_pos), Int.lt_trans (Int.emod_lt_of_pos _ tens_pos) tens_lt, Int.emod_nonneg _ (by decide), Int.emod_lt_of_pos _ (by decide), by omega, by omega⟩
  simp -implicitDefEqProofs [b_law_generator, cutW_self ht, -maxD_two, hx, hs, powD_10_18, powD_10_60, powD_600, h1, h7, h2, h3]


theorem ownAt_o {ρ : List Sl} {os : Os} {i k : Nat} {g : List PyData} (h : ρ[i]? = some (.o k)) (h2 : os[k]? = some (some (.l g))) : ownAt ρ os i = some (k, g) := by
  unfold ownAt
  rw [h]
  simp only
  rw [h2]
theorem get_set {os : Os} {k : Nat} {o o' : Option Ob} (h : os[k]? = some o) : (os.set k o')[k]? = some o' := by
  have hl : k < os.length := (List.getElem?_eq_some_iff.mp h).1
  rw [List.getElem?_set_self hl]
theorem get_ne {os : Os} {k j : Nat} {o' : Option Ob} (h : k ≠ j) : (os.set k o')[j]? = os[j]? := List.getElem?_set_ne h
theorem a_set {i : Nat} {ρ : List Sl} {os os1 os2 : Os} {xi xe : XE} {d : PyData} {j : Nat} {k : Nat} {g : List PyData} (h1 : xe ρ os = some (d, os1)) (h2 : xi ρ os1 = some (.int (j : Int), os2)) (h3 : ownAt ρ os2 i = some (k, g)) (hj : j < g.length) : sSet i xi xe ρ os = some (.nx ρ (os2.set k (some (.l (g.set j d))))) := by
  unfold sSet
  rw [h1, Option.bind_some, h2, Option.bind_some]
  simp only
  rw [h3, Option.bind_some]
  simp only
  unfold ixN
  rw [if_pos (by omega), if_pos (by omega)]
  simp
theorem a_ixO {i : Nat} {ρ : List Sl} {os os1 : Os} {xi : XE} {d : PyData} {j k : Nat} {g : List PyData} (h2 : xi ρ os = some (.int (j : Int), os1)) (h3 : ownAt ρ os1 i = some (k, g)) (hj : g[j]? = some d) : xIxO i xi ρ os = some (d, os1) := by
  unfold xIxO
  rw [h2, Option.bind_some]
  simp only
  rw [h3, Option.bind_some]
  simp only
  rw [DL.atI_nat hj]
  rfl
theorem set_eq {os : Os} {k : Nat} {o : Option Ob} (h : os[k]? = some o) : os.set k o = os := by
  apply List.ext_getElem?
  intro j
  by_cases e : k = j
  · subst e
    rw [get_set h, h]
  · rw [List.getElem?_set_ne e]
theorem setset {os : Os} {k : Nat} {o o' : Option Ob} : (os.set k o).set k o' = os.set k o' := List.set_set ..
/-- a step of the small seeds' drawing -/
theorem draws_ok {k : Nat} {a b L : Int} : ∀ (n : Nat) (items : List PyData) (c x : Int) (os : Os) (D : Nat) (y : Sl), items.length = n → os[k]? = some (some (.l [.int a, .int b, .int c])) → Tidy os → 0 ≤ b → b < 2147483647 → 0 ≤ c → c + n < 2 ^ 60 → x.natAbs < 2 ^ D → D + 100 * n ≤ 10000 →
    ∃ ρ2 x2 c2, forRun (gNm 3) ((sSeq (sSet 0 (xC (.int 2)) (xOp addD (xIxO 0 (xC (.int 2))) (xC (.int 1))))
  (sAsg (xOp addD (xOp mulD (xVar 2) (xC (.int 2147483587))) (xFn m_law_hash (xaD (xIxO 0 (xC (.int 1))) (xaD (xIxO 0 (xC (.int 2))) xaNil)))) (gNm 2)))) items [.o k, .d (.int L), .d (.int x), y] os = some (.nx [.o k, .d (.int L), .d (.int x2), ρ2] (os.set k (some (.l [.int a, .int b, .int c2])))) ∧ c2 = c + n
  | 0, [], c, x, os, D, y, _, h, _, _, _, _, _, _, _ => by
    refine ⟨y, x, c, ?_, by omega⟩
    rw [set_eq h]
    rfl
  | n + 1, d :: r, c, x, os, D, y, hn, h, ht, h1, h2, h3, h4, h5, h6 => by
    have g1 := get_set (o' := some (.l [.int a, .int b, .int (c + 1)])) h
    have ht1 : Tidy (os.set k (some (.l [.int a, .int b, .int (c + 1)]))) := ht.setl
    obtain ⟨hh, e1, e2, e3⟩ := hash_ok b (c + 1) _ ht1 (by omega) (by omega)
    obtain ⟨m, e4, e5⟩ := mulD_ex (a := x) (b := 2147483587) D 40 h5 (by decide) (by omega)
    obtain ⟨ρ2, x2, c2, q1, q2⟩ := draws_ok (L := L) n r (c + 1) (m + hh) (os.set k (some (.l [.int a, .int b, .int (c + 1)]))) (D + 100) (.d d) (by simpa using hn) g1 ht1 h1 h2 (by omega) (by omega) (by
      have : (m + hh).natAbs ≤ m.natAbs + hh.natAbs := Int.natAbs_add_le _ _
      have e6 : hh.natAbs < 2 ^ (D + 40) := Nat.lt_of_lt_of_le (by omega : hh.natAbs < 2 ^ 40) (Nat.pow_le_pow_right (by decide) (by omega))
      have e7 : 2 ^ (D + 100) = 2 ^ (D + 40) * 2 ^ 60 := by rw [← Nat.pow_add]
      have e8 : 2 ^ (D + 40) * 2 ≤ 2 ^ (D + 40) * 2 ^ 60 := Nat.mul_le_mul_left _ (by decide)
      omega) (by omega)
    refine ⟨ρ2, x2, c2, ?_, by omega⟩
    have s1 : sSet 0 (xC (.int 2)) (xOp addD (xIxO 0 (xC (.int 2))) (xC (.int 1))) [.o k, .d (.int L), .d (.int x), .d d] os = some (.nx [.o k, .d (.int L), .d (.int x), .d d] (os.set k (some (.l [.int a, .int b, .int (c + 1)])))) := by
      refine a_set (d := .int (c + 1)) (os1 := os) (os2 := os) (j := 2) (g := [.int a, .int b, .int c]) ?_ rfl (ownAt_o rfl h) (by simp)
      have e0 : xIxO 0 (xC (.int 2)) [.o k, .d (.int L), .d (.int x), .d d] os = some (.int c, os) := a_ixO (j := 2) rfl (ownAt_o rfl h) rfl
      simp -implicitDefEqProofs [e0]
    simp -implicitDefEqProofs only [forRun, a_nm, List.set_cons_succ, List.set_cons_zero, Option.bind_some, a_seq, s1]
    have s2 : sAsg (xOp addD (xOp mulD (xVar 2) (xC (.int 2147483587))) (xFn m_law_hash (xaD (xIxO 0 (xC (.int 1))) (xaD (xIxO 0 (xC (.int 2))) xaNil)))) (gNm 2) [.o k, .d (.int L), .d (.int x), .d d] (os.set k (some (.l [.int a, .int b, .int (c + 1)]))) = some (.nx [.o k, .d (.int L), .d (.int (m + hh)), .d d] (os.set k (some (.l [.int a, .int b, .int (c + 1)])))) := by
      have v1 : xIxO 0 (xC (.int 1)) [.o k, .d (.int L), .d (.int x), .d d] (os.set k (some (.l [.int a, .int b, .int (c + 1)]))) = some (.int b, _) := a_ixO (j := 1) rfl (ownAt_o rfl g1) rfl
      have v2 : xIxO 0 (xC (.int 2)) [.o k, .d (.int L), .d (.int x), .d d] (os.set k (some (.l [.int a, .int b, .int (c + 1)]))) = some (.int (c + 1), _) := a_ixO (j := 2) rfl (ownAt_o rfl g1) rfl
      simp -implicitDefEqProofs [v1, v2, e1, e4]
    rw [s2]
    simp -implicitDefEqProofs only [Option.bind_some, q1, List.set_set]
theorem rg1_ok {ρ : List Sl} {os os1 : Os} {ra : XA} {j : Int} (h : ra ρ os = some ([.d (.int j)], os1)) (h1 : -(2 ^ 62) ≤ j) (h2 : j < 2 ^ 62) : iRg ra ρ os = some (rangeD 0 j.toNat, os1) := by
  unfold iRg
  rw [h, Option.bind_some]
  simp only
  rw [if_pos ⟨h1, h2⟩]
theorem rg2_ok {ρ : List Sl} {os os1 : Os} {ra : XA} {i j : Int} (h : ra ρ os = some ([.d (.int i), .d (.int j)], os1)) (h0 : -(2 ^ 62) ≤ i) (h0' : i < 2 ^ 62) (h1 : -(2 ^ 62) ≤ j) (h2 : j < 2 ^ 62) : iRg ra ρ os = some (rangeD i (j - i).toNat, os1) := by
  unfold iRg
  rw [h, Option.bind_some]
  simp only
  rw [if_pos ⟨h0, h0', h1, h2⟩]
theorem rangeD_len {lo : Int} {n : Nat} : (rangeD lo n).length = n := by simp [rangeD]
theorem rand_ok {os : Os} {k : Nat} {g : List PyData} {B L : Int} (h : os[k]? = some (some (.l g))) (ht : Tidy os) (hg : GenL g B) (hB : B < 2 ^ 50) (hL : 0 < L) (hL2 : L.natAbs < 2 ^ 100) :
    ∃ r g', m_law_random [.o k, .d (.int L)] os = some (.int r, os.set k (some (.l g'))) ∧ GenL g' (B + 5) ∧ 0 ≤ r ∧ r < L := by
  obtain ⟨a, b, c, rfl, a0, a1, b0, b1, c0, c1⟩ := hg
  unfold m_law_random
  rw [m_2]
  have i0 : ∀ y z, xIxO 0 (xC (.int 0)) [.o k, .d (.int L), y, z] os = some (.int a, os) := fun y z => a_ixO (j := 0) rfl (ownAt_o rfl h) rfl
  have t0 : xBool (xOp gtD (xIxO 0 (xC (.int 0))) (xC (.int 0))) [.o k, .d (.int L), .u, .u] os = some (decide (a > 0), os) := by
    simp -implicitDefEqProofs [i0]
  by_cases ha : 0 < a
  · obtain ⟨m, e1, e2, e3⟩ := modD_ex a hL
    have hn : a.natAbs < 2 ^ 2000 := by
      have : a < (2 : Int) ^ 2000 := a1
      have e : ((2 ^ 2000 : Nat) : Int) = (2 : Int) ^ 2000 := by simp
      omega
    have e4 := fdivD_ok (a := a) hL hn (by decide)
    have e5 : 0 ≤ a / L := Int.ediv_nonneg a0 (Int.le_of_lt hL)
    have e6 : a / L ≤ a := Int.ediv_le_self _ a0
    have s1 : sAsg (xOp modD (xCall intD (xaD (xIxO 0 (xC (.int 0))) xaNil)) (xVar 1)) (gNm 2) [.o k, .d (.int L), .u, .u] os = some (.nx [.o k, .d (.int L), .d (.int m), .u] os) := by
      simp -implicitDefEqProofs [i0, e1]
    have s2 : sSet 0 (xC (.int 0)) (xOp fdivD (xIxO 0 (xC (.int 0))) (xVar 1)) [.o k, .d (.int L), .d (.int m), .u] os = some (.nx [.o k, .d (.int L), .d (.int m), .u] (os.set k (some (.l [.int (a / L), .int b, .int c])))) := by
      refine a_set (d := .int (a / L)) (os1 := os) (os2 := os) (j := 0) (g := [.int a, .int b, .int c]) ?_ rfl (ownAt_o rfl h) (by simp)
      simp -implicitDefEqProofs [i0, e4]
    refine ⟨m, [.int (a / L), .int b, .int c], ?_, ⟨_, _, _, rfl, e5, by omega, b0, b1, c0, by omega⟩, e2, e3⟩
    have d0 : decide (a > 0) = true := by simpa using ha
    have c9 : cutW os.length (os.set k (some (.l [.int (a / L), .int b, .int c]))) = some (os.set k (some (.l [.int (a / L), .int b, .int c]))) := by
      have := cutW_self (ht.setl (k := k) (ds := [.int (a / L), .int b, .int c]))
      rw [List.length_set] at this
      exact this
    simp -implicitDefEqProofs only [b_law_random, List.reduceReplicate, Nat.reduceSub, a_seq, a_sIf, t0, d0, Option.bind_some, if_true, s1, s2, a_ret]
    simp -implicitDefEqProofs [c9]
  · have hn1 := intBits_le hL2
    have e1 : fdivD (.int (Builtin.Int.intBits L : Nat)) (.int 30) = some (.int ((Builtin.Int.intBits L : Nat) / 30)) := fdivD_ok (p := 100) (by decide) (by
      have : (2 : Nat) ^ 100 > 100 := by decide
      omega) (by decide)
    generalize eN : ((Builtin.Int.intBits L : Nat) : Int) / 30 = N at e1
    have hN : 0 ≤ N ∧ N ≤ 3 := by omega
    have r1 : iRg (xaD (xOp addD (xC (.int 1)) (xOp fdivD (xUn bitsD (xVar 1)) (xC (.int 30)))) xaNil) [.o k, .d (.int L), .d (.int 0), .u] os = some (rangeD 0 (1 + N).toNat, os) := by
      refine rg1_ok (j := 1 + N) ?_ (by omega) (by omega)
      simp -implicitDefEqProofs [e1]
    obtain ⟨ρ2, x2, c2, q1, q2⟩ := draws_ok (a := a) (L := L) (1 + N).toNat (rangeD 0 (1 + N).toNat) c 0 os 0 .u rangeD_len h ht b0 b1 c0 (by omega) (by decide) (by omega)
    obtain ⟨m, e4, e5, e6⟩ := modD_ex x2 hL
    refine ⟨m, [.int a, .int b, .int c2], ?_, ⟨_, _, _, rfl, a0, a1, b0, b1, by omega, by omega⟩, e5, e6⟩
    have d0 : decide (a > 0) = false := by simpa using ha
    have c9 : cutW os.length (os.set k (some (.l [.int a, .int b, .int c2]))) = some (os.set k (some (.l [.int a, .int b, .int c2]))) := by
      have := cutW_self (ht.setl (k := k) (ds := [.int a, .int b, .int c2]))
      rw [List.length_set] at this
      exact this
    simp -implicitDefEqProofs only [b_law_random, List.reduceReplicate, Nat.reduceSub, a_seq, a_sIf, t0, d0, Option.bind_some, Bool.false_eq_true, if_false, a_next, a_asg, a_c, a_nm, Option.map_some, List.set_cons_succ, List.set_cons_zero, a_for, r1, q1]
    simp -implicitDefEqProofs [e4, c9]
end Lw

set_option Elab.async false
set_option linter.all false
set_option maxRecDepth 100000
set_option maxHeartbeats 4000000
namespace Lw
open PySem PySem.Spec PyProof.Rows L2 Evl DL
/-! rows, walks through them -/
abbrev Rw := List (Int × Int)
def encR (R : Rw) : List PyData := R.map tupP
@[simp] theorem encR_len (R : Rw) : (encR R).length = R.length := by simp [encR]
structure Wk where
  a : Nat
  p : Int
def wkF (k : Nat) (w : Wk) : List (Str × Sl) := [("rows", .o k), ("at", .d (.int w.a)), ("passed", .d (.int w.p))]
def wkO (Z : Cs) (k : Nat) (w : Wk) : Ob := .i Z.Walk (wkF k w)
theorem l_rows {k : Nat} {w : Wk} : (wkF k w).lookup ("rows" : Str) = some (.o k) := by kernel_rfl
theorem l_at {k : Nat} {w : Wk} : (wkF k w).lookup ("at" : Str) = some (.d (.int w.a)) := by kernel_rfl
theorem l_passed {k : Nat} {w : Wk} : (wkF k w).lookup ("passed" : Str) = some (.d (.int w.p)) := by kernel_rfl
theorem l_no1 {k : Nat} {w : Wk} : (wkF k w).lookup ("is_over" : Str) = none := by kernel_rfl
theorem l_no2 {k : Nat} {w : Wk} : (wkF k w).lookup ("price" : Str) = none := by kernel_rfl
theorem l_no3 {k : Nat} {w : Wk} : (wkF k w).lookup ("left" : Str) = none := by kernel_rfl
theorem l_no4 {k : Nat} {w : Wk} : (wkF k w).lookup ("go_on" : Str) = none := by kernel_rfl
theorem p_at {k : Nat} {w : Wk} {i : Nat} : putS "at" (.d (.int i)) (wkF k w) = wkF k ⟨i, w.p⟩ := by kernel_rfl
theorem p_passed {k : Nat} {w : Wk} {i : Int} : putS "passed" (.d (.int i)) (wkF k w) = wkF k ⟨w.a, i⟩ := by kernel_rfl
theorem p_three {k : Nat} : putS "passed" (.d (.int 0)) (putS "at" (.d (.int 0)) (putS "rows" (.o k) [])) = wkF k ⟨0, 0⟩ := by kernel_rfl
theorem ins_ok {Z : Cs} {os : Os} {j k : Nat} {w : Wk} (h : os[j]? = some (some (wkO Z k w))) : insAt Z.Walk os (.o j) = some (j, wkF k w) := by
  unfold insAt
  simp only [h, wkO, if_true]
/-- the walk at j goes through the rows at k -/
structure At (Z : Cs) (os : Os) (j k : Nat) (w : Wk) (S : Rw) : Prop where
  w : os[j]? = some (some (wkO Z k w))
  r : os[k]? = some (some (.l (encR S)))
theorem wk_lt {Z : Cs} {k n : Nat} {w : Wk} (h : k < n) : oLt n (some (wkO Z k w)) = true := by
  simp [oLt, obLt, wkO, wkF, slLt, h]
theorem At.tidy {Z : Cs} {os : Os} {j k : Nat} {w w' : Wk} {S : Rw} (h : At Z os j k w S) (ht : Tidy os) : Tidy (os.set j (some (wkO Z k w'))) :=
  ht.set (wk_lt (List.getElem?_eq_some_iff.mp h.r).1)
theorem At.ne {Z : Cs} {os : Os} {j k : Nat} {w : Wk} {S : Rw} (h : At Z os j k w S) : j ≠ k := fun e => by
  have h1 := h.w
  have h2 := h.r
  rw [e, h2] at h1
  cases h1
theorem At.set {Z : Cs} {os : Os} {j k : Nat} {w w' : Wk} {S : Rw} (h : At Z os j k w S) : At Z (os.set j (some (wkO Z k w'))) j k w' S :=
  ⟨get_set h.w, by rw [get_ne h.ne]; exact h.r⟩
theorem At.set2 {Z : Cs} {os : Os} {j k i l : Nat} {w w' : Wk} {S S' : Rw} (h : At Z os j k w S) (g : At Z os i l w' S') (n : i ≠ j) {w2 : Wk} : At Z (os.set j (some (wkO Z k w2))) i l w' S' :=
  ⟨by rw [get_ne (Ne.symm n)]; exact g.w, by
    rw [get_ne]
    · exact g.r
    · intro e
      have h1 := h.w
      have h2 := g.r
      rw [e, h2] at h1
      cases h1⟩
section
variable {Z : Cs} {os : Os} {j k : Nat} {w : Wk} {S : Rw}
theorem enc_at {S : Rw} {i : Nat} {r : Int × Int} (h : S[i]? = some r) : (encR S)[i]? = some (tupP r) := by
  simp [encR, h]
theorem over_ok (h : At Z os j k w S) (ht : Tidy os) : m_Walk_is_over Z [.o j] os = some (.bool (decide (w.a = S.length)), os) := by
  unfold m_Walk_is_over
  rw [m_1]
  have e : eqD (.int (w.a : Int)) (.int (S.length : Int)) = some (.bool (decide (w.a = S.length))) := by
    rw [eqD_int]
    congr 2
    by_cases h : w.a = S.length <;> simp [h]
    omega
  have hl : lenV os (.o k) = some (S.length : Int) := by
    unfold lenV
    simp [h.r]
  simp -implicitDefEqProofs [b_Walk_is_over, ins_ok h.w, l_at, l_rows, hl, e, cutW_self ht, -insAt_o]
theorem price_ok {r : Int × Int} (h : At Z os j k w S) (ht : Tidy os) (hr : S[w.a]? = some r) : m_Walk_price Z [.o j] os = some (.int r.1, os) := by
  unfold m_Walk_price
  rw [m_1]
  have hi : ixV os (.o k) (.int (w.a : Int)) = some (.d (tupP r)) := by
    unfold ixV
    simp [h.r, DL.atI_nat (enc_at hr)]
  have h2 : ixV os (.d (tupP r)) (.int 0) = some (.d (.int r.1)) := by
    unfold ixV tupP
    simp
  simp -implicitDefEqProofs [b_Walk_price, ins_ok h.w, l_at, l_rows, hi, h2, cutW_self ht, -insAt_o]
theorem left_ok {r : Int × Int} (h : At Z os j k w S) (ht : Tidy os) (hr : S[w.a]? = some r) : m_Walk_left Z [.o j] os = some (.int (r.2 - w.p), os) := by
  unfold m_Walk_left
  rw [m_1]
  have hi : ixV os (.o k) (.int (w.a : Int)) = some (.d (tupP r)) := by
    unfold ixV
    simp [h.r, DL.atI_nat (enc_at hr)]
  have h2 : ixV os (.d (tupP r)) (.int 1) = some (.d (.int r.2)) := by
    unfold ixV tupP
    simp
  simp -implicitDefEqProofs [b_Walk_left, ins_ok h.w, l_at, l_rows, l_passed, hi, h2, cutW_self ht, -insAt_o]
/-- by so many on -/
def goOn (S : Rw) (w : Wk) (t : Int) : Wk := match S[w.a]? with
  | some r => if r.2 - (w.p + t) = 0 then ⟨w.a + 1, 0⟩ else ⟨w.a, w.p + t⟩
  | none => w
theorem goon_ok {r : Int × Int} {t : Int} (h : At Z os j k w S) (ht : Tidy os) (hr : S[w.a]? = some r) : m_Walk_go_on Z [.o j, .d (.int t)] os = some (.none, os.set j (some (wkO Z k (goOn S w t)))) := by
  unfold m_Walk_go_on
  rw [m_2]
  have h1 : At Z (os.set j (some (wkO Z k ⟨w.a, w.p + t⟩))) j k ⟨w.a, w.p + t⟩ S := h.set
  have t1 : Tidy (os.set j (some (wkO Z k ⟨w.a, w.p + t⟩))) := h.tidy ht
  have i1 := ins_ok h1.w
  have l1 := left_ok h1 t1 hr
  simp only at l1
  have hf : (wkF k w).length < 1000 := by show 3 < 1000; decide
  have hf2 : ∀ w', (wkF k w').length < 1000 := fun w' => by show 3 < 1000; decide
  have c1 : ∀ w', cutW os.length (os.set j (some (wkO Z k w'))) = some (os.set j (some (wkO Z k w'))) := fun w' => by
    have := cutW_self (h.tidy (w' := w') ht)
    rw [List.length_set] at this
    exact this
  have s1 : sFldAug Z.Walk "passed" (fun i j => i + j) (xrVar 0) (xVar 1) [.o j, .d (.int t)] os = some (.nx [.o j, .d (.int t)] (os.set j (some (wkO Z k ⟨w.a, w.p + t⟩)))) := by
    unfold DL.sFldAug
    simp -implicitDefEqProofs [ins_ok h.w, l_passed, hf, p_passed, wkO, -insAt_o]
  have e1 : eqD (.int (r.2 - (w.p + t))) (.int 0) = some (.bool (decide (r.2 - (w.p + t) = 0))) := eqD_int
  unfold goOn
  rw [hr]
  simp only
  by_cases hz : r.2 - (w.p + t) = 0
  · have h2 : At Z (os.set j (some (wkO Z k ⟨w.a + 1, w.p + t⟩))) j k ⟨w.a + 1, w.p + t⟩ S := h.set
    have s2 : sFldAug Z.Walk "at" (fun i j => i + j) (xrVar 0) (xC (.int 1)) [.o j, .d (.int t)] (os.set j (some (wkO Z k ⟨w.a, w.p + t⟩))) = some (.nx [.o j, .d (.int t)] (os.set j (some (wkO Z k ⟨w.a + 1, w.p + t⟩)))) := by
      unfold DL.sFldAug
      have p2 : putS "at" (.d (.int ((w.a : Int) + 1))) (wkF k ⟨w.a, w.p + t⟩) = wkF k ⟨w.a + 1, w.p + t⟩ := p_at (i := w.a + 1)
      simp -implicitDefEqProofs [i1, l_at, hf2, p2, -insAt_o]
      rfl
    have s3 : sFldV Z.Walk "passed" (xrVar 0) (xrD (xC (.int 0))) [.o j, .d (.int t)] (os.set j (some (wkO Z k ⟨w.a + 1, w.p + t⟩))) = some (.nx [.o j, .d (.int t)] (os.set j (some (wkO Z k ⟨w.a + 1, 0⟩)))) := by
      simp -implicitDefEqProofs [ins_ok h2.w, hf2, p_passed, -insAt_o]
      rfl
    rw [if_pos hz]
    simp -implicitDefEqProofs only [b_Walk_go_on, List.reduceReplicate, Nat.reduceSub, a_seq, s1, Option.bind_some]
    have m1 : xMeth Z.Walk "left" (m_Walk_left Z) (xrVar 0) xaNil [.o j, .d (.int t)] (os.set j (some (wkO Z k ⟨w.a, w.p + t⟩))) = some (.int (r.2 - (w.p + t)), os.set j (some (wkO Z k ⟨w.a, w.p + t⟩))) := by
      simp -implicitDefEqProofs [i1, l_no3, l1, -insAt_o]
    simp -implicitDefEqProofs only [a_sIf, a_bool, a_op, a_c, m1, Option.bind_some, e1, hz, eqD_int, decide_true, Option.map_some, boolOf_bool, if_true, a_seq, s2, s3, outM_nx, c1]
  · rw [if_neg hz]
    have m1 : xMeth Z.Walk "left" (m_Walk_left Z) (xrVar 0) xaNil [.o j, .d (.int t)] (os.set j (some (wkO Z k ⟨w.a, w.p + t⟩))) = some (.int (r.2 - (w.p + t)), os.set j (some (wkO Z k ⟨w.a, w.p + t⟩))) := by
      simp -implicitDefEqProofs [i1, l_no3, l1, -insAt_o]
    simp -implicitDefEqProofs [b_Walk_go_on, s1, m1, e1, hz, c1, -a_fldV, -a_meth]
end
end Lw

set_option Elab.async false
set_option linter.all false
set_option maxRecDepth 100000
set_option maxHeartbeats 4000000
namespace Lw
open PySem PySem.Spec PyProof.Rows L2 Evl DL
/-! short lists of one's own, walked through -/
section
variable {os os1 os2 : Os} {q i v : Nat} {s1 s2 : Sl} {te : XE} {d1 d2 : PyData} {ρ : List Sl}
theorem lc1 (hq : os[q]? = some (some (.r [s1]))) (hi : slV ρ[i]? = some (.o q)) (h1 : te ((wipeR ρ [v]).set v s1) os = some (d1, os)) : lcL (xrVar i) (gLNm v) xYes te [v] ρ os = some ([d1], os) := by
  have hl : lenO os q = some 1 := by
    unfold lenO
    simp [hq]
  have i0 : itemO os q 0 = some (some s1) := by
    unfold itemO
    simp [hq]
  have i1 : itemO os q 1 = some none := by
    unfold itemO
    simp [hq]
  have z0 : ([] : List PyData).length < sizeLine := by decide
  unfold lcL
  simp -implicitDefEqProofs only [a_rvar, hi, Option.map_some, Option.bind_some, hl, lcLive, i0, i1, gLNm, a_yes, h1, z0, if_true, List.nil_append, Nat.zero_add]
theorem lc2 (hq : os[q]? = some (some (.r [s1, s2]))) (hi : slV ρ[i]? = some (.o q)) (h1 : te ((wipeR ρ [v]).set v s1) os = some (d1, os)) (h2 : te ((wipeR ρ [v]).set v s2) os = some (d2, os)) : lcL (xrVar i) (gLNm v) xYes te [v] ρ os = some ([d1, d2], os) := by
  have hl : lenO os q = some 2 := by
    unfold lenO
    simp [hq]
  have i0 : itemO os q 0 = some (some s1) := by
    unfold itemO
    simp [hq]
  have i1 : itemO os q 1 = some (some s2) := by
    unfold itemO
    simp [hq]
  have i2 : itemO os q 2 = some none := by
    unfold itemO
    simp [hq]
  have z0 : ([] : List PyData).length < sizeLine := by decide
  have z1 : ([d1] : List PyData).length < sizeLine := by
    show 1 < sizeLine
    decide
  unfold lcL
  simp -implicitDefEqProofs only [a_rvar, hi, Option.map_some, Option.bind_some, hl, lcLive, i0, i1, i2, gLNm, a_yes, h1, h2, z0, z1, if_true, List.nil_append, Nat.zero_add, List.cons_append, Nat.reduceAdd]
theorem for1 {b : SE} {r2 : List Sl} (hq : os[q]? = some (some (.r [s1]))) (hi : slV ρ[i]? = some (.o q)) (h1 : b (ρ.set v s1) os = some (.nx r2 os1)) (hq1 : os1[q]? = some (some (.r [s1]))) : sForL (xrVar i) (gLNm v) b ρ os = some (.nx r2 os1) := by
  have hl : lenO os q = some 1 := by
    unfold lenO
    simp [hq]
  have i0 : itemO os q 0 = some (some s1) := by
    unfold itemO
    simp [hq]
  have i1 : itemO os1 q 1 = some none := by
    unfold itemO
    simp [hq1]
  unfold sForL
  simp -implicitDefEqProofs only [a_rvar, hi, Option.map_some, Option.bind_some, hl, forLive, i0, i1, gLNm, h1, Nat.zero_add]
theorem for2 {b : SE} {r2 r3 : List Sl} (hq : os[q]? = some (some (.r [s1, s2]))) (hi : slV ρ[i]? = some (.o q)) (h1 : b (ρ.set v s1) os = some (.nx r2 os1)) (hq1 : os1[q]? = some (some (.r [s1, s2]))) (h2 : b (r2.set v s2) os1 = some (.nx r3 os2)) (hq2 : os2[q]? = some (some (.r [s1, s2]))) : sForL (xrVar i) (gLNm v) b ρ os = some (.nx r3 os2) := by
  have hl : lenO os q = some 2 := by
    unfold lenO
    simp [hq]
  have i0 : itemO os q 0 = some (some s1) := by
    unfold itemO
    simp [hq]
  have i1 : itemO os1 q 1 = some (some s2) := by
    unfold itemO
    simp [hq1]
  have i2 : itemO os2 q 2 = some none := by
    unfold itemO
    simp [hq2]
  unfold sForL
  simp -implicitDefEqProofs only [a_rvar, hi, Option.map_some, Option.bind_some, hl, forLive, i0, i1, i2, gLNm, h1, h2, Nat.zero_add, Nat.reduceAdd]
end
def next1 (S : Rw) (w : Wk) : Option Int := (S[w.a]?).map (·.1)
def next2 (R S : Rw) (wr ws : Wk) : Option Int := (R[wr.a]?).bind fun r => (S[ws.a]?).map fun s => r.1 + s.1
def optD : Option Int → PyData
  | none => .none
  | some i => .int i
def left (S : Rw) (w : Wk) : Int := match S[w.a]? with
  | some r => r.2 - w.p
  | none => 0
theorem anyD_bools {ns : List Bool} : anyD [.list (ns.map .bool)] = some (.bool (ns.any id)) := by
  show (boolsOf (ns.map .bool)).map _ = _
  rw [boolsOf_map]
  rfl
theorem minD_ints {ns : List Int} (h : ns ≠ []) : minD [.list (ns.map .int)] = some (.int (minL ns)) := by
  show ((intsOf (ns.map .int)).bind _) = _
  rw [intsOf_map, Option.bind_some, if_pos (List.length_pos_iff.mpr h)]
section
variable {Z : Cs} {os : Os} {q j k i l : Nat} {w wr ws : Wk} {S R : Rw}
theorem over_m {ρ : List Sl} {v : Nat} (h : At Z os j k w S) (ht : Tidy os) (hv : slV ρ[v]? = some (.o j)) : xMeth Z.Walk "is_over" (m_Walk_is_over Z) (xrVar v) xaNil ρ os = some (.bool (decide (w.a = S.length)), os) := by
  simp -implicitDefEqProofs [hv, ins_ok h.w, l_no1, over_ok h ht, -insAt_o]
theorem price_m {ρ : List Sl} {v : Nat} {r : Int × Int} (h : At Z os j k w S) (ht : Tidy os) (hv : slV ρ[v]? = some (.o j)) (hr : S[w.a]? = some r) : xMeth Z.Walk "price" (m_Walk_price Z) (xrVar v) xaNil ρ os = some (.int r.1, os) := by
  simp -implicitDefEqProofs [hv, ins_ok h.w, l_no2, price_ok h ht hr, -insAt_o]
theorem left_m {ρ : List Sl} {v : Nat} {r : Int × Int} (h : At Z os j k w S) (ht : Tidy os) (hv : slV ρ[v]? = some (.o j)) (hr : S[w.a]? = some r) : xMeth Z.Walk "left" (m_Walk_left Z) (xrVar v) xaNil ρ os = some (.int (left S w), os) := by
  have e : left S w = r.2 - w.p := by
    unfold left
    rw [hr]
  rw [e]
  simp -implicitDefEqProofs [hv, ins_ok h.w, l_no3, left_ok h ht hr, -insAt_o]
theorem goon_m {ρ : List Sl} {v u : Nat} {t : Int} {r : Int × Int} (h : At Z os j k w S) (ht : Tidy os) (hv : slV ρ[v]? = some (.o j)) (hu : slD ρ[u]? = some (.int t)) (hr : S[w.a]? = some r) : xMeth Z.Walk "go_on" (m_Walk_go_on Z) (xrVar v) (xaD (xVar u) xaNil) ρ os = some (.none, os.set j (some (wkO Z k (goOn S w t)))) := by
  simp -implicitDefEqProofs [hv, hu, ins_ok h.w, l_no4, goon_ok h ht hr, -insAt_o]
theorem next1_ok (h : At Z os j k w S) (ht : Tidy os) (hq : os[q]? = some (some (.r [.o j]))) (hw : w.a ≤ S.length) : m_next_price Z [.o q] os = some (optD (next1 S w), os) := by
  unfold m_next_price
  rw [m_1]
  have o1 : lcL (xrVar 0) (gLNm 1) xYes (xMeth Z.Walk "is_over" (m_Walk_is_over Z) (xrVar 1) xaNil) [1] [.o q, .u] os = some ([.bool (decide (w.a = S.length))], os) := lc1 hq rfl (over_m h ht rfl)
  have a1 : anyD [.list [.bool (decide (w.a = S.length))]] = some (.bool (decide (w.a = S.length))) := by
    have := anyD_bools (ns := [decide (w.a = S.length)])
    simpa using this
  unfold next1
  by_cases e : w.a = S.length
  · have e1 : S[w.a]? = none := by rw [e]; simp
    have hb : decide (w.a = S.length) = true := by simp [e]
    rw [hb] at o1 a1
    rw [e1]
    simp -implicitDefEqProofs [b_next_price, o1, a1, e, cutW_self ht, optD]
  · have hlt : w.a < S.length := by omega
    have hb : decide (w.a = S.length) = false := by simp [e]
    rw [hb] at o1 a1
    have e1 : S[w.a]? = some S[w.a] := by simp [hlt]
    rw [e1]
    have o2 : lcL (xrVar 0) (gLNm 1) xYes (xMeth Z.Walk "price" (m_Walk_price Z) (xrVar 1) xaNil) [1] [.o q, .u] os = some ([.int S[w.a].1], os) := lc1 hq rfl (price_m h ht rfl e1)
    have s1 : sumD [.list [.int S[w.a].1]] = some (.int S[w.a].1) := by
      have := sumD_ints (ns := [S[w.a].1])
      simpa using this
    simp -implicitDefEqProofs [b_next_price, o1, o2, a1, s1, e, cutW_self ht, optD]
theorem next2_ok (h : At Z os i l wr R) (g : At Z os j k ws S) (ht : Tidy os) (hq : os[q]? = some (some (.r [.o i, .o j]))) (hw : wr.a ≤ R.length) (hw2 : ws.a ≤ S.length) : m_next_price Z [.o q] os = some (optD (next2 R S wr ws), os) := by
  unfold m_next_price
  rw [m_1]
  have o1 : lcL (xrVar 0) (gLNm 1) xYes (xMeth Z.Walk "is_over" (m_Walk_is_over Z) (xrVar 1) xaNil) [1] [.o q, .u] os = some ([.bool (decide (wr.a = R.length)), .bool (decide (ws.a = S.length))], os) := lc2 hq rfl (over_m h ht rfl) (over_m g ht rfl)
  have a1 : anyD [.list [.bool (decide (wr.a = R.length)), .bool (decide (ws.a = S.length))]] = some (.bool (decide (wr.a = R.length ∨ ws.a = S.length))) := by
    have := anyD_bools (ns := [decide (wr.a = R.length), decide (ws.a = S.length)])
    simpa using this
  unfold next2
  by_cases e : wr.a = R.length ∨ ws.a = S.length
  · have e1 : ((R[wr.a]?).bind fun r => (S[ws.a]?).map fun s => r.1 + s.1) = none := by
      rcases e with e | e
      · rw [e]; simp
      · rw [e]; cases R[wr.a]? <;> simp
    rw [e1]
    simp -implicitDefEqProofs [b_next_price, o1, a1, e, cutW_self ht, optD]
  · have hl1 : wr.a < R.length := by omega
    have hl2 : ws.a < S.length := by omega
    have e1 : R[wr.a]? = some R[wr.a] := by simp [hl1]
    have e2 : S[ws.a]? = some S[ws.a] := by simp [hl2]
    rw [e1, e2]
    have o2 : lcL (xrVar 0) (gLNm 1) xYes (xMeth Z.Walk "price" (m_Walk_price Z) (xrVar 1) xaNil) [1] [.o q, .u] os = some ([.int R[wr.a].1, .int S[ws.a].1], os) := lc2 hq rfl (price_m h ht rfl e1) (price_m g ht rfl e2)
    have s1 : sumD [.list [.int R[wr.a].1, .int S[ws.a].1]] = some (.int (R[wr.a].1 + S[ws.a].1)) := by
      have := sumD_ints (ns := [R[wr.a].1, S[ws.a].1])
      simpa using this
    simp -implicitDefEqProofs [b_next_price, o1, o2, a1, s1, e, cutW_self ht, optD]
end
end Lw

set_option Elab.async false
set_option linter.all false
set_option maxRecDepth 100000
set_option maxHeartbeats 4000000
namespace Lw
open PySem PySem.Spec PyProof.Rows L2 Evl DL
def gp1 (S : Rw) : Nat → Wk → Int → Int → Option (Int × Wk)
  | 0, _, _, _ => none
  | f + 1, w, p, acc => if next1 S w = some p then gp1 S f (goOn S w (left S w)) p (acc + left S w) else some (acc, w)
def gp2 (R S : Rw) : Nat → Wk → Wk → Int → Int → Option (Int × Wk × Wk)
  | 0, _, _, _, _ => none
  | f + 1, wr, ws, p, acc => if next2 R S wr ws = some p then gp2 R S f (goOn R wr (minL [left R wr, left S ws])) (goOn S ws (minL [left R wr, left S ws])) p (acc + minL [left R wr, left S ws]) else some (acc, wr, ws)
theorem eq_opt {o : Option Int} {p : Int} : eqD (optD o) (.int p) = some (.bool (decide (o = some p))) := by
  cases o with
  | none =>
    show eqD .none (.int p) = _
    rw [eqD_none_int]
    simp
  | some i =>
    show eqD (.int i) (.int p) = _
    rw [eqD_int]
    simp
theorem next1_some {S : Rw} {w : Wk} {p : Int} (h : next1 S w = some p) : ∃ r, S[w.a]? = some r ∧ r.1 = p := by
  unfold next1 at h
  cases e : S[w.a]? with
  | none => rw [e] at h; cases h
  | some r =>
    rw [e] at h
    cases h
    exact ⟨r, rfl, rfl⟩
theorem next2_some {R S : Rw} {wr ws : Wk} {p : Int} (h : next2 R S wr ws = some p) : ∃ r s, R[wr.a]? = some r ∧ S[ws.a]? = some s ∧ r.1 + s.1 = p := by
  unfold next2 at h
  cases e : R[wr.a]? with
  | none => rw [e] at h; cases h
  | some r =>
    rw [e, Option.bind_some] at h
    cases e2 : S[ws.a]? with
    | none => rw [e2] at h; cases h
    | some s =>
      rw [e2] at h
      cases h
      exact ⟨r, s, rfl, rfl, rfl⟩
theorem goOn_le {S : Rw} {w : Wk} {t : Int} (h : w.a ≤ S.length) : (goOn S w t).a ≤ S.length := by
  unfold goOn
  cases e : S[w.a]? with
  | none => exact h
  | some r =>
    have := (List.getElem?_eq_some_iff.mp e).1
    simp only
    split
    · simp only
      omega
    · exact h
section
variable {Z : Cs} {q j k i l : Nat} {S R : Rw}
theorem gp1_run {p : Int} : ∀ (f : Nat) (w : Wk) (acc : Int) (os : Os) (y z : Sl) (m : Int) (w' : Wk), At Z os j k w S → Tidy os → os[q]? = some (some (.r [.o j])) → w.a ≤ S.length → gp1 S f w p acc = some (m, w') →
    ∃ y' z', whRun (xBool (xOp eqD (xFn (m_next_price Z) (xaV (xrVar 0) xaNil)) (xVar 1)))
  (sSeq (sAsg (xCall minD (xaD (xF (lcL (xrVar 0) (gLNm 4) xYes (xMeth Z.Walk "left" (m_Walk_left Z) (xrVar 4) xaNil) [4])) xaNil)) (gNm 3))
  (sSeq (sForL (xrVar 0) (gLNm 4)
  (sDrop (xMeth Z.Walk "go_on" (m_Walk_go_on Z) (xrVar 4) (xaD (xVar 3) xaNil))))
  (sAug 2 (fun i j => i + j) (xVar 3)))) f [.o q, .d (.int p), .d (.int acc), y, z] os = some (.nx [.o q, .d (.int p), .d (.int m), y', z'] (os.set j (some (wkO Z k w'))))
  | 0, w, acc, os, y, z, m, w', _, _, _, _, h => by cases h
  | f + 1, w, acc, os, y, z, m, w', A, ht, hq, hw, h => by
    have t1 : xBool (xOp eqD (xFn (m_next_price Z) (xaV (xrVar 0) xaNil)) (xVar 1)) [.o q, .d (.int p), .d (.int acc), y, z] os = some (decide (next1 S w = some p), os) := by
      simp -implicitDefEqProofs [next1_ok A ht hq hw, eq_opt]
    unfold gp1 at h
    by_cases e : next1 S w = some p
    · rw [if_pos e] at h
      obtain ⟨r, e1, e2⟩ := next1_some e
      have l1 : lcL (xrVar 0) (gLNm 4) xYes (xMeth Z.Walk "left" (m_Walk_left Z) (xrVar 4) xaNil) [4] [.o q, .d (.int p), .d (.int acc), y, z] os = some ([.int (left S w)], os) := lc1 hq rfl (left_m A ht rfl e1)
      have m1 : minD [.list [.int (left S w)]] = some (.int (left S w)) := by
        have := minD_ints (ns := [left S w]) (by simp)
        simpa [minL] using this
      have A2 : At Z (os.set j (some (wkO Z k (goOn S w (left S w))))) j k (goOn S w (left S w)) S := A.set
      have nq : j ≠ q := fun e => by
        have := A.w
        rw [e, hq] at this
        cases this
      have hq2 : (os.set j (some (wkO Z k (goOn S w (left S w)))))[q]? = some (some (.r [.o j])) := by rw [get_ne nq]; exact hq
      have f1 : sForL (xrVar 0) (gLNm 4) (sDrop (xMeth Z.Walk "go_on" (m_Walk_go_on Z) (xrVar 4) (xaD (xVar 3) xaNil))) [.o q, .d (.int p), .d (.int acc), .d (.int (left S w)), z] os = some (.nx [.o q, .d (.int p), .d (.int acc), .d (.int (left S w)), .o j] (os.set j (some (wkO Z k (goOn S w (left S w)))))) := by
        refine for1 hq rfl (r2 := [.o q, .d (.int p), .d (.int acc), .d (.int (left S w)), .o j]) ?_ hq2
        have g1 := goon_m (ρ := [.o q, .d (.int p), .d (.int acc), .d (.int (left S w)), .o j]) (v := 4) (u := 3) A ht rfl rfl e1
        simp -implicitDefEqProofs only [a_drop, List.set_cons_succ, List.set_cons_zero, g1, Option.map_some]
      obtain ⟨y', z', ih⟩ := gp1_run f _ (acc + left S w) _ (.d (.int (left S w))) (.o j) m w' A2 (A.tidy ht) hq2 (goOn_le hw) h
      refine ⟨y', z', ?_⟩
      rw [setset] at ih
      have u1 : DL.sAug 2 (fun i j => i + j) (xVar 3) [.o q, .d (.int p), .d (.int acc), .d (.int (left S w)), .o j] (os.set j (some (wkO Z k (goOn S w (left S w))))) = some (.nx [.o q, .d (.int p), .d (.int (acc + left S w)), .d (.int (left S w)), .o j] (os.set j (some (wkO Z k (goOn S w (left S w)))))) := by
        unfold DL.sAug
        simp -implicitDefEqProofs
      unfold whRun
      have d1 : decide (next1 S w = some p) = true := by simp [e]
      have s1 : sAsg (xCall minD (xaD (xF (lcL (xrVar 0) (gLNm 4) xYes (xMeth Z.Walk "left" (m_Walk_left Z) (xrVar 4) xaNil) [4])) xaNil)) (gNm 3) [.o q, .d (.int p), .d (.int acc), y, z] os = some (.nx [.o q, .d (.int p), .d (.int acc), .d (.int (left S w)), z] os) := by
        simp -implicitDefEqProofs [l1, m1]
      simp -implicitDefEqProofs only [t1, d1, Option.bind_some, if_true, a_seq, s1, f1, u1, ih]
    · rw [if_neg e] at h
      cases h
      refine ⟨y, z, ?_⟩
      unfold whRun
      have d1 : decide (next1 S w = some p) = false := by simp [e]
      rw [set_eq A.w]
      simp -implicitDefEqProofs only [t1, d1, Option.bind_some, Bool.false_eq_true, if_false]
theorem past1_ok {p m : Int} {w w' : Wk} {os : Os} (A : At Z os j k w S) (ht : Tidy os) (hq : os[q]? = some (some (.r [.o j]))) (hw : w.a ≤ S.length) (h : gp1 S 1000000 w p 0 = some (m, w')) :
    m_go_past Z [.o q, .d (.int p)] os = some (.int m, os.set j (some (wkO Z k w'))) := by
  obtain ⟨y', z', ih⟩ := gp1_run 1000000 w 0 os .u .u m w' A ht hq hw h
  unfold m_go_past
  rw [m_2]
  have c1 : cutW os.length (os.set j (some (wkO Z k w'))) = some (os.set j (some (wkO Z k w'))) := by
    have := cutW_self (A.tidy (w' := w') ht)
    rw [List.length_set] at this
    exact this
  simp -implicitDefEqProofs only [b_go_past, List.reduceReplicate, Nat.reduceSub, a_seq, a_asg, a_c, a_nm, Option.bind_some, Option.map_some, List.set_cons_succ, List.set_cons_zero, DL.sWhile, ih, a_ret, a_var, List.getElem?_cons_succ, List.getElem?_cons_zero, slD_d, outM_rt, c1]
theorem gp2_run {p : Int} : ∀ (f : Nat) (wr ws : Wk) (acc : Int) (os : Os) (y z : Sl) (m : Int) (wr' ws' : Wk), At Z os i l wr R → At Z os j k ws S → i ≠ j → Tidy os → os[q]? = some (some (.r [.o i, .o j])) → wr.a ≤ R.length → ws.a ≤ S.length → gp2 R S f wr ws p acc = some (m, wr', ws') →
    ∃ y' z', whRun (xBool (xOp eqD (xFn (m_next_price Z) (xaV (xrVar 0) xaNil)) (xVar 1)))
  (sSeq (sAsg (xCall minD (xaD (xF (lcL (xrVar 0) (gLNm 4) xYes (xMeth Z.Walk "left" (m_Walk_left Z) (xrVar 4) xaNil) [4])) xaNil)) (gNm 3))
  (sSeq (sForL (xrVar 0) (gLNm 4)
  (sDrop (xMeth Z.Walk "go_on" (m_Walk_go_on Z) (xrVar 4) (xaD (xVar 3) xaNil))))
  (sAug 2 (fun i j => i + j) (xVar 3)))) f [.o q, .d (.int p), .d (.int acc), y, z] os = some (.nx [.o q, .d (.int p), .d (.int m), y', z'] ((os.set i (some (wkO Z l wr'))).set j (some (wkO Z k ws'))))
  | 0, wr, ws, acc, os, y, z, m, wr', ws', _, _, _, _, _, _, _, h => by cases h
  | f + 1, wr, ws, acc, os, y, z, m, wr', ws', A, B, hij, ht, hq, hw, hw2, h => by
    have t1 : xBool (xOp eqD (xFn (m_next_price Z) (xaV (xrVar 0) xaNil)) (xVar 1)) [.o q, .d (.int p), .d (.int acc), y, z] os = some (decide (next2 R S wr ws = some p), os) := by
      simp -implicitDefEqProofs [next2_ok A B ht hq hw hw2, eq_opt]
    unfold gp2 at h
    by_cases e : next2 R S wr ws = some p
    · rw [if_pos e] at h
      obtain ⟨r, s, e1, e2, e3⟩ := next2_some e
      have l1 : lcL (xrVar 0) (gLNm 4) xYes (xMeth Z.Walk "left" (m_Walk_left Z) (xrVar 4) xaNil) [4] [.o q, .d (.int p), .d (.int acc), y, z] os = some ([.int (left R wr), .int (left S ws)], os) := lc2 hq rfl (left_m A ht rfl e1) (left_m B ht rfl e2)
      have m1 : minD [.list [.int (left R wr), .int (left S ws)]] = some (.int (minL [left R wr, left S ws])) := minD_ints (ns := [left R wr, left S ws]) (by simp)
      generalize eT : minL [left R wr, left S ws] = T at h m1
      have A2 : At Z (os.set i (some (wkO Z l (goOn R wr T)))) i l (goOn R wr T) R := A.set
      have B2 : At Z (os.set i (some (wkO Z l (goOn R wr T)))) j k ws S := A.set2 B (Ne.symm hij)
      have B3 : At Z ((os.set i (some (wkO Z l (goOn R wr T)))).set j (some (wkO Z k (goOn S ws T)))) j k (goOn S ws T) S := B2.set
      have A3 : At Z ((os.set i (some (wkO Z l (goOn R wr T)))).set j (some (wkO Z k (goOn S ws T)))) i l (goOn R wr T) R := B2.set2 A2 hij
      have nq : i ≠ q := fun e => by
        have := A.w
        rw [e, hq] at this
        cases this
      have nq2 : j ≠ q := fun e => by
        have := B.w
        rw [e, hq] at this
        cases this
      have hq2 : (os.set i (some (wkO Z l (goOn R wr T))))[q]? = some (some (.r [.o i, .o j])) := by rw [get_ne nq]; exact hq
      have hq3 : ((os.set i (some (wkO Z l (goOn R wr T)))).set j (some (wkO Z k (goOn S ws T))))[q]? = some (some (.r [.o i, .o j])) := by rw [get_ne nq2]; exact hq2
      have t2 := A.tidy (w' := goOn R wr T) ht
      have f1 : sForL (xrVar 0) (gLNm 4) (sDrop (xMeth Z.Walk "go_on" (m_Walk_go_on Z) (xrVar 4) (xaD (xVar 3) xaNil))) [.o q, .d (.int p), .d (.int acc), .d (.int T), z] os = some (.nx [.o q, .d (.int p), .d (.int acc), .d (.int T), .o j] ((os.set i (some (wkO Z l (goOn R wr T)))).set j (some (wkO Z k (goOn S ws T))))) := by
        refine for2 hq rfl (r2 := [.o q, .d (.int p), .d (.int acc), .d (.int T), .o i]) (os1 := os.set i (some (wkO Z l (goOn R wr T)))) ?_ hq2 (r3 := [.o q, .d (.int p), .d (.int acc), .d (.int T), .o j]) ?_ hq3
        · have g1 := goon_m (ρ := [.o q, .d (.int p), .d (.int acc), .d (.int T), .o i]) (v := 4) (u := 3) A ht rfl rfl e1
          simp -implicitDefEqProofs only [a_drop, List.set_cons_succ, List.set_cons_zero, g1, Option.map_some]
        · have g1 := goon_m (ρ := [.o q, .d (.int p), .d (.int acc), .d (.int T), .o j]) (v := 4) (u := 3) B2 t2 rfl rfl e2
          simp -implicitDefEqProofs only [a_drop, List.set_cons_succ, List.set_cons_zero, g1, Option.map_some]
      obtain ⟨y', z', ih⟩ := gp2_run f _ _ (acc + T) _ (.d (.int T)) (.o j) m wr' ws' A3 B3 hij (B2.tidy t2) hq3 (goOn_le hw) (goOn_le hw2) h
      refine ⟨y', z', ?_⟩
      rw [List.set_comm (i := j) (j := i) _ _ (Ne.symm hij), setset, setset] at ih
      have u1 : DL.sAug 2 (fun i j => i + j) (xVar 3) [.o q, .d (.int p), .d (.int acc), .d (.int T), .o j] ((os.set i (some (wkO Z l (goOn R wr T)))).set j (some (wkO Z k (goOn S ws T)))) = some (.nx [.o q, .d (.int p), .d (.int (acc + T)), .d (.int T), .o j] ((os.set i (some (wkO Z l (goOn R wr T)))).set j (some (wkO Z k (goOn S ws T))))) := by
        unfold DL.sAug
        simp -implicitDefEqProofs
      unfold whRun
      have d1 : decide (next2 R S wr ws = some p) = true := by simp [e]
      have s1 : sAsg (xCall minD (xaD (xF (lcL (xrVar 0) (gLNm 4) xYes (xMeth Z.Walk "left" (m_Walk_left Z) (xrVar 4) xaNil) [4])) xaNil)) (gNm 3) [.o q, .d (.int p), .d (.int acc), y, z] os = some (.nx [.o q, .d (.int p), .d (.int acc), .d (.int T), z] os) := by
        simp -implicitDefEqProofs [l1, m1]
      simp -implicitDefEqProofs only [t1, d1, Option.bind_some, if_true, a_seq, s1, f1, u1, ih]
    · rw [if_neg e] at h
      cases h
      refine ⟨y, z, ?_⟩
      unfold whRun
      have d1 : decide (next2 R S wr ws = some p) = false := by simp [e]
      rw [set_eq A.w, set_eq B.w]
      simp -implicitDefEqProofs only [t1, d1, Option.bind_some, Bool.false_eq_true, if_false]
theorem past2_ok {p m : Int} {wr ws wr' ws' : Wk} {os : Os} (A : At Z os i l wr R) (B : At Z os j k ws S) (hij : i ≠ j) (ht : Tidy os) (hq : os[q]? = some (some (.r [.o i, .o j]))) (hw : wr.a ≤ R.length) (hw2 : ws.a ≤ S.length) (h : gp2 R S 1000000 wr ws p 0 = some (m, wr', ws')) :
    m_go_past Z [.o q, .d (.int p)] os = some (.int m, (os.set i (some (wkO Z l wr'))).set j (some (wkO Z k ws'))) := by
  obtain ⟨y', z', ih⟩ := gp2_run 1000000 wr ws 0 os .u .u m wr' ws' A B hij ht hq hw hw2 h
  unfold m_go_past
  rw [m_2]
  have A2 : At Z (os.set i (some (wkO Z l wr'))) i l wr' R := A.set
  have B2 : At Z (os.set i (some (wkO Z l wr'))) j k ws S := A.set2 B (Ne.symm hij)
  have c1 : cutW os.length ((os.set i (some (wkO Z l wr'))).set j (some (wkO Z k ws'))) = some ((os.set i (some (wkO Z l wr'))).set j (some (wkO Z k ws'))) := by
    have := cutW_self (B2.tidy (w' := ws') (A.tidy (w' := wr') ht))
    rw [List.length_set, List.length_set] at this
    exact this
  simp -implicitDefEqProofs only [b_go_past, List.reduceReplicate, Nat.reduceSub, a_seq, a_asg, a_c, a_nm, Option.bind_some, Option.map_some, List.set_cons_succ, List.set_cons_zero, DL.sWhile, ih, a_ret, a_var, List.getElem?_cons_succ, List.getElem?_cons_zero, slD_d, outM_rt, c1]
end
end Lw

set_option Elab.async false
set_option linter.all false
set_option maxRecDepth 100000
set_option maxHeartbeats 4000000
namespace Lw
open PySem PySem.Spec PyProof.Rows L2 Evl DL
def mn (a b : Option Int) : Option Int := match a, b with
  | none, b => b
  | a, none => a
  | some x, some y => some (minL [x, y])
def lb (S : Rw) : Nat → Rw → Wk → Wk → Wk → Option Int → Option Rw
  | 0, _, _, _, _, _ => none
  | f + 1, R, wk, wr, ws, price => match price with
    | none => some R
    | some p => (gp1 S 1000000 wk p 0).bind fun x => (gp2 R S 1000000 wr ws p 0).bind fun y => if R.length < 16777216 then
        lb S f (R ++ [(p, x.1 + y.1)]) x.2 y.2.1 y.2.2 (mn (next1 S x.2) (next2 (R ++ [(p, x.1 + y.1)]) S y.2.1 y.2.2)) else none
def LB (S : Rw) : Option Rw := lb S 1000000 [] ⟨0, 0⟩ ⟨0, 0⟩ ⟨0, 0⟩ (next1 S ⟨0, 0⟩)
theorem gp1_le {S : Rw} {p : Int} : ∀ {f : Nat} {w : Wk} {acc m : Int} {w' : Wk}, w.a ≤ S.length → gp1 S f w p acc = some (m, w') → w'.a ≤ S.length
  | 0, _, _, _, _, _, h => by cases h
  | f + 1, w, acc, m, w', hw, h => by
    unfold gp1 at h
    split at h
    · exact gp1_le (goOn_le hw) h
    · cases h
      exact hw
theorem gp2_le {R S : Rw} {p : Int} : ∀ {f : Nat} {wr ws : Wk} {acc m : Int} {wr' ws' : Wk}, wr.a ≤ R.length → ws.a ≤ S.length → gp2 R S f wr ws p acc = some (m, wr', ws') → wr'.a ≤ R.length ∧ ws'.a ≤ S.length
  | 0, _, _, _, _, _, _, _, _, h => by cases h
  | f + 1, wr, ws, acc, m, wr', ws', hw, hw2, h => by
    unfold gp2 at h
    split at h
    · exact gp2_le (goOn_le hw) (goOn_le hw2) h
    · cases h
      exact ⟨hw, hw2⟩
/-- the objects of list_behind -/
def osX (Z : Cs) (k : Nat) (os : Os) (R : Rw) (wk wr ws : Wk) : Os := os ++ [some (.l (encR R)), some (wkO Z k wk), some (.r [.o (os.length + 1)]), some (wkO Z os.length wr), some (wkO Z k ws), some (.r [.o (os.length + 3), .o (os.length + 4)])]
section
variable {Z : Cs} {k : Nat} {S R R' : Rw} {os : Os} {wk wr ws w' : Wk}
theorem x_get {i : Nat} : (osX Z k os R wk wr ws)[os.length + i]? = [some (.l (encR R)), some (wkO Z k wk), some (.r [.o (os.length + 1)]), some (wkO Z os.length wr), some (wkO Z k ws), some (.r [.o (os.length + 3), .o (os.length + 4)])][i]? := by
  unfold osX
  rw [List.getElem?_append_right (by omega)]
  congr 1
  omega
theorem x_set {i : Nat} {o : Option Ob} : (osX Z k os R wk wr ws).set (os.length + i) o = os ++ [some (.l (encR R)), some (wkO Z k wk), some (.r [.o (os.length + 1)]), some (wkO Z os.length wr), some (wkO Z k ws), some (.r [.o (os.length + 3), .o (os.length + 4)])].set i o := by
  unfold osX
  rw [List.set_append_right _ _ (by omega)]
  congr 2
  omega
theorem x_k (hk : os[k]? = some (some (.l (encR S)))) : (osX Z k os R wk wr ws)[k]? = some (some (.l (encR S))) := by
  unfold osX
  rw [List.getElem?_append_left (List.getElem?_eq_some_iff.mp hk).1]
  exact hk
theorem x_tidy (ht : Tidy os) (hk : k < os.length) : Tidy (osX Z k os R wk wr ws) := by
  refine ht.app ?_
  simp [oLt, obLt, wkO, wkF, slLt]
  omega
theorem x_k1 (hk : os[k]? = some (some (.l (encR S)))) : At Z (osX Z k os R wk wr ws) (os.length + 1) k wk S := ⟨x_get, x_k hk⟩
theorem x_k3 : At Z (osX Z k os R wk wr ws) (os.length + 3) os.length wr R := ⟨x_get, x_get (i := 0)⟩
theorem x_k4 (hk : os[k]? = some (some (.l (encR S)))) : At Z (osX Z k os R wk wr ws) (os.length + 4) k ws S := ⟨x_get, x_k hk⟩
theorem mn_ok {a b : Option Int} {r0 r1 r2 r3 r4 r5 r6 : Sl} {os : Os} {xi : XI} (h : xi [r0, r1, r2, r3, r4, r5, r6] os = some ([optD a, optD b], os)) : ∃ l : List PyData, lcD xi (gNm 6) (xBool (xOp (isD true) (xVar 6) (xC .none))) (xVar 6) [6] [r0, r1, r2, r3, r4, r5, r6] os = some (l, os) ∧ minDefD [.list l] = some (optD (mn a b)) := by
  unfold lcD
  rw [h, Option.bind_some]
  have n1 : ∀ y : Int, isD true (.int y) .none = some (.bool true) := fun y => rfl
  have n2 : isD true .none .none = some (.bool false) := rfl
  have z0 : ([] : List PyData).length < sizeLine := by decide
  have z1 : ∀ d : PyData, [d].length < sizeLine := fun d => by
    show 1 < sizeLine
    decide
  cases a <;> cases b
  · refine ⟨[], ?_, rfl⟩
    simp -implicitDefEqProofs [lcRun, optD, wipeR, n2]
  · rename_i y
    refine ⟨[.int y], ?_, rfl⟩
    simp -implicitDefEqProofs [lcRun, optD, wipeR, n1, n2, z0, z1]
    decide
  · rename_i x
    refine ⟨[.int x], ?_, rfl⟩
    simp -implicitDefEqProofs [lcRun, optD, wipeR, n1, n2, z0, z1]
    decide
  · rename_i x y
    refine ⟨[.int x, .int y], ?_, rfl⟩
    simp -implicitDefEqProofs [lcRun, optD, wipeR, n1, n2, z0, z1]
    decide
theorem optD_none {o : Option Int} : isD true (optD o) .none = some (.bool o.isSome) := by cases o <;> rfl
theorem lb_run (hk : os[k]? = some (some (.l (encR S)))) (ht : Tidy os) : ∀ (f : Nat) (R : Rw) (wk wr ws : Wk) (price : Option Int) (R' : Rw) (t u : Sl), wk.a ≤ S.length → wr.a ≤ R.length → ws.a ≤ S.length → lb S f R wk wr ws price = some R' →
    ∃ (ρ4 ρ5 ρ6 : Sl) (wk' wr' ws' : Wk), whRun (xBool (xOp (isD true) (xVar 4) (xC .none)))
  (sSeq (sApp 1 (xCall tupD (xaD (xVar 4) (xaD (xOp addD (xFn (m_go_past Z) (xaV (xrVar 2) (xaD (xVar 4) xaNil))) (xFn (m_go_past Z) (xaV (xrVar 3) (xaD (xVar 4) xaNil)))) xaNil))))
  (sSeq (sAsg (xF (lcD (iLst (xCall lstD (xaD (xFn (m_next_price Z) (xaV (xrVar 2) xaNil)) (xaD (xFn (m_next_price Z) (xaV (xrVar 3) xaNil)) xaNil)))) (gNm 6) (xBool (xOp (isD true) (xVar 6) (xC .none))) (xVar 6) [6])) (gNm 5))
  (sAsg (xCall minDefD (xaD (xVar 5) xaNil)) (gNm 4)))) f [.o k, .o os.length, .o (os.length + 2), .o (os.length + 5), .d (optD price), t, u] (osX Z k os R wk wr ws) = some (.nx [.o k, .o os.length, .o (os.length + 2), .o (os.length + 5), ρ4, ρ5, ρ6] (osX Z k os R' wk' wr' ws'))
  | 0, R, wk, wr, ws, price, R', t, u, _, _, _, h => by cases h
  | f + 1, R, wk, wr, ws, price, R', t, u, hw1, hw2, hw3, h => by
    have hkl : k < os.length := (List.getElem?_eq_some_iff.mp hk).1
    unfold lb at h
    have t1 : ∀ w, xBool (xOp (isD true) (xVar 4) (xC .none)) [.o k, .o os.length, .o (os.length + 2), .o (os.length + 5), .d (optD price), t, u] w = some (price.isSome, w) := fun w => by
      simp -implicitDefEqProofs [optD_none]
    cases price with
    | none =>
      cases h
      refine ⟨.d (optD none), t, u, wk, wr, ws, ?_⟩
      unfold whRun
      simp -implicitDefEqProofs only [t1, Option.bind_some, Option.isSome_none, Bool.false_eq_true, if_false]
    | some p =>
      simp only at h
      cases e1 : gp1 S 1000000 wk p 0 with
      | none => rw [e1] at h; cases h
      | some x =>
        obtain ⟨m1, wk'⟩ := x
        rw [e1, Option.bind_some] at h
        simp only at h
        cases e2 : gp2 R S 1000000 wr ws p 0 with
        | none => rw [e2] at h; cases h
        | some y =>
          obtain ⟨m2, wr', ws'⟩ := y
          rw [e2, Option.bind_some] at h
          simp only at h
          split at h
          · rename_i hz
            have t0 : Tidy (osX Z k os R wk wr ws) := x_tidy ht hkl
            have p1 : m_go_past Z [.o (os.length + 2), .d (.int p)] (osX Z k os R wk wr ws) = some (.int m1, osX Z k os R wk' wr ws) := by
              have := past1_ok (q := os.length + 2) (x_k1 hk) t0 x_get hw1 e1
              rw [x_set] at this
              exact this
            have t2 : Tidy (osX Z k os R wk' wr ws) := x_tidy ht hkl
            have p2 : m_go_past Z [.o (os.length + 5), .d (.int p)] (osX Z k os R wk' wr ws) = some (.int m2, osX Z k os R wk' wr' ws') := by
              have := past2_ok (q := os.length + 5) x_k3 (x_k4 hk) (by omega) t2 x_get hw2 hw3 e2
              rw [x_set] at this
              have e3 : (os ++ [some (.l (encR R)), some (wkO Z k wk'), some (.r [.o (os.length + 1)]), some (wkO Z os.length wr), some (wkO Z k ws), some (.r [.o (os.length + 3), .o (os.length + 4)])].set 3 (some (wkO Z os.length wr'))) = osX Z k os R wk' wr' ws := rfl
              rw [e3, x_set] at this
              exact this
            have o1 : ∀ (a b c : Wk), ownAt [.o k, .o os.length, .o (os.length + 2), .o (os.length + 5), .d (optD (some p)), t, u] (osX Z k os R a b c) 1 = some (os.length, encR R) := fun a b c => ownAt_o rfl (x_get (i := 0))
            have s1 : sApp 1 (xCall tupD (xaD (xVar 4) (xaD (xOp addD (xFn (m_go_past Z) (xaV (xrVar 2) (xaD (xVar 4) xaNil))) (xFn (m_go_past Z) (xaV (xrVar 3) (xaD (xVar 4) xaNil)))) xaNil))) [.o k, .o os.length, .o (os.length + 2), .o (os.length + 5), .d (optD (some p)), t, u] (osX Z k os R wk wr ws) = some (.nx [.o k, .o os.length, .o (os.length + 2), .o (os.length + 5), .d (optD (some p)), t, u] (osX Z k os (R ++ [(p, m1 + m2)]) wk' wr' ws')) := by
              unfold DL.sApp
              rw [o1, Option.bind_some]
              have z1 : (encR R).length < sizeLine := by
                rw [encR_len]
                exact hz
              have g1 : xFn (m_go_past Z) (xaV (xrVar 2) (xaD (xVar 4) xaNil)) [.o k, .o os.length, .o (os.length + 2), .o (os.length + 5), .d (optD (some p)), t, u] (osX Z k os R wk wr ws) = some (.int m1, osX Z k os R wk' wr ws) := p1
              have g2 : xFn (m_go_past Z) (xaV (xrVar 3) (xaD (xVar 4) xaNil)) [.o k, .o os.length, .o (os.length + 2), .o (os.length + 5), .d (optD (some p)), t, u] (osX Z k os R wk' wr ws) = some (.int m2, osX Z k os R wk' wr' ws') := p2
              simp -implicitDefEqProofs only [a_call, a_d, a_var, a_op, a_nil, List.getElem?_cons_succ, List.getElem?_cons_zero, slD_d, Option.map_some, Option.bind_some, g1, g2, addD_int, datas_d, datas_nil, tupD_2, o1, z1, if_true]
              have e4 := x_set (Z := Z) (k := k) (os := os) (R := R) (wk := wk') (wr := wr') (ws := ws') (i := 0) (o := some (.l (encR R ++ [.tuple [optD (some p), .int (m1 + m2)]])))
              rw [Nat.add_zero] at e4
              rw [e4]
              unfold osX encR
              simp [tupP, optD]
            have t3 : Tidy (osX Z k os (R ++ [(p, m1 + m2)]) wk' wr' ws') := x_tidy ht hkl
            have l1 := gp1_le hw1 e1
            obtain ⟨l2, l3⟩ := gp2_le hw2 hw3 e2
            have l2' : wr'.a ≤ (R ++ [(p, m1 + m2)]).length := by simp; omega
            have n1 := next1_ok (q := os.length + 2) (x_k1 (R := R ++ [(p, m1 + m2)]) (wk := wk') (wr := wr') (ws := ws') (Z := Z) hk) t3 x_get l1
            have n2 := next2_ok (q := os.length + 5) (x_k3 (Z := Z) (k := k) (R := R ++ [(p, m1 + m2)]) (wk := wk') (wr := wr') (ws := ws')) (x_k4 hk) t3 x_get l2' l3
            obtain ⟨l, q1, q2⟩ := mn_ok (a := next1 S wk') (b := next2 (R ++ [(p, m1 + m2)]) S wr' ws') (r0 := .o k) (r1 := .o os.length) (r2 := .o (os.length + 2)) (r3 := .o (os.length + 5)) (r4 := .d (optD (some p))) (r5 := t) (r6 := u) (os := osX Z k os (R ++ [(p, m1 + m2)]) wk' wr' ws') (xi := iLst (xCall lstD (xaD (xFn (m_next_price Z) (xaV (xrVar 2) xaNil)) (xaD (xFn (m_next_price Z) (xaV (xrVar 3) xaNil)) xaNil)))) (by
              simp -implicitDefEqProofs [n1, n2])
            obtain ⟨a4, a5, a6, b1, b2, b3, ih⟩ := lb_run hk ht f _ wk' wr' ws' _ R' (.d (.list l)) u l1 l2' l3 h
            refine ⟨a4, a5, a6, b1, b2, b3, ?_⟩
            unfold whRun
            rw [t1]
            have s2 : sAsg (xF (lcD (iLst (xCall lstD (xaD (xFn (m_next_price Z) (xaV (xrVar 2) xaNil)) (xaD (xFn (m_next_price Z) (xaV (xrVar 3) xaNil)) xaNil)))) (gNm 6) (xBool (xOp (isD true) (xVar 6) (xC .none))) (xVar 6) [6])) (gNm 5) [.o k, .o os.length, .o (os.length + 2), .o (os.length + 5), .d (optD (some p)), t, u] (osX Z k os (R ++ [(p, m1 + m2)]) wk' wr' ws') = some (.nx [.o k, .o os.length, .o (os.length + 2), .o (os.length + 5), .d (optD (some p)), .d (.list l), u] (osX Z k os (R ++ [(p, m1 + m2)]) wk' wr' ws')) := by
              simp -implicitDefEqProofs only [a_asg, a_F, q1, Option.map_some, Option.bind_some, a_nm, List.set_cons_succ, List.set_cons_zero]
            have s3 : sAsg (xCall minDefD (xaD (xVar 5) xaNil)) (gNm 4) [.o k, .o os.length, .o (os.length + 2), .o (os.length + 5), .d (optD (some p)), .d (.list l), u] (osX Z k os (R ++ [(p, m1 + m2)]) wk' wr' ws') = some (.nx [.o k, .o os.length, .o (os.length + 2), .o (os.length + 5), .d (optD (mn (next1 S wk') (next2 (R ++ [(p, m1 + m2)]) S wr' ws'))), .d (.list l), u] (osX Z k os (R ++ [(p, m1 + m2)]) wk' wr' ws')) := by
              simp -implicitDefEqProofs [q2]
            simp -implicitDefEqProofs only [Option.bind_some, Option.isSome_some, if_true, a_seq, s1, s2, s3, ih]
          · cases h
theorem behind_ok {Q : Rw} (hk : os[k]? = some (some (.l (encR S)))) (ht : Tidy os) (h : LB S = some Q) : m_list_behind Z [.o k] os = some (encR Q, os) := by
  have hkl : k < os.length := (List.getElem?_eq_some_iff.mp hk).1
  obtain ⟨a4, a5, a6, b1, b2, b3, ih⟩ := lb_run (Z := Z) hk ht 1000000 [] ⟨0, 0⟩ ⟨0, 0⟩ ⟨0, 0⟩ (next1 S ⟨0, 0⟩) Q .u .u (Nat.zero_le _) (Nat.zero_le _) (Nat.zero_le _) h
  have e0 : osX Z k os [] ⟨0, 0⟩ ⟨0, 0⟩ ⟨0, 0⟩ = os ++ [some (.l []), some (wkO Z k ⟨0, 0⟩), some (.r [.o (os.length + 1)]), some (wkO Z os.length ⟨0, 0⟩), some (wkO Z k ⟨0, 0⟩), some (.r [.o (os.length + 3), .o (os.length + 4)])] := rfl
  have init : ∀ (m : Nat) (w : Os) (r : Nat), w.length = m → m_Walk__init Z [.o m, .o r] (w ++ [some (.i Z.Walk [])]) = some (.none, w ++ [some (wkO Z r ⟨0, 0⟩)]) := fun m w r hm => by
    subst hm
    unfold m_Walk__init
    rw [mN_2]
    have i1 : ∀ fs, insAt Z.Walk (w ++ [some (.i Z.Walk fs)]) (.o w.length) = some (w.length, fs) := fun fs => by
      unfold insAt
      simp
    have st : ∀ (x y : Option Ob), (w ++ [x]).set w.length y = w ++ [y] := fun x y => by
      rw [List.set_append_right _ _ (Nat.le_refl _)]
      simp
    have h1 : (putS "rows" (.o r) []).length < 1000 := by
      show 1 < 1000
      decide
    have h2 : (putS "at" (.d (.int 0)) (putS "rows" (.o r) [])).length < 1000 := by
      show 2 < 1000
      decide
    simp -implicitDefEqProofs [b_Walk__init, i1, st, h1, h2, p_three, wkO, -insAt_o]
  have t0 : Tidy (osX Z k os Q b1 b2 b3) := x_tidy ht hkl
  have c0 : os.length + 5 + 1 = os.length + 6 := rfl
  have s1 : ∀ (a b c d e : Sl), sOwn 1 (fLst xaNil) [.o k, a, b, c, d, e, .u] os = some (.nx [.o k, .o os.length, b, c, d, e, .u] (os ++ [some (.l [])])) := fun a b c d e => by
    simp -implicitDefEqProofs
  have hz : ∀ n : Nat, n ≤ 2 → n ≤ sizeLine := fun n h => by
    rw [DL.sizeLine_eq]
    omega
  have nw : ∀ (xr : XA) (ρ : List Sl) (w : Os) (r : Nat), xr ρ w = some ([.o r], w) → xNew Z.Walk (m_Walk__init Z) xr ρ w = some (.o w.length, w ++ [some (wkO Z r ⟨0, 0⟩)]) := fun xr ρ w r h => by
    rw [a_new, h, Option.bind_some]
    simp -implicitDefEqProofs only [init _ w r rfl, Option.bind_some]
  have s2 : sAsgV 2 (xsLst (xaS (xNew Z.Walk (m_Walk__init Z) (xaV (xrVar 0) xaNil)) xaNil)) [.o k, .o os.length, .u, .u, .u, .u, .u] (os ++ [some (.l [])]) = some (.nx [.o k, .o os.length, .o (os.length + 2), .u, .u, .u, .u] (os ++ [some (.l []), some (wkO Z k ⟨0, 0⟩), some (.r [.o (os.length + 1)])])) := by
    have e := nw (xaV (xrVar 0) xaNil) [.o k, .o os.length, .u, .u, .u, .u, .u] (os ++ [some (.l [])]) k rfl
    simp -implicitDefEqProofs [e, hz, List.append_assoc, -a_new]
  have s3 : sAsgV 3 (xsLst (xaS (xNew Z.Walk (m_Walk__init Z) (xaO 1 xaNil)) (xaS (xNew Z.Walk (m_Walk__init Z) (xaV (xrVar 0) xaNil)) xaNil))) [.o k, .o os.length, .o (os.length + 2), .u, .u, .u, .u] (os ++ [some (.l []), some (wkO Z k ⟨0, 0⟩), some (.r [.o (os.length + 1)])]) = some (.nx [.o k, .o os.length, .o (os.length + 2), .o (os.length + 5), .u, .u, .u] (osX Z k os [] ⟨0, 0⟩ ⟨0, 0⟩ ⟨0, 0⟩)) := by
    have e1 := nw (xaO 1 xaNil) [.o k, .o os.length, .o (os.length + 2), .u, .u, .u, .u] (os ++ [some (.l []), some (wkO Z k ⟨0, 0⟩), some (.r [.o (os.length + 1)])]) os.length rfl
    have e2 := fun w => nw (xaV (xrVar 0) xaNil) [.o k, .o os.length, .o (os.length + 2), .u, .u, .u, .u] w k rfl
    rw [e0]
    simp -implicitDefEqProofs [e1, e2, hz, List.append_assoc, -a_new]
  have t1 : Tidy (osX Z k os [] ⟨0, 0⟩ ⟨0, 0⟩ ⟨0, 0⟩) := x_tidy ht hkl
  have n1 := next1_ok (q := os.length + 2) (x_k1 (Z := Z) (R := []) (wk := ⟨0, 0⟩) (wr := ⟨0, 0⟩) (ws := ⟨0, 0⟩) hk) t1 x_get (Nat.zero_le _)
  have s4 : sAsg (xFn (m_next_price Z) (xaV (xrVar 2) xaNil)) (gNm 4) [.o k, .o os.length, .o (os.length + 2), .o (os.length + 5), .u, .u, .u] (osX Z k os [] ⟨0, 0⟩ ⟨0, 0⟩ ⟨0, 0⟩) = some (.nx [.o k, .o os.length, .o (os.length + 2), .o (os.length + 5), .d (optD (next1 S ⟨0, 0⟩)), .u, .u] (osX Z k os [] ⟨0, 0⟩ ⟨0, 0⟩ ⟨0, 0⟩)) := by
    simp -implicitDefEqProofs [n1]
  have o1 : ownAt [.o k, .o os.length, .o (os.length + 2), .o (os.length + 5), a4, a5, a6] (osX Z k os Q b1 b2 b3) 1 = some (os.length, encR Q) := ownAt_o rfl (x_get (i := 0))
  have s6 : sRetO os.length 1 [.o k, .o os.length, .o (os.length + 2), .o (os.length + 5), a4, a5, a6] (osX Z k os Q b1 b2 b3) = some (.rt (.list (encR Q)) (os ++ [none, some (wkO Z k b1), some (.r [.o (os.length + 1)]), some (wkO Z os.length b2), some (wkO Z k b3), some (.r [.o (os.length + 3), .o (os.length + 4)])])) := by
    unfold DL.sRetO
    rw [o1, Option.bind_some]
    have := x_set (Z := Z) (k := k) (os := os) (R := Q) (wk := b1) (wr := b2) (ws := b3) (i := 0) (o := none)
    rw [Nat.add_zero] at this
    simp only [Nat.le_refl, if_true, this, List.set_cons_zero]
  unfold m_list_behind
  rw [mF_1]
  simp -implicitDefEqProofs only [b_list_behind, List.reduceReplicate, Nat.reduceSub, a_seq, s1, s2, s3, s4, DL.sWhile, ih, s6, Option.bind_some, outF_rt, cutW_app ht, Option.map_some]
end
end Lw

set_option Elab.async false
set_option linter.all false
set_option maxRecDepth 100000
set_option maxHeartbeats 4000000
namespace Lw
open PySem PySem.Spec PyProof.Rows L2 Evl DL
def A1 (c : Int) : Rw := if 0 < c then [(1, 1), (2, c)] else [(1, 1)]
theorem first_ok {c : Int} {os : Os} (ht : Tidy os) : m_first_list [.d (.int c)] os = some (encR (A1 c), os) := by
  unfold m_first_list
  rw [mF_1]
  have z2 : 2 ≤ sizeLine := by decide
  have z1 : 1 ≤ sizeLine := by decide
  unfold A1
  by_cases h : 0 < c
  · simp -implicitDefEqProofs [b_first_list, h, z2, cutW_self ht, encR, tupP]
  · have h2 : ¬ c > 0 := h
    simp -implicitDefEqProofs [b_first_list, h, h2, z1, cutW_self ht, encR, tupP]
def ids (n t : Nat) : List Sl := .o n :: (List.range t).map fun i => .o (n + 2 + i)
theorem ids_len (n t : Nat) : (ids n t).length = t + 1 := by simp [ids]
theorem ids_succ (n t : Nat) : ids n (t + 1) = ids n t ++ [.o (n + 2 + t)] := by
  simp [ids, List.range_succ]
theorem ids_lt {n t m : Nat} (h : n + 2 + t ≤ m) : (ids n t).all (slLt m) = true := by
  rw [List.all_eq_true]
  intro x hx
  simp only [ids, List.mem_cons, List.mem_map, List.mem_range] at hx
  rcases hx with rfl | ⟨i, hi, rfl⟩
  · simp [slLt]
    omega
  · simp [slLt]
    omega
def lastId (n t : Nat) : Nat := if t = 0 then n else n + 1 + t
theorem last_at {n t : Nat} : L2.atI (ids n t) (-1) = some (.o (lastId n t)) := by
  unfold L2.atI ixN
  rw [if_neg (by omega), ids_len, if_pos (by omega)]
  have e : ((-1 : Int) + ((t + 1 : Nat) : Int)).toNat = t := by omega
  rw [Option.bind_some, e]
  unfold lastId
  cases t with
  | zero => rfl
  | succ t =>
    rw [if_neg (by omega), ids_succ, List.getElem?_append_right (by rw [ids_len]; omega), ids_len]
    have : t + 1 - (t + 1) = 0 := by omega
    rw [this]
    show some (Sl.o (n + 2 + t)) = _
    congr 2
    omega
def encO (r : Rw) : Option Ob := some (.l (encR r))
def osY (os : Os) (L : Rw) (T : List Rw) : Os := os ++ (encO L :: some (.r (ids os.length T.length)) :: T.map encO)
/-- the lists as they follow each other -/
def chain (L : Rw) : List Rw → Prop
  | [] => True
  | r :: t => LB L = some r ∧ chain r t
def lastR (L : Rw) : List Rw → Rw
  | [] => L
  | r :: t => lastR r t
theorem chain_snoc {Q : Rw} : ∀ {T : List Rw} {L : Rw}, chain L T → LB (lastR L T) = some Q → chain L (T ++ [Q])
  | [], _, _, h => ⟨h, True.intro⟩
  | _ :: _, _, h, h2 => ⟨h.1, chain_snoc h.2 h2⟩
theorem lastR_snoc {Q : Rw} : ∀ {T : List Rw} {L : Rw}, lastR L (T ++ [Q]) = Q
  | [], _ => rfl
  | _ :: t, _ => lastR_snoc (T := t)
theorem lastR_get : ∀ {T : List Rw} {L : Rw}, (L :: T)[T.length]? = some (lastR L T)
  | [], _ => rfl
  | r :: t, L => by
    show (r :: t)[t.length]? = _
    exact lastR_get
section
variable {Z : Cs} {os : Os} {L : Rw} {T : List Rw}
theorem y_len : (osY os L T).length = os.length + 2 + T.length := by
  simp [osY]
  omega
theorem y_tidy (ht : Tidy os) : Tidy (osY os L T) := by
  refine ht.app ?_
  rw [List.all_eq_true]
  intro x hx
  simp only [List.mem_cons, List.mem_map] at hx
  rcases hx with rfl | rfl | ⟨r, _, rfl⟩
  · rfl
  · exact ids_lt (by simp; omega)
  · rfl
theorem y_list : (osY os L T)[os.length + 1]? = some (some (.r (ids os.length T.length))) := by
  unfold osY
  rw [List.getElem?_append_right (by omega)]
  have : os.length + 1 - os.length = 1 := by omega
  rw [this]
  rfl
theorem y_at {i : Nat} (hi : i < T.length) : (osY os L T)[os.length + 2 + i]? = (T[i]?).map encO := by
  unfold osY
  rw [List.getElem?_append_right (by omega)]
  have : os.length + 2 + i - os.length = i + 2 := by omega
  rw [this]
  simp
theorem y_last : (osY os L T)[lastId os.length T.length]? = some (some (.l (encR (lastR L T)))) := by
  unfold lastId
  split
  · rename_i h
    have : T = [] := List.length_eq_zero_iff.mp h
    subst this
    unfold osY
    rw [List.getElem?_append_right (Nat.le_refl _), Nat.sub_self]
    rfl
  · rename_i h
    have e : os.length + 1 + T.length = os.length + 2 + (T.length - 1) := by omega
    rw [e, y_at (by omega)]
    have := lastR_get (T := T) (L := L)
    obtain ⟨m, hm⟩ : ∃ m, T.length = m + 1 := ⟨T.length - 1, by omega⟩
    rw [hm] at this
    simp at this
    rw [hm]
    simp [this, encO]
theorem y_snoc {Q : Rw} : (osY os L T ++ [encO Q]).set (os.length + 1) (some (.r (ids os.length T.length ++ [.o (os.length + 2 + T.length)]))) = osY os L (T ++ [Q]) := by
  unfold osY
  rw [List.append_assoc, List.set_append_right _ _ (by omega)]
  have : os.length + 1 - os.length = 1 := by omega
  rw [this, List.length_append, List.length_singleton, ids_succ]
  simp
theorem lists_run {c n : Int} (ht : Tidy os) : ∀ (f : Nat) (T U : List Rw), (T.length : Int) + 1 + U.length = n → U.length < f → T.length + U.length < 1000 → chain (lastR L T) U →
    whRun (xBool (xOp ltD (xLenV (xrVar 2)) (xVar 1))) (sAppV (xrVar 2) (xsOwn (fFn (m_list_behind Z) (xaV (xrIx (xrVar 2) (xUn negD (xC (.int 1)))) xaNil)))) f [.d (.int c), .d (.int n), .o (os.length + 1)] (osY os L T) = some (.nx [.d (.int c), .d (.int n), .o (os.length + 1)] (osY os L (T ++ U)))
  | 0, T, U, _, h, _, _ => by omega
  | f + 1, T, U, hn, hf, hz, hc => by
    have hl : lenV (osY os L T) (.o (os.length + 1)) = some ((T.length : Int) + 1) := by
      unfold lenV
      simp only [y_list, ids_len]
      simp
    have t1 : xBool (xOp ltD (xLenV (xrVar 2)) (xVar 1)) [.d (.int c), .d (.int n), .o (os.length + 1)] (osY os L T) = some (decide ((T.length : Int) + 1 < n), osY os L T) := by
      simp -implicitDefEqProofs [hl]
    cases U with
    | nil =>
      unfold whRun
      have d1 : decide ((T.length : Int) + 1 < n) = false := by
        simp at hn
        simp
        omega
      simp -implicitDefEqProofs only [t1, d1, Option.bind_some, Bool.false_eq_true, if_false, List.append_nil]
    | cons Q U =>
      rw [List.length_cons] at hn hf hz
      obtain ⟨h1, h2⟩ := hc
      have d1 : decide ((T.length : Int) + 1 < n) = true := by
        simp
        omega
      have hix : ixV (osY os L T) (.o (os.length + 1)) (.int (-1)) = some (.o (lastId os.length T.length)) := by
        unfold ixV
        simp only [y_list, last_at]
      have b1 := behind_ok (Z := Z) (k := lastId os.length T.length) (y_last (os := os) (L := L) (T := T)) (y_tidy ht) h1
      have lo : lenO (osY os L T) (os.length + 1) = some (T.length + 1) := by
        unfold lenO
        simp only [y_list, ids_len]
      have yl : (osY os L T ++ [encO Q])[os.length + 1]? = some (some (.r (ids os.length T.length))) := by
        rw [List.getElem?_append_left (by rw [y_len]; omega)]
        exact y_list
      have zz : (ids os.length T.length).length < sizeLine := by
        rw [ids_len, DL.sizeLine_eq]
        omega
      have ap : appO (osY os L T ++ [encO Q]) (os.length + 1) (.o (os.length + 2 + T.length)) = some (osY os L (T ++ [Q])) := by
        unfold appO
        simp only [yl, zz, if_true, y_snoc]
      have s1 : sAppV (xrVar 2) (xsOwn (fFn (m_list_behind Z) (xaV (xrIx (xrVar 2) (xUn negD (xC (.int 1)))) xaNil))) [.d (.int c), .d (.int n), .o (os.length + 1)] (osY os L T) = some (.nx [.d (.int c), .d (.int n), .o (os.length + 1)] (osY os L (T ++ [Q]))) := by
        have e9 : (-(1 : Int)) = -1 := rfl
        unfold sAppV
        simp -implicitDefEqProofs only [a_rvar, List.getElem?_cons_succ, List.getElem?_cons_zero, slV_o, Option.map_some, Option.bind_some, lo, a_sown, a_ffn, a_v, a_rIx, a_un, a_c, negD_int, hix, a_nil, b1]
        have e8 : (osY os L T).length = os.length + 2 + T.length := y_len
        rw [e8]
        show (appO (osY os L T ++ [encO Q]) (os.length + 1) (.o (os.length + 2 + T.length))).map _ = _
        rw [ap]
        rfl
      have ih := lists_run (c := c) (n := n) ht f (T ++ [Q]) U (by simp; omega) (by omega) (by simp; omega) (by rw [lastR_snoc]; exact h2)
      unfold whRun
      simp -implicitDefEqProofs only [t1, d1, Option.bind_some, if_true, s1, ih, List.append_assoc, List.cons_append, List.nil_append]
theorem lists_ok {c : Int} (ht : Tidy os) (hc : chain (A1 c) T) (hl : T.length < 1000) :
    m_lists_to Z [.d (.int c), .d (.int ((T.length : Int) + 1))] os = some (.o (os.length + 2 + T.length), osY os (A1 c) T ++ [some (.r (ids os.length T.length))]) := by
  have ih := lists_run (Z := Z) (L := A1 c) (c := c) (n := (T.length : Int) + 1) ht 1000000 [] T (by simp; omega) (by omega) (by simp; omega) hc
  rw [List.nil_append] at ih
  have z1 : 1 ≤ sizeLine := by decide
  have s1 : sAsgV 2 (xsLst (xaS (xsOwn (fFn m_first_list (xaD (xVar 0) xaNil))) xaNil)) [.d (.int c), .d (.int ((T.length : Int) + 1)), .u] os = some (.nx [.d (.int c), .d (.int ((T.length : Int) + 1)), .o (os.length + 1)] (osY os (A1 c) [])) := by
    simp -implicitDefEqProofs [first_ok ht, z1, osY, ids, encO]
  have cu : DL.cutD (ids os.length T.length) none (some ((T.length : Int) + 1)) = ids os.length T.length := by
    have e : ((T.length : Int) + 1) = ((ids os.length T.length).length : Int) := by rw [ids_len]; rfl
    rw [e, cut_take, List.take_length]
  unfold m_lists_to
  rw [mS_2]
  have sl : sRetS (xsSl (xrVar 2) oNone (oSome (xVar 1))) [.d (.int c), .d (.int ((T.length : Int) + 1)), .o (os.length + 1)] (osY os (A1 c) T) = some (.rv (.o (os.length + 2 + T.length)) (osY os (A1 c) T ++ [some (.r (ids os.length T.length))])) := by
    unfold sRetS xsSl
    simp -implicitDefEqProofs only [a_rvar, List.getElem?_cons_succ, List.getElem?_cons_zero, slV_o, Option.map_some, Option.bind_some, a_oN, a_oS, a_var, slD_d, y_list, cu, y_len]
  simp -implicitDefEqProofs only [outS_rv, b_lists_to, List.reduceReplicate, Nat.reduceSub, a_seq, s1, Option.bind_some, DL.sWhile, ih, sl]
theorem lists_0 {c : Int} (ht : Tidy os) : m_lists_to Z [.d (.int c), .d (.int 0)] os = some (.o (os.length + 2), osY os (A1 c) [] ++ [some (.r [])]) := by
  have z1 : 1 ≤ sizeLine := by decide
  have s1 : sAsgV 2 (xsLst (xaS (xsOwn (fFn m_first_list (xaD (xVar 0) xaNil))) xaNil)) [.d (.int c), .d (.int 0), .u] os = some (.nx [.d (.int c), .d (.int 0), .o (os.length + 1)] (osY os (A1 c) [])) := by
    simp -implicitDefEqProofs [first_ok ht, z1, osY, ids, encO]
  have hl : lenV (osY os (A1 c) []) (.o (os.length + 1)) = some 1 := by
    unfold lenV
    simp only [y_list, ids_len]
    simp
  have w1 : whRun (xBool (xOp ltD (xLenV (xrVar 2)) (xVar 1))) (sAppV (xrVar 2) (xsOwn (fFn (m_list_behind Z) (xaV (xrIx (xrVar 2) (xUn negD (xC (.int 1)))) xaNil)))) 1000000 [.d (.int c), .d (.int 0), .o (os.length + 1)] (osY os (A1 c) []) = some (.nx [.d (.int c), .d (.int 0), .o (os.length + 1)] (osY os (A1 c) [])) := by
    unfold whRun
    have t1 : xBool (xOp ltD (xLenV (xrVar 2)) (xVar 1)) [.d (.int c), .d (.int 0), .o (os.length + 1)] (osY os (A1 c) []) = some (false, osY os (A1 c) []) := by
      simp -implicitDefEqProofs [hl]
    simp -implicitDefEqProofs only [t1, Option.bind_some, Bool.false_eq_true, if_false]
  have cu : DL.cutD (ids os.length ([] : List Rw).length) none (some 0) = [] := by
    exact cut_take _ 0
  unfold m_lists_to
  rw [mS_2]
  have sl : sRetS (xsSl (xrVar 2) oNone (oSome (xVar 1))) [.d (.int c), .d (.int 0), .o (os.length + 1)] (osY os (A1 c) []) = some (.rv (.o (os.length + 2)) (osY os (A1 c) [] ++ [some (.r [])])) := by
    unfold sRetS xsSl
    simp -implicitDefEqProofs only [a_rvar, List.getElem?_cons_succ, List.getElem?_cons_zero, slV_o, Option.map_some, Option.bind_some, a_oN, a_oS, a_var, slD_d, y_list, cu, y_len]
    simp
  simp -implicitDefEqProofs only [outS_rv, b_lists_to, List.reduceReplicate, Nat.reduceSub, a_seq, s1, Option.bind_some, DL.sWhile, w1, sl]
end
end Lw

set_option Elab.async false
set_option linter.all false
set_option maxRecDepth 100000
set_option maxHeartbeats 4000000
namespace Lw
open PySem PySem.Spec PyProof.Rows L2 Evl DL
/-! all prices of some lists -/
def getI (ps : Rw) (k : Int) : Int := ((ps.find? fun p => decide (p.1 = k)).map (·.2)).getD 0
def putI (ps : Rw) (k v : Int) : Rw := if (ps.any fun p => decide (p.1 = k)) = true then ps.map fun p => if p.1 = k then (p.1, v) else p else ps ++ [(k, v)]
def addP (ps : Rw) (x : Int × Int) : Rw := putI ps x.1 (getI ps x.1 + x.2)
def TT (ls : List Rw) : Rw := sortP (ls.flatten.foldl addP [])
def encK (ps : Rw) : List (Key × PyData) := ps.map fun p => (.inl p.1, .int p.2)
theorem key_eq {i j : Int} : (Sum.inl i : Key) = .inl j ↔ i = j := ⟨fun h => by cases h; rfl, fun h => by rw [h]⟩
theorem val_enc (ps : Rw) (k : Int) : valP (encK ps) (.inl k) = (((ps.find? fun p => decide (p.1 = k)).map (·.2))).map .int := by
  induction ps with
  | nil => rfl
  | cons p r ih =>
    unfold valP encK at ih ⊢
    rw [List.map_cons, List.find?_cons, List.find?_cons]
    by_cases h : p.1 = k
    · have h2 : (Sum.inl p.1 : Key) = .inl k := by rw [h]
      simp [h, h2]
    · have h2 : ¬ (Sum.inl p.1 : Key) = .inl k := fun e => h (key_eq.mp e)
      simp only [h, h2, decide_false]
      exact ih
theorem put_enc (ps : Rw) (k v : Int) : putP (encK ps) (.inl k) (.int v) = encK (putI ps k v) := by
  have ha : ((encK ps).any fun kv => decide (kv.1 = (Sum.inl k : Key))) = (ps.any fun p => decide (p.1 = k)) := by
    unfold encK
    rw [List.any_map]
    congr 1
    funext p
    simp [key_eq]
  unfold putP putI
  rw [ha]
  by_cases h : (ps.any fun p => decide (p.1 = k)) = true
  · rw [if_pos h, if_pos h]
    unfold encK
    rw [List.map_map, List.map_map]
    congr 1
    funext p
    by_cases e : p.1 = k
    · have e2 : (Sum.inl p.1 : Key) = .inl k := by rw [e]
      simp [e, e2]
    · have e2 : ¬ (Sum.inl p.1 : Key) = .inl k := fun z => e (key_eq.mp z)
      simp [e, e2]
  · rw [if_neg h, if_neg h]
    simp [encK]
theorem pairs_enc (ps : Rw) : pairsOf (encK ps) = some ps := by
  induction ps with
  | nil => rfl
  | cons p r ih =>
    unfold encK at ih ⊢
    simp only [List.map_cons, DL.pairsOf, ih]
    rfl
theorem putI_len (ps : Rw) (k v : Int) : (putI ps k v).length ≤ ps.length + 1 := by
  unfold putI
  split
  · simp
  · simp
theorem fold_len : ∀ (l ps : Rw), (l.foldl addP ps).length ≤ ps.length + l.length
  | [], ps => by simp
  | p :: r, ps => by
    have h1 := fold_len r (addP ps p)
    have h2 := putI_len ps p.1 (getI ps p.1 + p.2)
    rw [List.foldl_cons, List.length_cons]
    unfold addP at h1 ⊢
    omega
section
variable {Z : Cs} {os : Os}
theorem inner_run (x rr : Sl) : ∀ (l ps : Rw) (y z : Sl), ps.length + l.length < 16777216 → ∃ y' z', forRun (gTp 2 (gsCons (gNm 3) (gsCons (gNm 4) gsNil))) (sPutK (xrVar 1) (xVar 3) (xOp addD (xGet2 (xrVar 1) (xVar 3) (xC (.int 0))) (xVar 4))) (encR l) [x, .o os.length, rr, y, z] (os ++ [some (.k (encK ps))]) = some (.nx [x, .o os.length, rr, y', z'] (os ++ [some (.k (encK (l.foldl addP ps)))]))
  | [], ps, y, z, _ => ⟨y, z, rfl⟩
  | p :: r, ps, y, z, hz => by
    rw [List.length_cons] at hz
    have hz2 : (encK ps).length < sizeLine := by
      rw [DL.sizeLine_eq]
      simp only [encK, List.length_map]
      omega
    obtain ⟨y', z', ih⟩ := inner_run x rr r (addP ps p) (.d (.int p.1)) (.d (.int p.2)) (by
      have := putI_len ps p.1 (getI ps p.1 + p.2)
      unfold addP
      omega)
    refine ⟨y', z', ?_⟩
    have ob : obAt (os ++ [some (.k (encK ps))]) (.o os.length) = some (os.length, .k (encK ps)) := by
      unfold obAt
      simp
    have g1 : getO (.k (encK ps)) (.int p.1) = some (valP (encK ps) (.inl p.1)) := rfl
    have gd : (valP (encK ps) (.inl p.1)).getD (.int 0) = .int (getI ps p.1) := by
      rw [val_enc]
      unfold getI
      cases (ps.find? fun q => decide (q.1 = p.1)).map (·.2) <;> rfl
    have x1 : xGet2 (xrVar 1) (xVar 3) (xC (.int 0)) [x, .o os.length, rr, .d (.int p.1), .d (.int p.2)] (os ++ [some (.k (encK ps))]) = some (.int (getI ps p.1), os ++ [some (.k (encK ps))]) := by
      unfold xGet2 xGetD
      simp -implicitDefEqProofs only [a_rvar, a_var, a_c, List.getElem?_cons_succ, List.getElem?_cons_zero, slV_o, slD_d, Option.map_some, Option.bind_some, ob, isDict, if_true, g1, gd]
    have p1 : putO (.k (encK ps)) (.int p.1) (.int (getI ps p.1 + p.2)) = some (.k (encK (addP ps p))) := by
      have e : putP (encK ps) (.inl p.1) (.int (getI ps p.1 + p.2)) = encK (addP ps p) := put_enc _ _ _
      unfold putO
      simp [DL.keyOf, e, hz2]
    have st : (os ++ [some (Ob.k (encK ps))]).set os.length (some (.k (encK (addP ps p)))) = os ++ [some (.k (encK (addP ps p)))] := by
      rw [List.set_append_right _ _ (Nat.le_refl _)]
      simp
    have b1 : sPutK (xrVar 1) (xVar 3) (xOp addD (xGet2 (xrVar 1) (xVar 3) (xC (.int 0))) (xVar 4)) [x, .o os.length, rr, .d (.int p.1), .d (.int p.2)] (os ++ [some (.k (encK ps))]) = some (.nx [x, .o os.length, rr, .d (.int p.1), .d (.int p.2)] (os ++ [some (.k (encK (addP ps p)))])) := by
      unfold sPutK
      simp -implicitDefEqProofs only [a_op, x1, a_rvar, a_var, List.getElem?_cons_succ, List.getElem?_cons_zero, slV_o, slD_d, Option.map_some, Option.bind_some, ob, addD_int, p1, st]
    have t1 : gTp 2 (gsCons (gNm 3) (gsCons (gNm 4) gsNil)) (tupP p) [x, .o os.length, rr, y, z] = some [x, .o os.length, rr, .d (.int p.1), .d (.int p.2)] := rfl
    have e1 : encR (p :: r) = tupP p :: encR r := rfl
    rw [e1, forRun, t1, Option.bind_some, b1, Option.bind_some]
    exact ih
theorem outer_run (x : Sl) : ∀ (ls : List Rw) (ps : Rw) (w y z : Sl), ps.length + ls.flatten.length < 16777216 → ∃ w' y' z', forRun (gNm 2) (sFor (iLst (xVar 2)) (gTp 2 (gsCons (gNm 3) (gsCons (gNm 4) gsNil))) (sPutK (xrVar 1) (xVar 3) (xOp addD (xGet2 (xrVar 1) (xVar 3) (xC (.int 0))) (xVar 4)))) (ls.map fun l => .list (encR l)) [x, .o os.length, w, y, z] (os ++ [some (.k (encK ps))]) = some (.nx [x, .o os.length, w', y', z'] (os ++ [some (.k (encK (ls.flatten.foldl addP ps)))]))
  | [], ps, w, y, z, _ => ⟨w, y, z, rfl⟩
  | l :: r, ps, w, y, z, hz => by
    rw [List.flatten_cons, List.length_append] at hz
    obtain ⟨y1, z1, h1⟩ := inner_run (os := os) x (.d (.list (encR l))) l ps y z (by omega)
    obtain ⟨w', y', z', ih⟩ := outer_run x r (l.foldl addP ps) (.d (.list (encR l))) y1 z1 (by
      have := fold_len l ps
      omega)
    refine ⟨w', y', z', ?_⟩
    have b1 : sFor (iLst (xVar 2)) (gTp 2 (gsCons (gNm 3) (gsCons (gNm 4) gsNil))) (sPutK (xrVar 1) (xVar 3) (xOp addD (xGet2 (xrVar 1) (xVar 3) (xC (.int 0))) (xVar 4))) [x, .o os.length, .d (.list (encR l)), y, z] (os ++ [some (.k (encK ps))]) = some (.nx [x, .o os.length, .d (.list (encR l)), y1, z1] (os ++ [some (.k (encK (l.foldl addP ps)))])) := by
      simp -implicitDefEqProofs only [a_for, a_iLst, a_var, List.getElem?_cons_succ, List.getElem?_cons_zero, slD_d, Option.map_some, Option.bind_some, listOf_list, h1]
    rw [List.map_cons, forRun, a_nm, Option.bind_some]
    simp only [List.set_cons_succ, List.set_cons_zero]
    rw [b1, Option.bind_some, List.flatten_cons, List.foldl_append]
    exact ih
theorem together_ok (ht : Tidy os) (ls : List Rw) (hz : ls.flatten.length < 16777216) : m_told_together [.d (.list (ls.map fun l => .list (encR l)))] os = some (encR (TT ls), os) := by
  obtain ⟨w', y', z', h1⟩ := outer_run (os := os) (.d (.list (ls.map fun l => .list (encR l)))) ls [] .u .u .u (by simpa using hz)
  unfold m_told_together
  rw [mF_1]
  have ob : ∀ ps, obAt (os ++ [some (.k (encK ps))]) (.o os.length) = some (os.length, .k (encK ps)) := fun ps => by
    unfold obAt
    simp
  have f1 : fSortItems (xrVar 1) [.d (.list (ls.map fun l => .list (encR l))), .o os.length, w', y', z'] (os ++ [some (.k (encK (ls.flatten.foldl addP [])))]) = some (encR (TT ls), os ++ [some (.k (encK (ls.flatten.foldl addP [])))]) := by
    unfold fSortItems
    simp -implicitDefEqProofs only [a_rvar, List.getElem?_cons_succ, List.getElem?_cons_zero, slV_o, Option.map_some, Option.bind_some, ob, pairs_enc]
    rfl
  have e0 : ([] : List (Key × PyData)) = encK [] := rfl
  simp -implicitDefEqProofs only [b_told_together, List.reduceReplicate, Nat.reduceSub, a_seq, a_asgV, a_dictK, Option.map_some, Option.bind_some, List.set_cons_succ, List.set_cons_zero, e0]
  simp -implicitDefEqProofs only [a_for, a_iLst, a_var, List.getElem?_cons_succ, List.getElem?_cons_zero, slD_d, Option.map_some, Option.bind_some, listOf_list]
  simp -implicitDefEqProofs only [h1, Option.bind_some, a_retF, f1, Option.map_some, outF_rt, cutW_app ht]
end
end Lw

set_option Elab.async false
set_option linter.all false
set_option maxRecDepth 100000
set_option maxHeartbeats 4000000
namespace Lw
open PySem PySem.Spec PyProof.Rows L2 Evl DL
def dbl (r : Rw) : Rw := r.map fun p => (2 * p.1, p.2)
def Kd (x : Str) : Prop := x = "over" ∨ x = "into" ∨ x = "whole"
@[simp] theorem eq_str_into : eqD (.str "into") (.str "into") = some (.bool true) := by kernel_rfl
section
variable {Z : Cs} {os : Os} {T : List Rw} {c : Int}
theorem whole_int {i : Int} (ht : Tidy os) : m_is_whole [.d (.int i)] os = some (.bool true, os) := by
  unfold m_is_whole
  rw [m_1]
  simp -implicitDefEqProofs [b_is_whole, cutW_self ht]
theorem from_int {i j : Int} (ht : Tidy os) : m_is_from [.d (.int i), .d (.int j)] os = some (.bool (decide (i ≥ j)), os) := by
  unfold m_is_from
  rw [m_2]
  simp -implicitDefEqProofs [b_is_from, whole_int ht, cutW_self ht]
theorem check_from_ok {i j : Int} (ht : Tidy os) (h : i ≥ j) : m_check_from [.d (.int i), .d (.int j)] os = some (.none, os) := by
  unfold m_check_from
  rw [m_2]
  simp -implicitDefEqProofs [b_check_from, from_int ht, h, cutW_self ht]
theorem is_kind_ok {x : Str} (ht : Tidy os) (h : Kd x) : m_is_kind [.d (.str x)] os = some (.bool true, os) := by
  unfold m_is_kind
  rw [m_1]
  have e : inT false c_KINDS (.str x) = some (.bool true) := by
    rcases h with rfl | rfl | rfl <;> kernel_rfl
  simp -implicitDefEqProofs only [b_is_kind, a_ret, xInT, a_var, List.getElem?_cons_zero, slD_d, Option.map_some, Option.bind_some, e, outM_rt, cutW_self ht]
theorem kind_check {x : Str} (ht : Tidy os) (h : Kd x) : m_check_kind [.d (.str x)] os = some (.none, os) := by
  unfold m_check_kind
  rw [m_1]
  simp -implicitDefEqProofs [b_check_kind, is_kind_ok ht h, cutW_self ht]
def low (x : Str) : Int := if x = "into" then 1 else 0
theorem fewest_empty_ok {x : Str} (ht : Tidy os) : m_fewest_empty [.d (.str x)] os = some (.int (low x), os) := by
  unfold m_fewest_empty low
  rw [m_1]
  by_cases h : x = "into"
  · subst h
    simp -implicitDefEqProofs [b_fewest_empty, cutW_self ht]
  · have e : eqD (.str x) (.str "into") = some (.bool false) := by
      simp [eqD_str, h]
    simp -implicitDefEqProofs [b_fewest_empty, e, h, cutW_self ht]
theorem check_beside_ok {x : Str} {c e : Int} (ht : Tidy os) (h : Kd x) (hc : 0 ≤ c) (he : low x ≤ e) : m_check_beside [.d (.str x), .d (.int c), .d (.int e)] os = some (.none, os) := by
  unfold m_check_beside
  rw [m_3]
  simp -implicitDefEqProofs [b_check_beside, kind_check ht h, check_from_ok ht hc, check_from_ok ht he, fewest_empty_ok ht, cutW_self ht]
theorem ret_last {ρ : List Sl} {n : Int} {ra : XA} (ht : Tidy os) (hc : chain (A1 c) T) (hl : T.length < 1000) (ha : ra ρ os = some ([.d (.int c), .d (.int ((T.length : Int) + 1))], os)) :
    ∃ w, sRetV os.length (xrIx (xsFn (m_lists_to Z) ra) (xUn negD (xC (.int 1)))) ρ os = some (.rt (.list (encR (lastR (A1 c) T))) w) ∧ cutW os.length w = some os := by
  have h1 := lists_ok (Z := Z) ht hc hl
  have q1 : (osY os (A1 c) T ++ [some (Ob.r (ids os.length T.length))])[os.length + 2 + T.length]? = some (some (.r (ids os.length T.length))) := by
    rw [List.getElem?_append_right (by rw [y_len]; omega), y_len, Nat.sub_self]
    rfl
  have i1 : ixV (osY os (A1 c) T ++ [some (Ob.r (ids os.length T.length))]) (.o (os.length + 2 + T.length)) (.int (-1)) = some (.o (lastId os.length T.length)) := by
    unfold ixV
    simp only [q1, last_at]
  have hb : os.length ≤ lastId os.length T.length ∧ lastId os.length T.length < (osY os (A1 c) T).length := by
    rw [y_len]
    unfold lastId
    split <;> omega
  have q2 : (osY os (A1 c) T ++ [some (Ob.r (ids os.length T.length))])[lastId os.length T.length]? = some (some (.l (encR (lastR (A1 c) T)))) := by
    rw [List.getElem?_append_left hb.2]
    exact y_last
  refine ⟨(osY os (A1 c) T ++ [some (Ob.r (ids os.length T.length))]).set (lastId os.length T.length) none, ?_, ?_⟩
  · unfold sRetV
    simp -implicitDefEqProofs only [a_rIx, a_sfn, ha, Option.bind_some, h1, a_un, a_c, negD_int, Option.map_some, i1, hb.1, if_true, q2]
  · unfold osY
    rw [List.append_assoc, List.set_append_right _ _ hb.1]
    exact cutW_app ht
theorem over_neq : eqD (.str "over") (.str "into") = some (.bool false) := by kernel_rfl
theorem whole_neq : eqD (.str "whole") (.str "into") = some (.bool false) := by kernel_rfl
theorem whole_eq : eqD (.str "whole") (.str "whole") = some (.bool true) := by kernel_rfl
theorem over_neq2 : eqD (.str "over") (.str "whole") = some (.bool false) := by kernel_rfl
theorem beside_into (ht : Tidy os) (hc : chain (A1 c) T) (hl : T.length < 1000) : m_rows_beside Z [.d (.str "into"), .d (.int c), .d (.int ((T.length : Int) + 1))] os = some (encR (lastR (A1 c) T), os) := by
  obtain ⟨w, h1, h2⟩ := ret_last (Z := Z) (ρ := [.d (.str "into"), .d (.int c), .d (.int ((T.length : Int) + 1)), .u, .u, .u, .u]) (n := 0) (ra := (xaS (xrD (xVar 1)) (xaS (xrD (xVar 2)) xaNil))) ht hc hl rfl
  unfold m_rows_beside
  rw [mF_3]
  simp -implicitDefEqProofs only [b_rows_beside, List.reduceReplicate, Nat.reduceSub, a_seq, a_sIf, a_bool, a_op, a_var, a_c, List.getElem?_cons_zero, slD_d, Option.map_some, Option.bind_some, eq_str_into, boolOf_bool, if_true, h1, outF_rt, h2]
theorem beside_whole (ht : Tidy os) (hc : chain (A1 c) T) (hl : T.length < 1000) : m_rows_beside Z [.d (.str "whole"), .d (.int c), .d (.int (T.length : Int))] os = some (encR (lastR (A1 c) T), os) := by
  obtain ⟨w, h1, h2⟩ := ret_last (Z := Z) (ρ := [.d (.str "whole"), .d (.int c), .d (.int (T.length : Int)), .u, .u, .u, .u]) (n := 0) (ra := (xaS (xrD (xVar 1)) (xaS (xrD (xOp addD (xVar 2) (xC (.int 1)))) xaNil))) ht hc hl rfl
  unfold m_rows_beside
  rw [mF_3]
  simp -implicitDefEqProofs only [b_rows_beside, List.reduceReplicate, Nat.reduceSub, a_seq, a_sIf, a_bool, a_op, a_var, a_c, List.getElem?_cons_zero, slD_d, Option.map_some, Option.bind_some, whole_neq, whole_eq, boolOf_bool, if_true, Bool.false_eq_true, if_false, a_next, h1, outF_rt, h2]
/-- what the doubled rows are made of -/
theorem dbl_ok {R : Rw} {q : Nat} {w : Os} {a b d e : Sl} (hq : w[q]? = some (some (.l (encR R)))) (hz : R.length < 16777216) (hp : ∀ p ∈ R, p.1.natAbs < 2 ^ 100) : xF (lcL (xrVar 4) (gLD (gTp 2 (gsCons (gNm 5) (gsCons (gNm 6) gsNil)))) xYes (xCall tupD (xaD (xOp mulD (xC (.int 2)) (xVar 5)) (xaD (xVar 6) xaNil))) [5, 6]) [a, b, d, e, .o q, .u, .u] w = some (.list (encR (dbl R)), w) := by
  have h1 : lcL (xrVar 4) (gLD (gTp 2 (gsCons (gNm 5) (gsCons (gNm 6) gsNil)))) xYes (xCall tupD (xaD (xOp mulD (xC (.int 2)) (xVar 5)) (xaD (xVar 6) xaNil))) [5, 6] [a, b, d, e, .o q, .u, .u] w = some (R.map (fun p => tupP (2 * p.1, p.2)), w) := by
    refine lcL_all (q := q) (f := fun p => .d (tupP p)) rfl ?_ (fun i => ?_) (fun p hpm => ?_) (by rw [DL.sizeLine_eq]; omega)
    · rw [leno_l hq, encR_len]
    · rw [item_l hq]
      simp only [encR, List.getElem?_map, Option.map_map]
      rfl
    · refine ⟨[a, b, d, e, .o q, .d (.int p.1), .d (.int p.2)], rfl, ?_⟩
      have m1 : mulD (.int 2) (.int p.1) = some (.int (2 * p.1)) := mulD_ok (p := 2) (q := 100) (by decide) (hp p hpm) (by decide)
      simp -implicitDefEqProofs [m1, tupP]
  rw [a_F, h1]
  simp [encR, dbl]
theorem over_tail {L : List Rw} (ht : Tidy os) (hz : (A1 c :: L.map dbl).flatten.length < 16777216) (hl : L.length < 1000) : fFn m_told_together (xaD (xOp addD (xCall lstD (xaD (xF (fFn m_first_list (xaD (xVar 1) xaNil))) xaNil)) (xVar 3)) xaNil) [.d (.str "over"), .d (.int c), .d (.int n), .d (.list (L.map fun r => .list (encR (dbl r)))), .u, .u, .u] os = some (encR (TT (A1 c :: L.map dbl)), os) := by
  have h1 := together_ok ht (A1 c :: L.map dbl) hz
  have a1 : addD (.list [.list (encR (A1 c))]) (.list (L.map fun r => .list (encR (dbl r)))) = some (.list ([.list (encR (A1 c))] ++ L.map fun r => .list (encR (dbl r)))) := addD_list (by
    rw [DL.sizeLine_eq]
    simp
    omega)
  have e1 : (A1 c :: L.map dbl).map (fun l => PyData.list (encR l)) = [.list (encR (A1 c))] ++ L.map fun r => .list (encR (dbl r)) := by
    simp
  rw [e1] at h1
  simp -implicitDefEqProofs only [a_ffn, a_d, a_op, a_call, a_F, a_var, a_nil, List.getElem?_cons_succ, List.getElem?_cons_zero, slD_d, Option.map_some, Option.bind_some, first_ok ht, datas_d, datas_nil, lstD_1, a1, h1]
theorem beside_over (ht : Tidy os) (hc : chain (A1 c) T) (hl : T.length < 900) (hz : (A1 c :: (A1 c :: T).map dbl).flatten.length < 16777216) (hp : ∀ R ∈ A1 c :: T, ∀ p ∈ R, p.1.natAbs < 2 ^ 100) :
    m_rows_beside Z [.d (.str "over"), .d (.int c), .d (.int ((T.length : Int) + 1))] os = some (encR (TT (A1 c :: (A1 c :: T).map dbl)), os) := by
  have h1 := lists_ok (Z := Z) ht hc (by omega)
  have q1 : (osY os (A1 c) T ++ [some (Ob.r (ids os.length T.length))])[os.length + 2 + T.length]? = some (some (.r (ids os.length T.length))) := by
    rw [List.getElem?_append_right (by rw [y_len]; omega), y_len, Nat.sub_self]
    rfl
  -- the ids with their rows
  let items : List (Nat × Rw) := (os.length, A1 c) :: (List.range T.length).zipWith (fun i r => (os.length + 2 + i, r)) T
  have il : items.length = T.length + 1 := by simp [items]
  have ig : ∀ i : Nat, ((ids os.length T.length)[i]?) = (items[i]?).map fun x => Sl.o x.1 := fun i => by
    cases i with
    | zero => rfl
    | succ i =>
      simp only [ids, items, List.getElem?_cons_succ, List.getElem?_map, List.getElem?_zipWith, List.getElem?_range]
      by_cases hi : i < T.length
      · simp [hi]
      · simp [hi]
  have im : items.map (fun x => x.2) = A1 c :: T := by
    simp only [items, List.map_cons, List.map_zipWith]
    congr 1
    apply List.ext_getElem?
    intro i
    simp only [List.getElem?_zipWith, List.getElem?_range]
    by_cases hi : i < T.length
    · simp [hi]
    · simp [hi]
  have iw : ∀ x ∈ items, (osY os (A1 c) T ++ [some (Ob.r (ids os.length T.length))])[x.1]? = some (some (.l (encR x.2))) := fun x hx => by
    simp only [items, List.mem_cons] at hx
    rcases hx with rfl | hx
    · rw [List.getElem?_append_left (by rw [y_len]; omega)]
      unfold osY
      rw [List.getElem?_append_right (Nat.le_refl _), Nat.sub_self]
      rfl
    · obtain ⟨i, hi, e⟩ := List.getElem_of_mem hx
      simp at hi
      have e2 : x = (os.length + 2 + i, T[i]) := by
        rw [← e]
        simp
      rw [e2]
      simp only
      rw [List.getElem?_append_left (by rw [y_len]; omega), y_at hi]
      simp [hi, encO]
  have hcut : cutW os.length (osY os (A1 c) T ++ [some (Ob.r (ids os.length T.length))]) = some os := by
    unfold osY
    rw [List.append_assoc]
    exact cutW_app ht
  have hm : ∀ x ∈ items, x.2 ∈ A1 c :: T := fun x hx => by
    rw [← im]
    exact List.mem_map.mpr ⟨x, hx, rfl⟩
  have hlen : ∀ R ∈ A1 c :: T, R.length < 16777216 := fun R hR => by
    have h2 : (dbl R).length ≤ (A1 c :: (A1 c :: T).map dbl).flatten.length := by
      have : dbl R ∈ A1 c :: (A1 c :: T).map dbl := List.mem_cons_of_mem _ (List.mem_map.mpr ⟨R, hR, rfl⟩)
      exact (List.sublist_flatten_of_mem this).length_le
    simp only [dbl, List.length_map] at h2
    omega
  have l1 : lcLS (xsFn (m_lists_to Z) (xaS (xrD (xVar 1)) (xaS (xrD (xVar 2)) xaNil))) (gLNm 4) xYes (xF (lcL (xrVar 4) (gLD (gTp 2 (gsCons (gNm 5) (gsCons (gNm 6) gsNil)))) xYes (xCall tupD (xaD (xOp mulD (xC (.int 2)) (xVar 5)) (xaD (xVar 6) xaNil))) [5, 6])) [4] [.d (.str "over"), .d (.int c), .d (.int ((T.length : Int) + 1)), .u, .u, .u, .u] os = some (items.map (fun x => .list (encR (dbl x.2))), os) := by
    refine lcLS_all (q := os.length + 2 + T.length) (f := fun x : Nat × Rw => .o x.1) (os1 := osY os (A1 c) T ++ [some (Ob.r (ids os.length T.length))]) h1 ?_ (fun i => ?_) (fun x hx => ?_) (by rw [DL.sizeLine_eq]; omega) hcut
    · rw [leno_r q1, ids_len, il]
    · rw [item_r q1, ig]
    · exact ⟨[.d (.str "over"), .d (.int c), .d (.int ((T.length : Int) + 1)), .u, .o x.1, .u, .u], rfl, dbl_ok (iw x hx) (hlen _ (hm x hx)) (hp _ (hm x hx))⟩
  have l2 : items.map (fun x => PyData.list (encR (dbl x.2))) = (A1 c :: T).map fun r => .list (encR (dbl r)) := by
    rw [← im, List.map_map]
    rfl
  have t1 := over_tail (n := (T.length : Int) + 1) (L := A1 c :: T) ht hz (by simp; omega)
  unfold m_rows_beside
  rw [mF_3]
  simp -implicitDefEqProofs only [b_rows_beside, List.reduceReplicate, Nat.reduceSub, a_seq, a_sIf, a_bool, a_op, a_var, a_c, List.getElem?_cons_zero, slD_d, Option.map_some, Option.bind_some, over_neq, over_neq2, boolOf_bool, Bool.false_eq_true, if_false, a_next, a_asg, a_F, l1, l2, a_nm, List.set_cons_succ, List.set_cons_zero, a_retF]
  simp -implicitDefEqProofs only [t1, Option.map_some, Option.bind_some, outF_rt, cutW_self ht]
theorem beside_over0 (ht : Tidy os) : m_rows_beside Z [.d (.str "over"), .d (.int c), .d (.int 0)] os = some (encR (TT [A1 c]), os) := by
  have h1 := lists_0 (Z := Z) (c := c) ht
  have q1 : (osY os (A1 c) [] ++ [some (Ob.r [])])[os.length + 2]? = some (some (.r [])) := by
    rw [List.getElem?_append_right (by rw [y_len]; simp), y_len]
    simp
  have hcut : cutW os.length (osY os (A1 c) [] ++ [some (Ob.r [])]) = some os := by
    unfold osY
    rw [List.append_assoc]
    exact cutW_app ht
  have l1 : lcLS (xsFn (m_lists_to Z) (xaS (xrD (xVar 1)) (xaS (xrD (xVar 2)) xaNil))) (gLNm 4) xYes (xF (lcL (xrVar 4) (gLD (gTp 2 (gsCons (gNm 5) (gsCons (gNm 6) gsNil)))) xYes (xCall tupD (xaD (xOp mulD (xC (.int 2)) (xVar 5)) (xaD (xVar 6) xaNil))) [5, 6])) [4] [.d (.str "over"), .d (.int c), .d (.int 0), .u, .u, .u, .u] os = some ((([] : List Sl)).map (fun _ => .none), os) := by
    refine lcLS_all (q := os.length + 2) (f := fun x : Sl => x) (items := []) (os1 := osY os (A1 c) [] ++ [some (Ob.r [])]) h1 ?_ (fun i => ?_) (fun x hx => by cases hx) (by decide) hcut
    · rw [leno_r q1]
    · rw [item_r q1, List.getElem?_nil]
      rfl
  have t1 := over_tail (n := 0) (L := []) (c := c) ht (by unfold A1; split <;> simp) (by decide)
  unfold m_rows_beside
  rw [mF_3]
  rw [List.map_nil] at l1
  simp -implicitDefEqProofs only [List.map_nil] at t1
  simp -implicitDefEqProofs only [b_rows_beside, List.reduceReplicate, Nat.reduceSub, a_seq, a_sIf, a_bool, a_op, a_var, a_c, List.getElem?_cons_zero, slD_d, Option.map_some, Option.bind_some, over_neq, over_neq2, boolOf_bool, Bool.false_eq_true, if_false, a_next, a_asg, a_F, l1, a_nm, List.set_cons_succ, List.set_cons_zero, a_retF]
  simp -implicitDefEqProofs only [t1, Option.map_some, Option.bind_some, outF_rt, cutW_self ht]
end
end Lw

set_option Elab.async false
set_option linter.all false
set_option maxRecDepth 100000
set_option maxHeartbeats 4000000
namespace Lw
open PySem PySem.Spec PyProof.Rows L2 Evl DL
/-! what list_behind makes -/
def tot (S : Rw) : Int := (S.map (·.2)).sum
def cnt (S : Rw) (x : Int) : Int := tot (S.filter fun r => decide (r.1 ≤ x))
@[simp] theorem tot_nil : tot [] = 0 := rfl
@[simp] theorem tot_cons (r : Int × Int) (S : Rw) : tot (r :: S) = r.2 + tot S := by simp [tot]
theorem tot_app (S T : Rw) : tot (S ++ T) = tot S + tot T := by
  induction S with
  | nil => simp
  | cons r S ih => simp [ih]; omega
theorem cnt_app (S T : Rw) (x : Int) : cnt (S ++ T) x = cnt S x + cnt T x := by
  unfold cnt
  rw [List.filter_append, tot_app]
theorem tot_pos {S : Rw} (h : ∀ r ∈ S, 1 ≤ r.2) : 0 ≤ tot S := by
  induction S with
  | nil => simp
  | cons r S ih =>
    have := ih fun q hq => h q (by simp [hq])
    have := h r (by simp)
    simp
    omega
theorem tot_filter {S : Rw} (h : ∀ r ∈ S, 1 ≤ r.2) (p : Int × Int → Bool) : tot (S.filter p) ≤ tot S := by
  induction S with
  | nil => simp
  | cons r S ih =>
    have h1 := ih fun q hq => h q (by simp [hq])
    have h2 := h r (by simp)
    by_cases e : p r = true
    · rw [List.filter_cons_of_pos e]
      simp
      omega
    · rw [List.filter_cons_of_neg e]
      simp
      omega
theorem cnt_all {S : Rw} {x : Int} (h : ∀ r ∈ S, r.1 ≤ x) : cnt S x = tot S := by
  unfold cnt
  rw [List.filter_eq_self.mpr fun r hr => by simpa using h r hr]
theorem take_snoc {S : Rw} {a : Nat} {r : Int × Int} (h : S[a]? = some r) : S.take (a + 1) = S.take a ++ [r] := by
  rw [List.take_succ, h]
  rfl
theorem tot_take {S : Rw} {a : Nat} {r : Int × Int} (h : S[a]? = some r) : tot (S.take (a + 1)) = tot (S.take a) + r.2 := by
  rw [take_snoc h, tot_app]
  simp
def Asc (S : Rw) : Prop := S.Pairwise fun a b => a.1 < b.1
theorem Asc.lt {S : Rw} (h : Asc S) {i j : Nat} {a b : Int × Int} (hi : S[i]? = some a) (hj : S[j]? = some b) (l : i < j) : a.1 < b.1 := by
  obtain ⟨h1, rfl⟩ := List.getElem?_eq_some_iff.mp hi
  obtain ⟨h2, rfl⟩ := List.getElem?_eq_some_iff.mp hj
  exact List.pairwise_iff_getElem.mp h i j h1 h2 l
theorem Asc.le {S : Rw} (h : Asc S) {i j : Nat} {a b : Int × Int} (hi : S[i]? = some a) (hj : S[j]? = some b) (l : i ≤ j) : a.1 ≤ b.1 := by
  rcases Nat.lt_or_ge i j with z | z
  · exact Int.le_of_lt (h.lt hi hj z)
  · have : i = j := by omega
    subst this
    rw [hi] at hj
    cases hj
    exact Int.le_refl _
/-- a walk stands well in its rows -/
structure WV (S : Rw) (w : Wk) : Prop where
  a : w.a ≤ S.length
  p0 : 0 ≤ w.p
  lt : ∀ r, S[w.a]? = some r → w.p < r.2
  en : w.a = S.length → w.p = 0
def passed (S : Rw) (w : Wk) : Int := tot (S.take w.a) + w.p
theorem left_eq {S : Rw} {w : Wk} {r : Int × Int} (h : S[w.a]? = some r) : left S w = r.2 - w.p := by
  unfold left
  rw [h]
theorem goOn_wv {S : Rw} {w : Wk} {r : Int × Int} {t : Int} (v : WV S w) (hp : ∀ r ∈ S, 1 ≤ r.2) (h : S[w.a]? = some r) (t0 : 0 < t) (t1 : t ≤ r.2 - w.p) :
    WV S (goOn S w t) ∧ passed S (goOn S w t) = passed S w + t ∧ w.a ≤ (goOn S w t).a ∧ (goOn S w t).a ≤ w.a + 1 ∧ (t = r.2 - w.p → (goOn S w t).a = w.a + 1) := by
  have hl := (List.getElem?_eq_some_iff.mp h).1
  have hp0 := v.p0
  unfold goOn
  rw [h]
  simp only
  by_cases e : r.2 - (w.p + t) = 0
  · rw [if_pos e]
    refine ⟨⟨by simp only; omega, Int.le_refl _, fun q hq => ?_, fun _ => rfl⟩, ?_, by simp, by simp, fun _ => rfl⟩
    · have := hp q (List.mem_of_getElem? hq)
      simp only
      omega
    · unfold passed
      simp only
      rw [tot_take h]
      omega
  · rw [if_neg e]
    refine ⟨⟨v.a, by simp only; omega, fun q hq => ?_, fun z => by simp only at z; omega⟩, ?_, by simp, by simp, fun z => by omega⟩
    · simp only at hq ⊢
      rw [h] at hq
      cases hq
      omega
    · unfold passed
      simp only
      omega
theorem left_pos {S : Rw} {w : Wk} {r : Int × Int} (v : WV S w) (h : S[w.a]? = some r) : 1 ≤ left S w := by
  rw [left_eq h]
  have := v.lt r h
  omega
theorem min2 (a b : Int) : minL [a, b] = if b < a then b else a := by
  unfold minL
  simp
theorem gp2_ok {R S : Rw} (aR : Asc R) (aS : Asc S) (pR : ∀ r ∈ R, 1 ≤ r.2) (pS : ∀ r ∈ S, 1 ≤ r.2) {p : Int} : ∀ (f : Nat) (wr ws : Wk) (acc : Int), WV R wr → WV S ws → (∀ x, next2 R S wr ws = some x → p ≤ x) → (R.length - wr.a) + (S.length - ws.a) < f →
    ∃ m wr' ws', gp2 R S f wr ws p acc = some (acc + m, wr', ws') ∧ 0 ≤ m ∧ (next2 R S wr ws = some p → 1 ≤ m) ∧ WV R wr' ∧ WV S ws' ∧ passed R wr' = passed R wr + m ∧ passed S ws' = passed S ws + m ∧ (∀ x, next2 R S wr' ws' = some x → p < x)
  | 0, _, _, _, _, _, _, h => by omega
  | f + 1, wr, ws, acc, vR, vS, hp, hf => by
    unfold gp2
    by_cases e : next2 R S wr ws = some p
    · rw [if_pos e]
      obtain ⟨r, s, e1, e2, e3⟩ := next2_some e
      have l1 := left_pos vR e1
      have l2 := left_pos vS e2
      have q1 := left_eq e1
      have q2 := left_eq e2
      have hR := (List.getElem?_eq_some_iff.mp e1).1
      have hS := (List.getElem?_eq_some_iff.mp e2).1
      generalize eT : minL [left R wr, left S ws] = T
      have hT : 1 ≤ T ∧ T ≤ left R wr ∧ T ≤ left S ws ∧ (T = left R wr ∨ T = left S ws) := by
        rw [min2] at eT
        split at eT <;> omega
      obtain ⟨g1, g2, g3, g4, g5⟩ := goOn_wv vR pR e1 (t := T) (by omega) (by omega)
      obtain ⟨k1, k2, k3, k4, k5⟩ := goOn_wv vS pS e2 (t := T) (by omega) (by omega)
      have nx : ∀ x, next2 R S (goOn R wr T) (goOn S ws T) = some x → p ≤ x := fun x hx => by
        obtain ⟨r', s', f1, f2, f3⟩ := next2_some hx
        have := aR.le e1 f1 g3
        have := aS.le e2 f2 k3
        omega
      obtain ⟨m, wr', ws', i1, i2, i3, i4, i5, i6, i7, i8⟩ := gp2_ok aR aS pR pS f (goOn R wr T) (goOn S ws T) (acc + T) g1 k1 nx (by
        rcases hT.2.2.2 with z | z
        · have := g5 (by omega)
          omega
        · have := k5 (by omega)
          omega)
      refine ⟨T + m, wr', ws', ?_, by omega, fun _ => by omega, i4, i5, by omega, by omega, i8⟩
      rw [i1]
      congr 2
      omega
    · rw [if_neg e]
      refine ⟨0, wr, ws, by simp, Int.le_refl _, fun z => absurd z e, vR, vS, by omega, by omega, fun x hx => ?_⟩
      have := hp x hx
      have : x ≠ p := fun z => e (by rw [← z]; exact hx)
      omega
theorem gp1_yes {S : Rw} (aS : Asc S) {a : Nat} {r : Int × Int} {f : Nat} {acc : Int} (h : S[a]? = some r) : gp1 S (f + 2) ⟨a, 0⟩ r.1 acc = some (acc + r.2, ⟨a + 1, 0⟩) := by
  have n1 : next1 S ⟨a, 0⟩ = some r.1 := by
    unfold next1
    simp [h]
  have l1 : left S ⟨a, 0⟩ = r.2 := by
    rw [left_eq (r := r) h]
    simp
  have g1 : goOn S ⟨a, 0⟩ r.2 = ⟨a + 1, 0⟩ := by
    unfold goOn
    simp only [h]
    rw [if_pos (by omega)]
  have n2 : next1 S ⟨a + 1, 0⟩ ≠ some r.1 := fun e => by
    obtain ⟨q, e1, e2⟩ := next1_some e
    have := aS.lt h e1 (by simp)
    omega
  unfold gp1
  rw [if_pos n1, l1, g1]
  unfold gp1
  rw [if_neg n2]
theorem gp1_no {S : Rw} {w : Wk} {p : Int} {f : Nat} {acc : Int} (h : next1 S w ≠ some p) : gp1 S (f + 1) w p acc = some (acc, w) := by
  unfold gp1
  rw [if_neg h]
end Lw

set_option Elab.async false
set_option linter.all false
set_option maxRecDepth 100000
set_option maxHeartbeats 4000000
namespace Lw
open PySem PySem.Spec PyProof.Rows L2 Evl DL
structure Good (S : Rw) : Prop where
  head : S[0]? = some (1, 1)
  asc : Asc S
  pos : ∀ r ∈ S, 1 ≤ r.2
  ev : ∀ i r, S[i]? = some r → 1 ≤ i → r.1 % 2 = 0
theorem Good.ge {S : Rw} (h : Good S) {r : Int × Int} (hr : r ∈ S) : 1 ≤ r.1 := by
  obtain ⟨i, hi, rfl⟩ := List.getElem_of_mem hr
  exact h.asc.le h.head (by simp [hi]) (Nat.zero_le i)
theorem asc_len {S : Rw} (a : Asc S) (lo hi : Int) (h1 : ∀ r ∈ S, lo ≤ r.1) (h2 : ∀ r ∈ S, r.1 ≤ hi) (hh : lo - 1 ≤ hi) : (S.length : Int) ≤ hi - lo + 1 := by
  induction S generalizing lo with
  | nil => simp; omega
  | cons r S ih =>
    have q1 := h1 r (by simp)
    have q2 := h2 r (by simp)
    have a2 := List.pairwise_cons.mp a
    have := ih a2.2 (r.1 + 1) (fun q hq => by have := a2.1 q hq; omega) (fun q hq => h2 q (by simp [hq])) (by omega)
    simp
    omega
theorem mn_cases (a b : Option Int) : (mn a b = none ∧ a = none ∧ b = none) ∨ ∃ p, mn a b = some p ∧ (a = some p ∨ b = some p) ∧ (∀ x, a = some x → p ≤ x) ∧ (∀ x, b = some x → p ≤ x) := by
  cases a with
  | none =>
    cases b with
    | none => exact .inl ⟨rfl, rfl, rfl⟩
    | some y => exact .inr ⟨y, rfl, .inr rfl, (fun x h => by cases h), (fun x h => by cases h; exact Int.le_refl _)⟩
  | some z =>
    cases b with
    | none => exact .inr ⟨z, rfl, .inl rfl, (fun x h => by cases h; exact Int.le_refl _), (fun x h => by cases h)⟩
    | some y =>
      refine .inr ⟨minL [z, y], rfl, ?_, fun x h => ?_, fun x h => ?_⟩
      · rw [min2]
        split
        · exact .inr rfl
        · exact .inl rfl
      · cases h
        rw [min2]
        split <;> omega
      · cases h
        rw [min2]
        split <;> omega
/-- between two rounds of list_behind -/
structure Iv (S R : Rw) (m : Int) (k : Nat) (wr ws : Wk) : Prop where
  gR : Good R
  k1 : 1 ≤ k
  k2 : k ≤ S.length
  vR : WV R wr
  vS : WV S ws
  nr : wr.a < R.length
  sum : tot R = tot (S.take k) + passed S ws
  eq : passed R wr = passed S ws
  lt1 : ∀ x, next1 S ⟨k, 0⟩ = some x → ∀ r ∈ R, r.1 < x
  lt2 : ∀ x, next2 R S wr ws = some x → ∀ r ∈ R, r.1 < x
  cn : ∀ x, cnt (S.take k) x ≤ cnt R x
  mx : ∀ r ∈ R, r.1 ≤ 2 * m
theorem tot_take_mono {S : Rw} (h : ∀ r ∈ S, 1 ≤ r.2) {a b : Nat} (l : a ≤ b) : tot (S.take a) ≤ tot (S.take b) := by
  have e : S.take b = S.take a ++ (S.take b).drop a := by
    conv => lhs; rw [← List.take_append_drop a (S.take b)]
    rw [List.take_take, Nat.min_eq_left l]
  rw [e, tot_app]
  have := tot_pos (S := (S.take b).drop a) fun r hr => h r (List.mem_of_mem_take (List.mem_of_mem_drop hr))
  omega
/-- what stands at the walk in R is no dearer than what stands there in S -/
theorem Iv.below {S R : Rw} {m : Int} {k : Nat} {wr ws : Wk} (v : Iv S R m k wr ws) (gS : Good S) {r s : Int × Int} (hr : R[wr.a]? = some r) (hs : S[ws.a]? = some s) : r.1 ≤ s.1 := by
  rcases Int.lt_or_le s.1 r.1 with h | h
  · exfalso
    have hrm : r ∈ R := List.mem_of_getElem? hr
    -- ws is within what kept has passed
    have hk : ws.a < k := by
      rcases Nat.lt_or_ge ws.a k with z | z
      · exact z
      · exfalso
        have hsl := (List.getElem?_eq_some_iff.mp hs).1
        have hkl : k < S.length := by omega
        have e1 : S[k]? = some S[k] := by simp [hkl]
        have n1 : next1 S ⟨k, 0⟩ = some S[k].1 := by
          unfold next1
          simp [e1]
        have := v.lt1 _ n1 r hrm
        have := gS.asc.le e1 hs z
        omega
    -- so many of S cost no more than s
    have c1 : tot (S.take (ws.a + 1)) ≤ cnt (S.take k) s.1 := by
      have e : S.take k = S.take (ws.a + 1) ++ (S.take k).drop (ws.a + 1) := by
        conv => lhs; rw [← List.take_append_drop (ws.a + 1) (S.take k)]
        rw [List.take_take, Nat.min_eq_left (by omega)]
      rw [e, cnt_app, cnt_all (S := S.take (ws.a + 1)) (x := s.1) (fun q hq => by
        obtain ⟨i, hi, rfl⟩ := List.getElem_of_mem hq
        rw [List.length_take] at hi
        rw [List.getElem_take]
        exact gS.asc.le (i := i) (List.getElem?_eq_getElem (by omega)) hs (by omega))]
      have : 0 ≤ cnt ((S.take k).drop (ws.a + 1)) s.1 := tot_pos fun q hq => gS.pos q (List.mem_of_mem_take (List.mem_of_mem_drop (List.mem_filter.mp hq).1))
      omega
    rw [tot_take hs] at c1
    have c2 := v.cn s.1
    -- in R these stand before wr
    have c3 : cnt R s.1 ≤ tot (R.take wr.a) := by
      have e : R = R.take wr.a ++ R.drop wr.a := (List.take_append_drop _ _).symm
      have z : cnt (R.drop wr.a) s.1 = 0 := by
        unfold cnt
        rw [List.filter_eq_nil_iff.mpr]
        · rfl
        · intro q hq
          obtain ⟨i, hi, rfl⟩ := List.getElem_of_mem hq
          rw [List.length_drop] at hi
          rw [List.getElem_drop]
          have := v.gR.asc.le hr (j := wr.a + i) (b := R[wr.a + i]) (List.getElem?_eq_getElem (by omega)) (by omega)
          simp
          omega
      have h2 : cnt R s.1 = cnt (R.take wr.a) s.1 + cnt (R.drop wr.a) s.1 := by
        rw [← cnt_app, List.take_append_drop]
      rw [h2, z]
      have := tot_filter (S := R.take wr.a) (fun q hq => v.gR.pos q (List.mem_of_mem_take hq)) (fun q => decide (q.1 ≤ s.1))
      unfold cnt
      omega
    have h3 := v.eq
    have h4 := v.vS.lt s hs
    have h5 := v.vR.p0
    unfold passed at h3
    omega
  · exact h
theorem Good.first {S : Rw} (g : Good S) {w : Wk} (v : WV S w) : w.a = 0 ↔ passed S w = 0 := by
  constructor
  · intro e
    have := v.lt (1, 1) (by rw [e]; exact g.head)
    have := v.p0
    unfold passed
    rw [e]
    simp at *
    omega
  · intro e
    rcases Nat.eq_zero_or_pos w.a with z | z
    · exact z
    · have h1 := tot_take_mono g.pos (a := 1) (b := w.a) z
      have h2 := tot_take g.head
      simp at h2
      have := v.p0
      unfold passed at e
      omega
theorem Good.snoc {R : Rw} {p n : Int} (g : Good R) (hl : ∀ r ∈ R, r.1 < p) (hn : 1 ≤ n) (he : p % 2 = 0) : Good (R ++ [(p, n)]) := by
  have hR : 0 < R.length := (List.getElem?_eq_some_iff.mp g.head).1
  refine ⟨by rw [List.getElem?_append_left hR]; exact g.head, ?_, fun r hr => ?_, fun i r h hi => ?_⟩
  · unfold Asc
    rw [List.pairwise_append]
    refine ⟨g.asc, by simp, fun a ha b hb => ?_⟩
    simp at hb
    rw [hb]
    exact hl a ha
  · rcases List.mem_append.mp hr with z | z
    · exact g.pos r z
    · simp at z
      rw [z]
      exact hn
  · rcases Nat.lt_or_ge i R.length with z | z
    · rw [List.getElem?_append_left z] at h
      exact g.ev i r h hi
    · rw [List.getElem?_append_right z] at h
      have := List.mem_of_getElem? h
      simp at this
      rw [this]
      exact he
theorem WV.snoc {R : Rw} {w : Wk} {x : Int × Int} (v : WV R w) (hx : 1 ≤ x.2) : WV (R ++ [x]) w ∧ passed (R ++ [x]) w = passed R w := by
  refine ⟨⟨by have := v.a; simp; omega, v.p0, fun r hr => ?_, fun e => by have := v.a; simp at e; omega⟩, ?_⟩
  · rcases Nat.lt_or_ge w.a R.length with z | z
    · rw [List.getElem?_append_left z] at hr
      exact v.lt r hr
    · have e : w.a = R.length := by have := v.a; omega
      rw [e, List.getElem?_append_right (Nat.le_refl _), Nat.sub_self] at hr
      cases hr
      have := v.en e
      omega
  · unfold passed
    rw [List.take_append_of_le_length v.a]
theorem lb_ok {S : Rw} (gS : Good S) {m : Int} (hm : ∀ r ∈ S, r.1 ≤ m) (hm2 : m ≤ 100000) : ∀ (f : Nat) (R : Rw) (k : Nat) (wr ws : Wk), Iv S R m k wr ws → 2 * m - R.length < f →
    ∃ Q, lb S f R ⟨k, 0⟩ wr ws (mn (next1 S ⟨k, 0⟩) (next2 R S wr ws)) = some Q ∧ Good Q ∧ tot Q = 2 * tot S ∧ ∀ r ∈ Q, r.1 ≤ 2 * m
  | 0, R, k, wr, ws, v, hf => by
    exfalso
    have hp : (R.length : Int) ≤ 2 * m - 1 + 1 := asc_len v.gR.asc 1 (2 * m) (fun r hr => v.gR.ge hr) v.mx (by
      have h1 := v.mx (1, 1) (List.mem_of_getElem? v.gR.head)
      simp at h1
      omega)
    omega
  | f + 1, R, k, wr, ws, v, hf => by
    have hRl : 0 < R.length := (List.getElem?_eq_some_iff.mp v.gR.head).1
    have hSl : 0 < S.length := (List.getElem?_eq_some_iff.mp gS.head).1
    have m1 : 1 ≤ m := by
      have := hm (1, 1) (List.mem_of_getElem? gS.head)
      simpa using this
    have lenR : (R.length : Int) ≤ 2 * m - 1 + 1 := asc_len v.gR.asc 1 (2 * m) (fun r hr => v.gR.ge hr) v.mx (by omega)
    have lenS : (S.length : Int) ≤ m - 1 + 1 := asc_len gS.asc 1 m (fun r hr => gS.ge hr) hm (by omega)
    have nr := v.nr
    have eR : R[wr.a]? = some R[wr.a] := by simp [nr]
    unfold lb
    rcases mn_cases (next1 S ⟨k, 0⟩) (next2 R S wr ws) with ⟨e0, e1, e2⟩ | ⟨p, e0, e1, e2, e3⟩
    · rw [e0]
      refine ⟨R, rfl, v.gR, ?_, v.mx⟩
      have hk : k = S.length := by
        rcases Nat.lt_or_ge k S.length with z | z
        · unfold next1 at e1
          simp [z] at e1
        · have := v.k2
          omega
      have hw : ws.a = S.length := by
        rcases Nat.lt_or_ge ws.a S.length with z | z
        · unfold next2 at e2
          simp [eR, z] at e2
        · have := v.vS.a
          omega
      have h1 := v.sum
      have h2 := v.vS.en hw
      rw [hk, List.take_length] at h1
      unfold passed at h1
      rw [hw, List.take_length, h2] at h1
      omega
    · rw [e0]
      simp only
      -- kept
      have hkept : ∃ (c : Int) (k' : Nat), gp1 S 1000000 ⟨k, 0⟩ p 0 = some (c, ⟨k', 0⟩) ∧ 0 ≤ c ∧ (next1 S ⟨k, 0⟩ = some p → 1 ≤ c) ∧ k ≤ k' ∧ k' ≤ S.length ∧ tot (S.take k') = tot (S.take k) + c ∧ (∀ x, cnt (S.take k') x ≤ cnt (S.take k) x + if p ≤ x then c else 0) ∧ (∀ x, next1 S ⟨k', 0⟩ = some x → p < x) := by
        by_cases e : next1 S ⟨k, 0⟩ = some p
        · obtain ⟨r, h1, h2⟩ := next1_some e
          simp only at h1
          have hkl := (List.getElem?_eq_some_iff.mp h1).1
          have := gS.pos r (List.mem_of_getElem? h1)
          refine ⟨r.2, k + 1, ?_, by omega, fun _ => this, by omega, by omega, tot_take h1, fun x => ?_, fun x hx => ?_⟩
          · have := gp1_yes gS.asc (f := 999998) (acc := 0) h1
            rw [Int.zero_add] at this
            rw [← h2]
            exact this
          · rw [take_snoc h1, cnt_app]
            have : cnt [r] x = if p ≤ x then r.2 else 0 := by
              unfold cnt
              by_cases z : p ≤ x
              · have z2 : r.1 ≤ x := by omega
                simp [z, z2]
              · have z2 : ¬ r.1 ≤ x := by omega
                simp [z, z2]
            omega
          · obtain ⟨q, h3, h4⟩ := next1_some hx
            have := gS.asc.lt h1 h3 (by simp)
            omega
        · refine ⟨0, k, gp1_no (f := 999999) e, Int.le_refl _, fun z => absurd z e, Nat.le_refl _, v.k2, by simp, fun x => by split <;> omega, fun x hx => ?_⟩
          have := e2 x hx
          have : x ≠ p := fun z => e (by rw [← z]; exact hx)
          omega
      obtain ⟨c, k', g1, g2, g3, g4, g5, g6, g7, g8⟩ := hkept
      obtain ⟨d, wr', ws', j1, j2, j3, j4, j5, j6, j7, j8⟩ := gp2_ok (p := p) v.gR.asc gS.asc v.gR.pos gS.pos 1000000 wr ws 0 v.vR v.vS e3 (by omega)
      have hz : R.length < 16777216 := by omega
      have hn : 1 ≤ c + d := by
        rcases e1 with z | z
        · have := g3 z
          omega
        · have := j3 z
          omega
      have hlt : ∀ r ∈ R, r.1 < p := fun r hr => by
        rcases e1 with z | z
        · exact v.lt1 p z r hr
        · exact v.lt2 p z r hr
      have hpm : p ≤ 2 * m := by
        rcases e1 with z | z
        · obtain ⟨q, h1, h2⟩ := next1_some z
          have := hm q (List.mem_of_getElem? h1)
          omega
        · obtain ⟨r, s, h1, h2, h3⟩ := next2_some z
          have := v.below gS h1 h2
          have := hm s (List.mem_of_getElem? h2)
          omega
      have hev : p % 2 = 0 := by
        rcases e1 with z | z
        · obtain ⟨q, h1, h2⟩ := next1_some z
          have := gS.ev _ _ h1 v.k1
          omega
        · obtain ⟨r, s, h1, h2, h3⟩ := next2_some z
          have f1 := v.gR.first v.vR
          have f2 := gS.first v.vS
          rw [v.eq] at f1
          rcases Nat.eq_zero_or_pos wr.a with y | y
          · have y2 : ws.a = 0 := f2.mpr (f1.mp y)
            rw [y, v.gR.head] at h1
            rw [y2, gS.head] at h2
            cases h1
            cases h2
            omega
          · have y2 : 1 ≤ ws.a := by
              rcases Nat.eq_zero_or_pos ws.a with u | u
              · have := f1.mpr (f2.mp u)
                omega
              · exact u
            have := v.gR.ev _ _ h1 y
            have := gS.ev _ _ h2 y2
            omega
      have gR' : Good (R ++ [(p, c + d)]) := v.gR.snoc hlt hn hev
      obtain ⟨vR', pR'⟩ := j4.snoc (x := (p, c + d)) hn
      have iv : Iv S (R ++ [(p, c + d)]) m k' wr' ws' := by
        refine ⟨gR', by have := v.k1; omega, g5, vR', j5, by have := j4.a; simp; omega, ?_, by rw [pR', j6, j7, v.eq], fun x hx r hr => ?_, fun x hx r hr => ?_, fun x => ?_, fun r hr => ?_⟩
        · rw [tot_app, v.sum]
          simp
          omega
        · have := g8 x hx
          rcases List.mem_append.mp hr with z | z
          · have := hlt r z
            omega
          · simp at z
            rw [z]
            exact this
        · have hpx : p < x := by
            obtain ⟨r', s', h1, h2, h3⟩ := next2_some hx
            rcases Nat.lt_or_ge wr'.a R.length with z | z
            · rw [List.getElem?_append_left z] at h1
              refine j8 x ?_
              unfold next2
              rw [h1, h2]
              simp [h3]
            · have e : wr'.a = R.length := by have := j4.a; omega
              rw [e, List.getElem?_append_right (Nat.le_refl _), Nat.sub_self] at h1
              cases h1
              have := gS.ge (List.mem_of_getElem? h2)
              simp at h3
              omega
          rcases List.mem_append.mp hr with z | z
          · have := hlt r z
            omega
          · simp at z
            rw [z]
            exact hpx
        · have h1 := g7 x
          have h2 := v.cn x
          rw [cnt_app]
          have : cnt [(p, c + d)] x = if p ≤ x then c + d else 0 := by
            unfold cnt
            by_cases z : p ≤ x <;> simp [z]
          split at h1 <;> rename_i z
          · rw [if_pos z] at this
            omega
          · rw [if_neg z] at this
            omega
        · rcases List.mem_append.mp hr with z | z
          · exact v.mx r z
          · simp at z
            rw [z]
            exact hpm
      obtain ⟨Q, q1, q2, q3, q4⟩ := lb_ok gS hm hm2 f _ k' wr' ws' iv (by simp; omega)
      refine ⟨Q, ?_, q2, q3, q4⟩
      rw [g1, Option.bind_some]
      simp only
      rw [j1, Option.bind_some]
      simp only
      rw [if_pos hz, Int.zero_add]
      exact q1
theorem LB_ok {S : Rw} (gS : Good S) {m : Int} (hm : ∀ r ∈ S, r.1 ≤ m) (hm2 : m ≤ 100000) : ∃ Q, LB S = some Q ∧ Good Q ∧ tot Q = 2 * tot S ∧ ∀ r ∈ Q, r.1 ≤ 2 * m := by
  have m1 : 1 ≤ m := by
    have := hm (1, 1) (List.mem_of_getElem? gS.head)
    simpa using this
  have hSl : 0 < S.length := (List.getElem?_eq_some_iff.mp gS.head).1
  have n1 : next1 S ⟨0, 0⟩ = some 1 := by
    unfold next1
    simp [gS.head]
  have g1 := gp1_yes gS.asc (f := 999998) (acc := 0) gS.head
  have n2 : next2 [] S ⟨0, 0⟩ ⟨0, 0⟩ = none := by simp [next2]
  have g2 : gp2 [] S 1000000 ⟨0, 0⟩ ⟨0, 0⟩ 1 0 = some (0, ⟨0, 0⟩, ⟨0, 0⟩) := by
    unfold gp2
    rw [if_neg (by rw [n2]; simp)]
  have iv : Iv S [(1, 1)] m 1 ⟨0, 0⟩ ⟨0, 0⟩ := by
    have t1 := tot_take gS.head
    simp at t1
    refine ⟨⟨rfl, by simp [Asc], by simp, fun i r h hi => ?_⟩, Nat.le_refl _, hSl, ⟨Nat.zero_le _, Int.le_refl _, fun r h => by cases h; decide, fun _ => rfl⟩, ⟨Nat.zero_le _, Int.le_refl _, fun r h => by
      have := gS.pos r (List.mem_of_getElem? h)
      show 0 < r.2
      omega, fun _ => rfl⟩, by simp, by simp [passed, t1], by simp [passed], fun x hx r hr => ?_, fun x hx r hr => ?_, fun x => ?_, fun r hr => ?_⟩
    · obtain ⟨j, rfl⟩ : ∃ j, i = j + 1 := ⟨i - 1, by omega⟩
      simp at h
    · obtain ⟨q, h1, h2⟩ := next1_some hx
      have := gS.asc.lt gS.head h1 (by simp)
      simp at hr
      rw [hr]
      simp at this ⊢
      omega
    · obtain ⟨r', s', h1, h2, h3⟩ := next2_some hx
      simp at h1 h2 hr
      rw [gS.head] at h2
      cases h2
      rw [hr]
      rw [← h1] at h3
      simp at h3 ⊢
      omega
    · have := take_snoc gS.head
      simp at this
      rw [this]
      exact Int.le_refl _
    · simp at hr
      rw [hr]
      simp
      omega
  obtain ⟨Q, q1, q2, q3, q4⟩ := lb_ok gS hm hm2 999999 [(1, 1)] 1 ⟨0, 0⟩ ⟨0, 0⟩ iv (by simp; omega)
  refine ⟨Q, ?_, q2, q3, q4⟩
  unfold LB
  rw [n1]
  unfold lb
  simp only
  rw [g1, Option.bind_some]
  simp only
  rw [g2, Option.bind_some]
  simp only
  rw [if_pos (by decide)]
  exact q1
end Lw

set_option Elab.async false
set_option linter.all false
set_option maxRecDepth 100000
set_option maxHeartbeats 4000000
namespace Lw
open PySem PySem.Spec PyProof.Rows L2 Evl DL
/-- A(1), .., A(n + 1) -/
def lst (c : Int) : Nat → Option (List Rw)
  | 0 => some [A1 c]
  | n + 1 => (lst c n).bind fun l => (LB (l.getLast?.getD [])).map fun q => l ++ [q]
theorem getLast_lastR : ∀ {T : List Rw} {L : Rw}, ((L :: T).getLast?).getD [] = lastR L T
  | [], _ => rfl
  | r :: t, L => by
    rw [List.getLast?_cons_cons]
    exact getLast_lastR
theorem A1_good {c : Int} (h : 0 ≤ c) : Good (A1 c) ∧ (∀ r ∈ A1 c, r.1 ≤ 2) ∧ tot (A1 c) = c + 1 := by
  unfold A1
  by_cases hc : 0 < c
  · rw [if_pos hc]
    refine ⟨⟨rfl, by simp [Asc], by simp; omega, fun i r e hi => ?_⟩, by simp, by simp; omega⟩
    match i, e, hi with
    | 1, e, _ => cases e; rfl
    | i + 2, e, _ => simp at e
  · rw [if_neg hc]
    refine ⟨⟨rfl, by simp [Asc], by simp, fun i r e hi => ?_⟩, by simp, by simp; omega⟩
    match i, e, hi with
    | i + 1, e, _ => simp at e
/-- what is known of the lists -/
structure Ls (c : Int) (n : Nat) (T : List Rw) : Prop where
  l : lst c n = some (A1 c :: T)
  ch : chain (A1 c) T
  len : T.length = n
  all : ∀ (i : Nat) (R : Rw), (A1 c :: T)[i]? = some R → Good R ∧ (∀ r ∈ R, r.1 ≤ 2 ^ (i + 1)) ∧ tot R = (c + 1) * 2 ^ i
theorem lst_ok {c : Int} (hc : 0 ≤ c) : ∀ (n : Nat), n ≤ 14 → ∃ T, Ls c n T
  | 0, _ => ⟨[], rfl, True.intro, rfl, fun i R h => by
    match i, h with
    | 0, h =>
      cases h
      obtain ⟨h1, h2, h3⟩ := A1_good hc
      exact ⟨h1, h2, by rw [h3]; simp⟩
    | i + 1, h => simp at h⟩
  | n + 1, hn => by
    obtain ⟨T, h⟩ := lst_ok hc n (by omega)
    have e := lastR_get (T := T) (L := A1 c)
    obtain ⟨g1, g2, g3⟩ := h.all _ _ e
    rw [h.len] at g2 g3
    have hp : (2 : Int) ^ (n + 1) ≤ 100000 := by
      have h1 : (2 : Int) ^ (n + 1) ≤ 2 ^ 14 := by
        have h0 : (2 : Nat) ^ (n + 1) ≤ 2 ^ 14 := Nat.pow_le_pow_right (by decide) (by omega)
        exact_mod_cast h0
      omega
    obtain ⟨Q, q1, q2, q3, q4⟩ := LB_ok g1 g2 hp
    refine ⟨T ++ [Q], ?_, chain_snoc h.ch q1, by simp [h.len], fun i R hR => ?_⟩
    · unfold lst
      rw [h.l, Option.bind_some, getLast_lastR, q1]
      rfl
    · rw [← List.cons_append] at hR
      rcases Nat.lt_or_ge i (A1 c :: T).length with z | z
      · rw [List.getElem?_append_left z] at hR
        exact h.all i R hR
      · rw [List.getElem?_append_right z] at hR
        have hl : (A1 c :: T).length = n + 1 := by simp [h.len]
        rw [hl] at hR z
        have : i = n + 1 := by
          rcases Nat.lt_or_ge (n + 1) i with y | y
          · rw [List.getElem?_eq_none (by simp; omega)] at hR
            cases hR
          · omega
        subst this
        rw [Nat.sub_self] at hR
        cases hR
        refine ⟨q2, fun r hr => ?_, ?_⟩
        · have := q4 r hr
          rw [Int.pow_succ]
          omega
        · rw [q3, g3, Int.pow_succ]
          rw [← Int.mul_assoc, Int.mul_comm, Int.mul_comm 2 (c + 1), ← Int.mul_assoc, Int.mul_comm (2 ^ n) (c + 1), Int.mul_assoc]
          all_goals rfl
/-! all prices together -/
theorem get_put (ps : Rw) (k v j : Int) : getI (putI ps k v) j = if j = k then v else getI ps j := by
  unfold putI
  by_cases h : (ps.any fun p => decide (p.1 = k)) = true
  · rw [if_pos h]
    unfold getI
    by_cases e : j = k
    · subst e
      rw [if_pos rfl]
      induction ps with
      | nil => simp at h
      | cons p r ih =>
        rw [List.map_cons, List.find?_cons]
        by_cases z : p.1 = j
        · simp [z]
        · simp only [z, if_false, decide_false]
          refine ih ?_
          simpa [z] using h
    · rw [if_neg e]
      induction ps with
      | nil => simp at h
      | cons p r ih =>
        rw [List.map_cons, List.find?_cons, List.find?_cons]
        by_cases z : p.1 = k
        · have z2 : ¬ p.1 = j := fun y => e (by rw [← y, z])
          have z3 : ¬ k = j := fun y => e y.symm
          simp only [z, if_true, z3, decide_false]
          by_cases h2 : (r.any fun p => decide (p.1 = k)) = true
          · exact ih h2
          · have : r.map (fun p => if p.1 = k then (p.1, v) else p) = r := by
              conv => rhs; rw [← List.map_id r]
              refine List.map_congr_left fun q hq => ?_
              rw [if_neg]
              · rfl
              · intro y
                exact h2 (List.any_eq_true.mpr ⟨q, hq, by simpa using y⟩)
            rw [this]
        · simp only [z, if_false]
          by_cases y : p.1 = j
          · simp [y]
          · simp only [y, decide_false]
            refine ih ?_
            simpa [z] using h
  · rw [if_neg h]
    unfold getI
    rw [List.find?_append]
    have hn : ps.find? (fun p => decide (p.1 = k)) = none := by
      rw [List.find?_eq_none]
      intro p hp y
      exact h (List.any_eq_true.mpr ⟨p, hp, y⟩)
    by_cases e : j = k
    · subst e
      rw [hn]
      simp
    · have z : ¬ k = j := fun y => e y.symm
      simp [e, z]
theorem put_keys (ps : Rw) (k v : Int) : ((putI ps k v).map (·.1)) = if k ∈ ps.map (·.1) then ps.map (·.1) else ps.map (·.1) ++ [k] := by
  unfold putI
  have hb : (ps.any fun p => decide (p.1 = k)) = true ↔ k ∈ ps.map (·.1) := by
    simp
  by_cases h : (ps.any fun p => decide (p.1 = k)) = true
  · rw [if_pos h, if_pos (hb.mp h), List.map_map]
    refine List.map_congr_left fun q _ => ?_
    simp only [Function.comp]
    split <;> rfl
  · rw [if_neg h, if_neg (fun z => h (hb.mpr z))]
    simp
/-- how many cost k -/
def at1 (l : Rw) (k : Int) : Int := tot (l.filter fun r => decide (r.1 = k))
theorem fold_get : ∀ (l ps : Rw) (k : Int), getI (l.foldl addP ps) k = getI ps k + at1 l k
  | [], ps, k => by simp [at1]
  | p :: r, ps, k => by
    rw [List.foldl_cons, fold_get r (addP ps p) k]
    unfold addP
    rw [get_put]
    unfold at1
    by_cases e : k = p.1
    · subst e
      simp
      omega
    · have e2 : ¬ p.1 = k := fun z => e z.symm
      simp [e, e2]
theorem fold_nodup : ∀ (l ps : Rw), (ps.map (·.1)).Nodup → ((l.foldl addP ps).map (·.1)).Nodup
  | [], ps, h => h
  | p :: r, ps, h => by
    rw [List.foldl_cons]
    refine fold_nodup r _ ?_
    unfold addP
    rw [put_keys]
    split
    · exact h
    · rename_i z
      rw [List.nodup_append]
      exact ⟨h, by simp, fun a ha b hb => by
        simp at hb
        rw [hb]
        exact fun y => z (by rw [← y]; exact ha)⟩
theorem fold_keys : ∀ (l ps : Rw) (k : Int), k ∈ (l.foldl addP ps).map (·.1) ↔ k ∈ ps.map (·.1) ∨ k ∈ l.map (·.1)
  | [], ps, k => by simp
  | p :: r, ps, k => by
    rw [List.foldl_cons, fold_keys r _ k]
    unfold addP
    rw [put_keys]
    by_cases z : p.1 ∈ ps.map (·.1)
    · rw [if_pos z, List.map_cons, List.mem_cons]
      constructor
      · rintro (h | h)
        · exact .inl h
        · exact .inr (.inr h)
      · rintro (h | h | h)
        · exact .inl h
        · rw [h]
          exact .inl z
        · exact .inr h
    · rw [if_neg z, List.map_cons, List.mem_cons, List.mem_append, List.mem_singleton]
      constructor
      · rintro ((h | h) | h)
        · exact .inl h
        · exact .inr (.inl h)
        · exact .inr (.inr h)
      · rintro (h | h | h)
        · exact .inl (.inl h)
        · exact .inl (.inr h)
        · exact .inr h
theorem mem_get {ps : Rw} (h : (ps.map (·.1)).Nodup) {p : Int × Int} (hp : p ∈ ps) : p.2 = getI ps p.1 := by
  unfold getI
  induction ps with
  | nil => cases hp
  | cons q r ih =>
    rw [List.map_cons, List.nodup_cons] at h
    rw [List.find?_cons]
    rcases List.mem_cons.mp hp with z | z
    · subst z
      simp
    · have : ¬ q.1 = p.1 := fun y => h.1 (by rw [y]; exact List.mem_map.mpr ⟨p, z, rfl⟩)
      simp only [this, decide_false]
      exact ih h.2 z
theorem tot_perm {A B : Rw} (h : A.Perm B) : tot A = tot B := by
  induction h with
  | nil => rfl
  | cons x _ ih => simp [ih]
  | swap x y l =>
    simp
    omega
  | trans _ _ ih1 ih2 => rw [ih1, ih2]
theorem put_tot {ps : Rw} (h : (ps.map (·.1)).Nodup) (k v : Int) : tot (putI ps k (getI ps k + v)) = tot ps + v := by
  unfold putI
  by_cases z : (ps.any fun p => decide (p.1 = k)) = true
  · rw [if_pos z]
    induction ps with
    | nil => simp at z
    | cons q r ih =>
      rw [List.map_cons, List.nodup_cons] at h
      rw [List.map_cons]
      by_cases y : q.1 = k
      · have hn : r.map (fun p => if p.1 = k then (p.1, getI (q :: r) k + v) else p) = r := by
          conv => rhs; rw [← List.map_id r]
          refine List.map_congr_left fun p hp => ?_
          rw [if_neg]
          · rfl
          · intro u
            exact h.1 (by rw [y, ← u]; exact List.mem_map.mpr ⟨p, hp, rfl⟩)
        rw [if_pos y, hn]
        have hg : getI (q :: r) k = q.2 := by
          unfold getI
          simp [y]
        rw [hg]
        simp
        omega
      · have hg : getI (q :: r) k = getI r k := by
          unfold getI
          rw [List.find?_cons]
          simp [y]
        have h2 : (r.any fun p => decide (p.1 = k)) = true := by simpa [y] using z
        rw [if_neg y, hg, tot_cons, ih h.2 h2]
        simp
        omega
  · rw [if_neg z, tot_app]
    have hg : getI ps k = 0 := by
      unfold getI
      have hn : ps.find? (fun p => decide (p.1 = k)) = none := by
        rw [List.find?_eq_none]
        intro p hp y
        exact z (List.any_eq_true.mpr ⟨p, hp, y⟩)
      rw [hn]
      rfl
    rw [hg]
    simp
theorem fold_tot : ∀ (l ps : Rw), (ps.map (·.1)).Nodup → tot (l.foldl addP ps) = tot ps + tot l
  | [], ps, h => by simp
  | p :: r, ps, h => by
    rw [List.foldl_cons, fold_tot r (addP ps p) (fold_nodup [p] ps h)]
    unfold addP
    rw [put_tot h]
    simp
    omega
theorem sortP_asc {ps : Rw} (h : (ps.map (·.1)).Nodup) : Asc (sortP ps) := by
  have h1 := sortP_sorted ps
  have h2 : ((sortP ps).map (·.1)).Nodup := ((sortP_perm ps).map _).nodup_iff.mpr h
  have h3 : (sortP ps).Pairwise fun a b => a.1 ≠ b.1 := List.pairwise_map.mp h2
  unfold Asc
  refine (h1.and h3).imp fun {a b} hab => ?_
  obtain ⟨x, y⟩ := hab
  unfold leP at x
  omega
/-- the rows of all prices of some lists -/
theorem TT_ok {ls : List Rw} {m : Int} (h1 : at1 ls.flatten 1 = 1) (h2 : ∀ r ∈ ls.flatten, 1 ≤ r.2 ∧ 1 ≤ r.1 ∧ r.1 ≤ m ∧ (r.1 ≠ 1 → r.1 % 2 = 0)) : Good (TT ls) ∧ tot (TT ls) = tot ls.flatten ∧ ∀ r ∈ TT ls, r.1 ≤ m := by
  have hnd : ((ls.flatten.foldl addP []).map (·.1)).Nodup := fold_nodup _ _ (by simp)
  have hp := sortP_perm (ls.flatten.foldl addP [])
  have hm : ∀ r, r ∈ TT ls ↔ r ∈ ls.flatten.foldl addP [] := fun r => hp.mem_iff
  have hk : ∀ r ∈ TT ls, r.1 ∈ ls.flatten.map (·.1) := fun r hr => by
    have := (fold_keys ls.flatten [] r.1).mp (List.mem_map.mpr ⟨r, (hm r).mp hr, rfl⟩)
    simpa using this
  have hv : ∀ r ∈ TT ls, r.2 = at1 ls.flatten r.1 := fun r hr => by
    rw [mem_get hnd ((hm r).mp hr), fold_get]
    simp [getI]
  have hasc : Asc (TT ls) := sortP_asc hnd
  have hlow : ∀ r ∈ TT ls, 1 ≤ r.1 ∧ r.1 ≤ m ∧ (r.1 ≠ 1 → r.1 % 2 = 0) := fun r hr => by
    obtain ⟨q, hq, e⟩ := List.mem_map.mp (hk r hr)
    rw [← e]
    exact (h2 q hq).2
  have hpos : ∀ r ∈ TT ls, 1 ≤ r.2 := fun r hr => by
    obtain ⟨q, hq, e⟩ := List.mem_map.mp (hk r hr)
    rw [hv r hr]
    unfold at1
    have hq2 : q ∈ ls.flatten.filter fun x => decide (x.1 = r.1) := List.mem_filter.mpr ⟨hq, by simpa using e⟩
    have hW : ∀ x ∈ ls.flatten.filter (fun x => decide (x.1 = r.1)), 1 ≤ x.2 := fun x hx => (h2 x (List.mem_filter.mp hx).1).1
    generalize ls.flatten.filter (fun x => decide (x.1 = r.1)) = W at hq2 hW ⊢
    obtain ⟨A, B, rfl⟩ := List.append_of_mem hq2
    have a1 := tot_pos (S := A) fun x hx => hW x (by simp [hx])
    have a2 := tot_pos (S := B) fun x hx => hW x (by simp [hx])
    have a3 := hW q (by simp)
    rw [tot_app, tot_cons]
    omega
  -- the first one
  have h1m : (1 : Int) ∈ ls.flatten.map (·.1) := by
    have hne : ls.flatten.filter (fun r => decide (r.1 = 1)) ≠ [] := fun e => by
      unfold at1 at h1
      rw [e] at h1
      cases h1
    obtain ⟨q, hq⟩ := List.exists_mem_of_ne_nil _ hne
    obtain ⟨hq1, hq2⟩ := List.mem_filter.mp hq
    exact List.mem_map.mpr ⟨q, hq1, by simpa using hq2⟩
  obtain ⟨p, hp1, hp2⟩ := List.mem_map.mp ((fold_keys ls.flatten [] 1).mpr (.inr h1m))
  have hpT : p ∈ TT ls := (hm p).mpr hp1
  have hp3 : p = (1, 1) := by
    have := hv p hpT
    rw [hp2, h1] at this
    exact Prod.ext hp2 this
  have hhead : (TT ls)[0]? = some (1, 1) := by
    cases hT : TT ls with
    | nil => rw [hT] at hpT; cases hpT
    | cons a r =>
      rw [hT] at hpT hasc hlow
      rcases List.mem_cons.mp hpT with z | z
      · rw [← z, hp3]
        rfl
      · have := (List.pairwise_cons.mp hasc).1 p z
        have := (hlow a (by simp)).1
        omega
  refine ⟨⟨hhead, hasc, hpos, fun i r hi h => ?_⟩, ?_, fun r hr => (hlow r hr).2.1⟩
  · refine (hlow r (List.mem_of_getElem? hi)).2.2 ?_
    have := hasc.lt hhead hi (by omega)
    simp at this
    omega
  · have := tot_perm hp
    unfold TT
    rw [this, fold_tot _ _ (by simp)]
    simp
end Lw

set_option Elab.async false
set_option linter.all false
set_option maxRecDepth 100000
set_option maxHeartbeats 4000000
namespace Lw
open PySem PySem.Spec PyProof.Rows L2 Evl DL
def beside (x : Str) (c e : Int) : Option Rw :=
  if x = "into" then (lst c (e - 1).toNat).map fun l => l.getLast?.getD []
  else if x = "whole" then (lst c e.toNat).map fun l => l.getLast?.getD []
  else if e = 0 then some (TT [A1 c]) else (lst c (e - 1).toNat).map fun l => TT (A1 c :: l.map dbl)
theorem dbl_tot (R : Rw) : tot (dbl R) = tot R := by
  unfold dbl tot
  rw [List.map_map]
  rfl
theorem flat_tot (a : Int) : ∀ (L : List Rw) (k : Nat), (∀ (i : Nat) (R : Rw), L[i]? = some R → tot R = a * 2 ^ (i + k)) → tot (L.map dbl).flatten + a * 2 ^ k = a * 2 ^ (k + L.length)
  | [], k, h => by simp
  | R :: r, k, h => by
    have h0 := h 0 R rfl
    have ih := flat_tot a r (k + 1) fun i R hR => by
      have := h (i + 1) R (by simpa using hR)
      rw [this]
      congr 2
      omega
    rw [List.map_cons, List.flatten_cons, tot_app, dbl_tot, h0]
    have e1 : k + (R :: r).length = k + 1 + r.length := by simp; omega
    rw [e1, ← ih, Int.pow_succ, Nat.zero_add, ← Int.mul_assoc]
    omega
theorem flat_len {B : Nat} : ∀ (L : List Rw), (∀ R ∈ L, R.length ≤ B) → (L.map dbl).flatten.length ≤ L.length * B
  | [], _ => by simp
  | R :: r, h => by
    have h1 := h R (by simp)
    have h2 := flat_len r fun q hq => h q (by simp [hq])
    rw [List.map_cons, List.flatten_cons, List.length_append, List.length_cons, Nat.add_mul]
    simp only [dbl, List.length_map] at h2 ⊢
    omega
theorem at1_app (A B : Rw) (k : Int) : at1 (A ++ B) k = at1 A k + at1 B k := by
  unfold at1
  rw [List.filter_append, tot_app]
theorem at1_none {A : Rw} {k : Int} (h : ∀ r ∈ A, r.1 ≠ k) : at1 A k = 0 := by
  unfold at1
  rw [List.filter_eq_nil_iff.mpr fun r hr => by simpa using h r hr]
  rfl
theorem A1_at {c : Int} : at1 (A1 c) 1 = 1 := by
  unfold A1 at1
  split <;> simp [tot]
section
variable {Z : Cs} {os : Os}
theorem pow_mono {a b : Nat} (h : a ≤ b) : (2 : Int) ^ a ≤ 2 ^ b := by
  have h0 : (2 : Nat) ^ a ≤ 2 ^ b := Nat.pow_le_pow_right (by decide) h
  exact_mod_cast h0
theorem pr_of {x : Str} {c e : Int} {R : Rw} (ht : Tidy os) (hk : Kd x) (hc : 0 ≤ c) (he : low x ≤ e) (h : m_rows_beside Z [.d (.str x), .d (.int c), .d (.int e)] os = some (encR R, os)) : m_rows_beside Z [.d (.str x), .d (.int c), .d (.int e)] os = some (encR R, os) := h
theorem prices_ok {x : Str} {c e : Int} (ht : Tidy os) (hk : Kd x) (hc : 0 ≤ c) (he : low x ≤ e) (he2 : e ≤ 12) :
    ∃ R, beside x c e = some R ∧ m_rows_beside Z [.d (.str x), .d (.int c), .d (.int e)] os = some (encR R, os) ∧ Good R ∧ tot R = (c + 1) * 2 ^ (e - low x).toNat ∧ ∀ r ∈ R, r.1 ≤ 2 ^ ((e - low x).toNat + 1) := by
  have e1 : ¬ ("over" : Str) = "into" := by decide +kernel
  have e2 : ¬ ("whole" : Str) = "into" := by decide +kernel
  have e3 : ¬ ("over" : Str) = "whole" := by decide +kernel
  have e4 : ¬ ("into" : Str) = "whole" := by decide +kernel
  rcases hk with rfl | rfl | rfl
  · have hl : low "over" = 0 := by unfold low; rw [if_neg e1]
    rw [hl] at he
    by_cases hz : e = 0
    · subst hz
      obtain ⟨g1, g2, g3⟩ := A1_good hc
      have hf : [A1 c].flatten = A1 c := by simp
      obtain ⟨q1, q2, q3⟩ := TT_ok (ls := [A1 c]) (m := 2) (by rw [hf]; exact A1_at) (fun r hr => by
        rw [hf] at hr
        refine ⟨g1.pos r hr, g1.ge hr, g2 r hr, fun h => ?_⟩
        have := g1.ge hr
        have := g2 r hr
        omega)
      refine ⟨TT [A1 c], ?_, pr_of ht (.inl rfl) hc (by rw [hl]; omega) (beside_over0 ht), q1, ?_, fun r hr => ?_⟩
      · unfold beside
        rw [if_neg e1, if_neg e3, if_pos rfl]
      · rw [q2, hf, g3, hl]
        simp
      · have := q3 r hr
        rw [hl]
        simpa using this
    · obtain ⟨n, rfl⟩ : ∃ n : Nat, e = (n : Int) + 1 := ⟨(e - 1).toNat, by omega⟩
      obtain ⟨T, hT⟩ := lst_ok hc n (by omega)
      have hin : ∀ R ∈ A1 c :: T, Good R ∧ (∀ r ∈ R, r.1 ≤ 2 ^ (n + 1)) := fun R hR => by
        obtain ⟨i, hi, rfl⟩ := List.getElem_of_mem hR
        obtain ⟨a1, a2, a3⟩ := hT.all i _ (List.getElem?_eq_getElem hi)
        refine ⟨a1, fun r hr => Int.le_trans (a2 r hr) (pow_mono ?_)⟩
        have := hT.len
        simp at hi
        omega
      have hp14 : (2 : Int) ^ (n + 1) ≤ 2 ^ 13 := pow_mono (by omega)
      have hlen : ∀ R ∈ A1 c :: T, R.length ≤ 10000 := fun R hR => by
        obtain ⟨a1, a2⟩ := hin R hR
        have := asc_len a1.asc 1 (2 ^ (n + 1)) (fun r hr => a1.ge hr) a2 (by have := pow_mono (Nat.zero_le (n + 1)); omega)
        omega
      have hA1 : (A1 c).length ≤ 2 := by unfold A1; split <;> simp
      have hfl := flat_len (A1 c :: T) hlen
      have hcl : (A1 c :: T).length = n + 1 := by simp [hT.len]
      have hz2 : (A1 c :: (A1 c :: T).map dbl).flatten.length < 16777216 := by
        rw [List.flatten_cons, List.length_append]
        rw [hcl] at hfl
        have : (n + 1) * 10000 ≤ 13 * 10000 := Nat.mul_le_mul_right _ (by omega)
        omega
      have hb := beside_over (Z := Z) ht hT.ch (by have := hT.len; omega) hz2 (fun R hR p hp => by
        obtain ⟨a1, a2⟩ := hin R hR
        have := a1.ge hp
        have := a2 p hp
        have : (2 : Nat) ^ 100 > 10000 := by decide
        omega)
      rw [hT.len] at hb
      obtain ⟨g1, g2, g3⟩ := A1_good hc
      have hmem : ∀ r ∈ (A1 c :: (A1 c :: T).map dbl).flatten, r ∈ A1 c ∨ ∃ R ∈ A1 c :: T, ∃ q ∈ R, r = (2 * q.1, q.2) := fun r hr => by
        rw [List.flatten_cons, List.mem_append] at hr
        rcases hr with hr | hr
        · exact .inl hr
        · right
          obtain ⟨L, hL, hrL⟩ := List.mem_flatten.mp hr
          obtain ⟨R, hR, rfl⟩ := List.mem_map.mp hL
          obtain ⟨q, hq, e⟩ := List.mem_map.mp hrL
          exact ⟨R, hR, q, hq, e.symm⟩
      obtain ⟨q1, q2, q3⟩ := TT_ok (ls := A1 c :: (A1 c :: T).map dbl) (m := 2 ^ (n + 2)) (by
        rw [List.flatten_cons, at1_app, A1_at, at1_none]
        · rfl
        · intro r hr
          obtain ⟨L, hL, hrL⟩ := List.mem_flatten.mp hr
          obtain ⟨R, hR, rfl⟩ := List.mem_map.mp hL
          obtain ⟨q, hq, e⟩ := List.mem_map.mp hrL
          rw [← e]
          simp only
          omega) (fun r hr => by
        rcases hmem r hr with h | ⟨R, hR, q, hq, rfl⟩
        · refine ⟨g1.pos r h, g1.ge h, ?_, fun y => ?_⟩
          · have := g2 r h
            have : (2 : Int) ^ 1 ≤ 2 ^ (n + 2) := pow_mono (by omega)
            omega
          · have := g1.ge h
            have := g2 r h
            omega
        · obtain ⟨a1, a2⟩ := hin R hR
          have b1 := a1.ge hq
          have b2 := a2 q hq
          have b3 := a1.pos q hq
          have b4 : (2 : Int) ^ (n + 2) = 2 ^ (n + 1) * 2 := Int.pow_succ ..
          simp only
          omega)
      have hft := flat_tot (c + 1) (A1 c :: T) 0 fun i R hR => (hT.all i R hR).2.2
      refine ⟨_, ?_, pr_of ht (.inl rfl) hc (by rw [hl]; omega) hb, q1, ?_, fun r hr => ?_⟩
      · have h5 : ((n : Int) + 1 - 1).toNat = n := by omega
        have h6 : ¬ (n : Int) + 1 = 0 := by omega
        unfold beside
        rw [if_neg e1, if_neg e3, if_neg h6, h5, hT.l]
        rfl
      · rw [q2, List.flatten_cons, tot_app, g3, hl]
        have h5 : ((n : Int) + 1 - 0).toNat = 0 + (A1 c :: T).length := by rw [hcl]; omega
        rw [h5, ← hft]
        simp
        omega
      · have h3 := q3 r hr
        have h5 : ((n : Int) + 1 - 0).toNat + 1 = n + 2 := by omega
        rw [hl, h5]
        exact h3
  · have hl : low "into" = 1 := by unfold low; rw [if_pos rfl]
    rw [hl] at he
    obtain ⟨n, rfl⟩ : ∃ n : Nat, e = (n : Int) + 1 := ⟨(e - 1).toNat, by omega⟩
    obtain ⟨T, hT⟩ := lst_ok hc n (by omega)
    obtain ⟨a1, a2, a3⟩ := hT.all _ _ lastR_get
    have hb := beside_into (Z := Z) ht hT.ch (by have := hT.len; omega)
    rw [hT.len] at hb a2 a3
    have h5 : ((n : Int) + 1 - 1).toNat = n := by omega
    refine ⟨_, ?_, pr_of ht (.inr (.inl rfl)) hc (by rw [hl]; omega) hb, a1, ?_, fun r hr => ?_⟩
    · unfold beside
      rw [if_pos rfl, h5, hT.l, Option.map_some, getLast_lastR]
    · rw [hl, h5]
      exact a3
    · rw [hl, h5]
      exact a2 r hr
  · have hl : low "whole" = 0 := by unfold low; rw [if_neg e2]
    rw [hl] at he
    obtain ⟨n, rfl⟩ : ∃ n : Nat, e = (n : Int) := ⟨e.toNat, by omega⟩
    obtain ⟨T, hT⟩ := lst_ok hc n (by omega)
    obtain ⟨a1, a2, a3⟩ := hT.all _ _ lastR_get
    have hb := beside_whole (Z := Z) ht hT.ch (by have := hT.len; omega)
    rw [hT.len] at hb a2 a3
    have h5 : ((n : Int) - 0).toNat = n := by omega
    refine ⟨_, ?_, pr_of ht (.inr (.inr rfl)) hc (by rw [hl]; omega) hb, a1, ?_, fun r hr => ?_⟩
    · unfold beside
      rw [if_neg e2, if_pos rfl, Int.toNat_natCast, hT.l, Option.map_some, getLast_lastR]
    · rw [hl, h5]
      exact a3
    · rw [hl, h5]
      exact a2 r hr
end
end Lw

set_option Elab.async false
set_option linter.all false
set_option maxRecDepth 100000
set_option maxHeartbeats 4000000
namespace Lw
open PySem PySem.Spec PyProof.Rows L2 Evl DL
theorem lb_s {S R : Rw} {f : Nat} {wk wr ws : Wk} {p : Int} {x : Int × Wk} {y : Int × Wk × Wk} (h1 : gp1 S 1000000 wk p 0 = some x) (h2 : gp2 R S 1000000 wr ws p 0 = some y) (h3 : R.length < 16777216) : lb S (f + 1) R wk wr ws (some p) =
        lb S f (R ++ [(p, x.1 + y.1)]) x.2 y.2.1 y.2.2 (mn (next1 S x.2) (next2 (R ++ [(p, x.1 + y.1)]) S y.2.1 y.2.2)) := by
  conv => lhs; unfold lb
  simp only
  rw [h1, Option.bind_some, h2, Option.bind_some, if_pos h3]
theorem lb_n {S R : Rw} {f : Nat} {wk wr ws : Wk} : lb S (f + 1) R wk wr ws none = some R := id rfl
section
variable {f : Nat} {c : Int}
theorem LB2 (h : 1 ≤ c) : LB [(1, 1), (2, c)] = some [(1, 1), (2, c + 1), (4, c)] := by
  have c0 : ¬ c = 0 := by omega
  have c1 : ¬ c + 1 < c := by omega
  have c2 : c < c + 1 := by omega
  have c3 : ¬ c + 1 - c = 0 := by omega
  have a1 : ∀ f, gp1 [(1, 1), (2, c)] (f + 5) ⟨0, 0⟩ 1 0 = some (1, ⟨1, 0⟩) := fun f => by
    simp -implicitDefEqProofs [gp1, next1, goOn, left]
  have a2 : ∀ f, gp2 [] [(1, 1), (2, c)] (f + 5) ⟨0, 0⟩ ⟨0, 0⟩ 1 0 = some (0, ⟨0, 0⟩, ⟨0, 0⟩) := fun f => by
    simp -implicitDefEqProofs [gp2, next2]
  have a3 : ∀ f, gp1 [(1, 1), (2, c)] (f + 5) ⟨1, 0⟩ 2 0 = some (c, ⟨2, 0⟩) := fun f => by
    simp -implicitDefEqProofs [gp1, next1, goOn, left]
  have a4 : ∀ f, gp2 [(1, 1)] [(1, 1), (2, c)] (f + 5) ⟨0, 0⟩ ⟨0, 0⟩ 2 0 = some (1, ⟨1, 0⟩, ⟨1, 0⟩) := fun f => by
    simp -implicitDefEqProofs [gp2, next2, goOn, left, min2]
  have a5 : ∀ f, gp1 [(1, 1), (2, c)] (f + 5) ⟨2, 0⟩ 4 0 = some (0, ⟨2, 0⟩) := fun f => by
    simp -implicitDefEqProofs [gp1, next1, goOn, left]
  have a6 : ∀ f, gp2 [(1, 1), (2, c + 1)] [(1, 1), (2, c)] (f + 5) ⟨1, 0⟩ ⟨1, 0⟩ 4 0 = some (c, ⟨1, c⟩, ⟨2, 0⟩) := fun f => by
    simp -implicitDefEqProofs [gp2, next2, goOn, left, min2, c0, c1, c2, c3]
  have n0 : next1 [(1, 1), (2, c)] ⟨0, 0⟩ = some 1 := by simp [next1]
  have run : ∀ f, lb [(1, 1), (2, c)] (f + 5) [] ⟨0, 0⟩ ⟨0, 0⟩ ⟨0, 0⟩ (some 1) = some [(1, 1), (2, c + 1), (4, c)] := fun f => by
    rw [lb_s (a1 999995) (a2 999995) (by simp)]
    have e1 : mn (next1 [(1, 1), (2, c)] ⟨1, 0⟩) (next2 ([] ++ [(1, 1 + 0)]) [(1, 1), (2, c)] ⟨0, 0⟩ ⟨0, 0⟩) = some 2 := by simp [next1, next2, mn, min2]
    simp only
    rw [e1]
    have e2 : ([] ++ [(1, 1 + 0)] : Rw) = [(1, 1)] := rfl
    rw [e2, lb_s (a3 999995) (a4 999995) (by simp)]
    have e3 : mn (next1 [(1, 1), (2, c)] ⟨2, 0⟩) (next2 ([(1, 1)] ++ [(2, c + 1)]) [(1, 1), (2, c)] ⟨1, 0⟩ ⟨1, 0⟩) = some 4 := by simp [next1, next2, mn, min2]
    simp only
    rw [e3]
    have e4 : ([(1, 1)] ++ [(2, c + 1)] : Rw) = [(1, 1), (2, c + 1)] := rfl
    rw [e4, lb_s (a5 999995) (a6 999995) (by simp)]
    have e5 : mn (next1 [(1, 1), (2, c)] ⟨2, 0⟩) (next2 ([(1, 1), (2, c + 1)] ++ [(4, 0 + c)]) [(1, 1), (2, c)] ⟨1, c⟩ ⟨2, 0⟩) = none := by simp [next1, next2, mn]
    simp only
    rw [e5, lb_n]
    simp
  unfold LB
  rw [n0]
  exact run 999995
/-- the third list -/
def A3 (c : Int) : Rw := [(1, 1), (2, c + 2), (4, 2 * c + 1), (6, 1)] ++ if c = 1 then [] else [(8, c - 1)]
theorem LB3 (h : 1 ≤ c) : LB [(1, 1), (2, c + 1), (4, c)] = some (A3 c) := by
  have c0 : ¬ c = 0 := by omega
  have c1 : ¬ c + 1 = 0 := by omega
  have c4 : c + 1 < c + 2 := by omega
  have c5 : ¬ c + 2 - (c + 1) = 0 := by omega
  have c6 : c + 2 - (c + 1) = 1 := by omega
  have c7 : c + 2 - (c + 1 + 1) = 0 := by omega
  have a1 : ∀ f, gp1 [(1, 1), (2, c + 1), (4, c)] (f + 5) ⟨0, 0⟩ 1 0 = some (1, ⟨1, 0⟩) := fun f => by
    simp -implicitDefEqProofs [gp1, next1, goOn, left]
  have a2 : ∀ f, gp2 [] [(1, 1), (2, c + 1), (4, c)] (f + 5) ⟨0, 0⟩ ⟨0, 0⟩ 1 0 = some (0, ⟨0, 0⟩, ⟨0, 0⟩) := fun f => by
    simp -implicitDefEqProofs [gp2, next2]
  have a3 : ∀ f, gp1 [(1, 1), (2, c + 1), (4, c)] (f + 5) ⟨1, 0⟩ 2 0 = some (c + 1, ⟨2, 0⟩) := fun f => by
    simp -implicitDefEqProofs [gp1, next1, goOn, left]
  have a4 : ∀ f, gp2 [(1, 1)] [(1, 1), (2, c + 1), (4, c)] (f + 5) ⟨0, 0⟩ ⟨0, 0⟩ 2 0 = some (1, ⟨1, 0⟩, ⟨1, 0⟩) := fun f => by
    simp -implicitDefEqProofs [gp2, next2, goOn, left, min2]
  have a5 : ∀ f, gp1 [(1, 1), (2, c + 1), (4, c)] (f + 5) ⟨2, 0⟩ 4 0 = some (c, ⟨3, 0⟩) := fun f => by
    simp -implicitDefEqProofs [gp1, next1, goOn, left]
  have a6 : ∀ f, gp2 [(1, 1), (2, c + 2)] [(1, 1), (2, c + 1), (4, c)] (f + 5) ⟨1, 0⟩ ⟨1, 0⟩ 4 0 = some (c + 1, ⟨1, c + 1⟩, ⟨2, 0⟩) := fun f => by
    simp -implicitDefEqProofs [gp2, next2, goOn, left, min2, c4, c5]
  have a7 : ∀ (p : Int) f, gp1 [(1, 1), (2, c + 1), (4, c)] (f + 5) ⟨3, 0⟩ p 0 = some (0, ⟨3, 0⟩) := fun p f => by
    simp -implicitDefEqProofs [gp1, next1, goOn, left]
  have n0 : next1 [(1, 1), (2, c + 1), (4, c)] ⟨0, 0⟩ = some 1 := by simp [next1]
  have run : ∀ f, lb [(1, 1), (2, c + 1), (4, c)] (f + 6) [] ⟨0, 0⟩ ⟨0, 0⟩ ⟨0, 0⟩ (some 1) = some (A3 c) := fun f => by
    rw [lb_s (a1 999995) (a2 999995) (by simp)]
    have e1 : mn (next1 [(1, 1), (2, c + 1), (4, c)] ⟨1, 0⟩) (next2 ([] ++ [(1, 1 + 0)]) [(1, 1), (2, c + 1), (4, c)] ⟨0, 0⟩ ⟨0, 0⟩) = some 2 := by simp [next1, next2, mn, min2]
    simp only
    rw [e1]
    have e2 : ([] ++ [(1, 1 + 0)] : Rw) = [(1, 1)] := rfl
    rw [e2, lb_s (a3 999995) (a4 999995) (by simp)]
    have e4 : ([(1, 1)] ++ [(2, c + 1 + 1)] : Rw) = [(1, 1), (2, c + 2)] := by simp; omega
    have e3 : mn (next1 [(1, 1), (2, c + 1), (4, c)] ⟨2, 0⟩) (next2 [(1, 1), (2, c + 2)] [(1, 1), (2, c + 1), (4, c)] ⟨1, 0⟩ ⟨1, 0⟩) = some 4 := by simp [next1, next2, mn, min2]
    simp only
    rw [e4, e3, lb_s (a5 999995) (a6 999995) (by simp)]
    have e6 : ([(1, 1), (2, c + 2)] ++ [(4, c + (c + 1))] : Rw) = [(1, 1), (2, c + 2), (4, 2 * c + 1)] := by simp; omega
    have e5 : mn (next1 [(1, 1), (2, c + 1), (4, c)] ⟨3, 0⟩) (next2 [(1, 1), (2, c + 2), (4, 2 * c + 1)] [(1, 1), (2, c + 1), (4, c)] ⟨1, c + 1⟩ ⟨2, 0⟩) = some 6 := by simp [next1, next2, mn]
    simp only
    rw [e6, e5]
    unfold A3
    by_cases h1 : c = 1
    · subst h1
      have b1 : ∀ f, gp2 [(1, 1), (2, 1 + 2), (4, 2 * 1 + 1)] [(1, 1), (2, 1 + 1), (4, 1)] (f + 5) ⟨1, 1 + 1⟩ ⟨2, 0⟩ 6 0 = some (1, ⟨2, 0⟩, ⟨3, 0⟩) := fun f => by
        simp -implicitDefEqProofs [gp2, next2, goOn, left, min2]
      rw [lb_s (a7 6 999995) (b1 999995) (by simp)]
      have e7 : mn (next1 [(1, 1), (2, 1 + 1), (4, 1)] ⟨3, 0⟩) (next2 ([(1, 1), (2, 1 + 2), (4, 2 * 1 + 1)] ++ [(6, 0 + 1)]) [(1, 1), (2, 1 + 1), (4, 1)] ⟨2, 0⟩ ⟨3, 0⟩) = none := by simp [next1, next2, mn]
      simp only
      rw [e7, lb_n]
      simp
    · have d1 : 1 < c := by omega
      have d2 : ¬ c < 1 := by omega
      have d3 : ¬ c - 1 = 0 := by omega
      have d4 : c - 1 < 2 * c + 1 := by omega
      have d5 : ¬ 2 * c + 1 - (c - 1) = 0 := by omega
      have b1 : ∀ f, gp2 [(1, 1), (2, c + 2), (4, 2 * c + 1)] [(1, 1), (2, c + 1), (4, c)] (f + 5) ⟨1, c + 1⟩ ⟨2, 0⟩ 6 0 = some (1, ⟨2, 0⟩, ⟨2, 1⟩) := fun f => by
        simp -implicitDefEqProofs [gp2, next2, goOn, left, min2, c6, c7, d2, d3]
      rw [lb_s (a7 6 999995) (b1 999995) (by simp)]
      have e7 : mn (next1 [(1, 1), (2, c + 1), (4, c)] ⟨3, 0⟩) (next2 ([(1, 1), (2, c + 2), (4, 2 * c + 1)] ++ [(6, 0 + 1)]) [(1, 1), (2, c + 1), (4, c)] ⟨2, 0⟩ ⟨2, 1⟩) = some 8 := by simp [next1, next2, mn]
      have e8 : ([(1, 1), (2, c + 2), (4, 2 * c + 1)] ++ [(6, 0 + 1)] : Rw) = [(1, 1), (2, c + 2), (4, 2 * c + 1), (6, 1)] := rfl
      simp only
      rw [e7, e8]
      have b2 : ∀ f, gp2 [(1, 1), (2, c + 2), (4, 2 * c + 1), (6, 1)] [(1, 1), (2, c + 1), (4, c)] (f + 5) ⟨2, 0⟩ ⟨2, 1⟩ 8 0 = some (c - 1, ⟨2, c - 1⟩, ⟨3, 0⟩) := fun f => by
        have z : (1 : Int) + (c - 1) = c := by omega
        simp -implicitDefEqProofs [gp2, next2, goOn, left, min2, d4, d5, z]
      rw [lb_s (a7 8 999995) (b2 999995) (by simp)]
      have e9 : mn (next1 [(1, 1), (2, c + 1), (4, c)] ⟨3, 0⟩) (next2 ([(1, 1), (2, c + 2), (4, 2 * c + 1), (6, 1)] ++ [(8, 0 + (c - 1))]) [(1, 1), (2, c + 1), (4, c)] ⟨2, c - 1⟩ ⟨3, 0⟩) = none := by simp [next1, next2, mn]
      simp only
      rw [e9, lb_n]
      simp [h1]
  unfold LB
  rw [n0]
  exact run 999994
end
end Lw

set_option Elab.async false
set_option linter.all false
set_option maxRecDepth 100000
set_option maxHeartbeats 4000000
namespace Lw
open PySem PySem.Spec PyProof.Rows L2 Evl DL
section
variable {c : Int} {os : Os}
theorem A1_pos (h : 1 ≤ c) : A1 c = [(1, 1), (2, c)] := by
  unfold A1
  rw [if_pos (by omega)]
theorem lst1 (h : 1 ≤ c) : lst c 1 = some [A1 c, [(1, 1), (2, c + 1), (4, c)]] := by
  unfold lst lst
  rw [Option.bind_some]
  show (LB (A1 c)).map _ = _
  rw [A1_pos h, LB2 h]
  rfl
theorem lst2 (h : 1 ≤ c) : lst c 2 = some [A1 c, [(1, 1), (2, c + 1), (4, c)], A3 c] := by
  unfold lst
  rw [lst1 h, Option.bind_some]
  show (LB [(1, 1), (2, c + 1), (4, c)]).map _ = _
  rw [LB3 h]
  rfl
theorem n_oi : ¬ ("over" : Str) = "into" := by decide +kernel
theorem n_wi : ¬ ("whole" : Str) = "into" := by decide +kernel
theorem n_ow : ¬ ("over" : Str) = "whole" := by decide +kernel
theorem n_iw : ¬ ("into" : Str) = "whole" := by decide +kernel
theorem b_i1 : beside "into" c 1 = some (A1 c) := by
  unfold beside
  rw [if_pos rfl]
  rfl
theorem b_i2 (h : 1 ≤ c) : beside "into" c 2 = some [(1, 1), (2, c + 1), (4, c)] := by
  unfold beside
  rw [if_pos rfl]
  show (lst c 1).map _ = _
  rw [lst1 h]
  rfl
theorem b_i3 (h : 1 ≤ c) : beside "into" c 3 = some (A3 c) := by
  unfold beside
  rw [if_pos rfl]
  show (lst c 2).map _ = _
  rw [lst2 h]
  rfl
theorem b_w0 : beside "whole" c 0 = some (A1 c) := by
  unfold beside
  rw [if_neg n_wi, if_pos rfl]
  rfl
theorem b_w1 (h : 1 ≤ c) : beside "whole" c 1 = some [(1, 1), (2, c + 1), (4, c)] := by
  unfold beside
  rw [if_neg n_wi, if_pos rfl]
  show (lst c 1).map _ = _
  rw [lst1 h]
  rfl
theorem b_o0 (h : 1 ≤ c) : beside "over" c 0 = some [(1, 1), (2, c)] := by
  unfold beside
  rw [if_neg n_oi, if_neg n_ow, if_pos rfl, A1_pos h]
  simp [TT, addP, putI, getI, sortP, insP, leB]
theorem b_o1 (h : 1 ≤ c) : beside "over" c 1 = some [(1, 1), (2, c + 1), (4, c)] := by
  unfold beside
  rw [if_neg n_oi, if_neg n_ow, if_neg (by decide)]
  show some (TT (A1 c :: [A1 c].map dbl)) = _
  rw [A1_pos h]
  simp [TT, addP, putI, getI, sortP, insP, leB, dbl]
theorem b_o2 (h : 1 ≤ c) : beside "over" c 2 = some [(1, 1), (2, c + 2), (4, 2 * c + 1), (8, c)] := by
  unfold beside
  rw [if_neg n_oi, if_neg n_ow, if_neg (by decide)]
  show (lst c 1).map (fun l => TT (A1 c :: l.map dbl)) = _
  rw [lst1 h, Option.map_some, A1_pos h]
  simp [TT, addP, putI, getI, sortP, insP, leB, dbl]
  omega
end
end Lw

set_option Elab.async false
set_option linter.all false
set_option maxRecDepth 100000
set_option maxHeartbeats 4000000
namespace Lw
open PySem PySem.Spec PyProof.Rows L2 Evl DL
/-! rows and the prices that they tell one by one -/
def ex (R : Rw) : List Int := R.flatMap fun p => List.replicate p.2.toNat p.1
@[simp] theorem ex_nil : ex [] = [] := rfl
theorem ex_cons (p : Int × Int) (R : Rw) : ex (p :: R) = List.replicate p.2.toNat p.1 ++ ex R := by simp [ex]
theorem ex_app (R T : Rw) : ex (R ++ T) = ex R ++ ex T := by simp [ex]
def Pos (R : Rw) : Prop := ∀ r ∈ R, 1 ≤ r.2
def Ge1 (R : Rw) : Prop := ∀ r ∈ R, 1 ≤ r.1
theorem Pos.tl {p : Int × Int} {R : Rw} (h : Pos (p :: R)) : Pos R := fun r hr => h r (by simp [hr])
theorem Pos.hd {p : Int × Int} {R : Rw} (h : Pos (p :: R)) : 1 ≤ p.2 := h p (by simp)
theorem Ge1.tl {p : Int × Int} {R : Rw} (h : Ge1 (p :: R)) : Ge1 R := fun r hr => h r (by simp [hr])
theorem Ge1.hd {p : Int × Int} {R : Rw} (h : Ge1 (p :: R)) : 1 ≤ p.1 := h p (by simp)
theorem ex_len : ∀ {R : Rw}, Pos R → ((ex R).length : Int) = tot R
  | [], _ => rfl
  | p :: R, h => by
    have := ex_len h.tl
    have := h.hd
    rw [ex_cons, List.length_append, List.length_replicate, tot_cons]
    omega
def mi (a b : Int) : Int := if b < a then b else a
theorem mi_minL (a b : Int) : minL [a, b] = mi a b := min2 a b
def pAt : Rw → Int → Option Int
  | [], _ => none
  | p :: R, n => if n ≤ p.2 then some p.1 else pAt R (n - p.2)
def sm : Rw → Int → Int
  | [], _ => 0
  | p :: R, n => p.1 * mi p.2 n + sm R (n - mi p.2 n)
def rem : Rw → Int → Int
  | [], n => n
  | p :: R, n => rem R (n - mi p.2 n)
def lw : Rw → Int → Int
  | [], _ => 0
  | p :: R, s => mi p.2 (s / p.1) + lw R (s - p.1 * mi p.2 (s / p.1))
def lgD : List Int → Int → Int
  | [], _ => 0
  | x :: r, s => if x > s then 0 else 1 + lgD r (s - x)
theorem pAt_ex : ∀ {R : Rw} {n : Int}, Pos R → 1 ≤ n → pAt R n = (ex R)[(n - 1).toNat]?
  | [], _, _, _ => rfl
  | p :: R, n, h, hn => by
    have h1 := h.hd
    unfold pAt
    rw [ex_cons]
    by_cases z : n ≤ p.2
    · rw [if_pos z, List.getElem?_append_left (by rw [List.length_replicate]; omega), List.getElem?_replicate, if_pos (by omega)]
    · rw [if_neg z, pAt_ex h.tl (by omega), List.getElem?_append_right (by rw [List.length_replicate]; omega), List.length_replicate]
      congr 1
      omega
theorem rem_ok : ∀ {R : Rw} {n : Int}, Pos R → 0 ≤ n → rem R n = if n ≤ tot R then 0 else n - tot R
  | [], n, _, hn => by
    unfold rem
    rw [tot_nil]
    split <;> omega
  | p :: R, n, h, hn => by
    have h1 := h.hd
    have h2 := tot_pos h.tl
    unfold rem mi
    rw [tot_cons]
    by_cases z : n < p.2
    · rw [if_pos z, rem_ok h.tl (by omega), if_pos (by omega), if_pos (by omega)]
    · rw [if_neg z, rem_ok h.tl (by omega)]
      split
      · rw [if_pos (by omega)]
      · rw [if_neg (by omega)]
        omega
theorem sm_zero : ∀ {R : Rw}, Pos R → sm R 0 = 0
  | [], _ => rfl
  | p :: R, h => by
    have h1 := h.hd
    have e : mi p.2 0 = 0 := by
      unfold mi
      rw [if_pos (by omega)]
    unfold sm
    rw [e]
    simpa using sm_zero h.tl
theorem sm_cons (p : Int × Int) (R : Rw) (n : Int) : sm (p :: R) n = p.1 * mi p.2 n + sm R (n - mi p.2 n) := rfl
theorem lw_cons (p : Int × Int) (R : Rw) (s : Int) : lw (p :: R) s = mi p.2 (s / p.1) + lw R (s - p.1 * mi p.2 (s / p.1)) := rfl
theorem mi_lt {a b : Int} (h : b < a) : mi a b = b := by
  unfold mi
  rw [if_pos h]
theorem mi_ge' {a b : Int} (h : ¬ b < a) : mi a b = a := by
  unfold mi
  rw [if_neg h]
theorem lgD_cons (x : Int) (r : List Int) (s : Int) : lgD (x :: r) s = if x > s then 0 else 1 + lgD r (s - x) := rfl
theorem sum_rep (n : Nat) (x : Int) : (List.replicate n x).sum = n * x := by
  induction n with
  | zero => simp
  | succ n ih =>
    rw [List.replicate_succ, List.sum_cons, ih]
    have : ((n + 1 : Nat) : Int) = (n : Int) + 1 := rfl
    rw [this, Int.add_mul]
    omega
theorem sm_ex : ∀ {R : Rw} {n : Int}, Pos R → 0 ≤ n → n ≤ tot R → sm R n = ((ex R).take n.toNat).sum
  | [], _, _, _, _ => by simp [sm]
  | p :: R, n, h, hn, ht => by
    have h1 := h.hd
    rw [tot_cons] at ht
    unfold sm
    rw [ex_cons, List.take_append, List.length_replicate, List.take_replicate, List.sum_append, sum_rep]
    unfold mi
    by_cases z : n < p.2
    · rw [if_pos z, Int.sub_self, sm_zero h.tl]
      have e1 : n.toNat - p.2.toNat = 0 := by omega
      have e2 : min n.toNat p.2.toNat = n.toNat := by omega
      rw [e1, e2, Int.mul_comm, Int.toNat_of_nonneg hn]
      simp
    · rw [if_neg z, sm_ex h.tl (by omega) (by omega)]
      have e1 : n.toNat - p.2.toNat = (n - p.2).toNat := by omega
      have e2 : min n.toNat p.2.toNat = p.2.toNat := by omega
      rw [e1, e2, Int.mul_comm, Int.toNat_of_nonneg (by omega)]
theorem sm_pos : ∀ {R : Rw} {n : Int}, Pos R → Ge1 R → 0 ≤ n → n ≤ tot R → n ≤ sm R n
  | [], n, _, _, h0, h => by
    rw [tot_nil] at h
    unfold sm
    omega
  | p :: R, n, h, g, hn, ht => by
    have h1 := h.hd
    have g1 := g.hd
    rw [tot_cons] at ht
    unfold sm mi
    by_cases z : n < p.2
    · rw [if_pos z, Int.sub_self, sm_zero h.tl]
      have := Int.mul_le_mul_of_nonneg_right g1 hn
      omega
    · rw [if_neg z]
      have := sm_pos h.tl g.tl (by omega) (show n - p.2 ≤ tot R by omega)
      have := Int.mul_le_mul_of_nonneg_right g1 (show 0 ≤ p.2 by omega)
      omega
theorem lw_less : ∀ {R : Rw} {s : Int}, Pos R → 0 ≤ s → (∀ r ∈ R, s < r.1) → lw R s = 0
  | [], _, _, _, _ => rfl
  | p :: R, s, h, hs, hl => by
    have h1 := h.hd
    have e0 : s / p.1 = 0 := Int.ediv_eq_zero_of_lt hs (hl p (by simp))
    have e : mi p.2 (s / p.1) = 0 := by
      rw [e0]
      unfold mi
      rw [if_pos (by omega)]
    unfold lw
    rw [e, Int.mul_zero, Int.sub_zero, lw_less h.tl hs fun r hr => hl r (by simp [hr])]
    rfl
theorem lw_sm : ∀ {R : Rw} {n : Int}, Pos R → Ge1 R → 0 ≤ n → n ≤ tot R → lw R (sm R n) = n
  | [], n, _, _, h0, h => by
    rw [tot_nil] at h
    unfold lw
    omega
  | p :: R, n, h, g, hn, ht => by
    have h1 := h.hd
    have g1 := g.hd
    rw [tot_cons] at ht
    unfold lw
    by_cases z : n < p.2
    · have e1 : sm (p :: R) n = p.1 * n := by
        unfold sm mi
        rw [if_pos z, Int.sub_self, sm_zero h.tl, Int.add_zero]
      rw [e1, Int.mul_ediv_cancel_left _ (by omega)]
      have e2 : mi p.2 n = n := by
        unfold mi
        rw [if_pos z]
      rw [e2, Int.sub_self]
      have := lw_sm (n := 0) h.tl g.tl (by omega) (tot_pos h.tl)
      rw [sm_zero h.tl] at this
      omega
    · have e1 : sm (p :: R) n = p.1 * p.2 + sm R (n - p.2) := by
        rw [sm_cons, mi_ge' z]
      have q := sm_pos h.tl g.tl (by omega) (show n - p.2 ≤ tot R by omega)
      have e2 : mi p.2 (sm (p :: R) n / p.1) = p.2 := by
        have : p.2 ≤ sm (p :: R) n / p.1 := Int.le_ediv_of_mul_le (by omega) (by rw [e1, Int.mul_comm]; omega)
        unfold mi
        rw [if_neg (by omega)]
      rw [e2, e1]
      have e9 : p.1 * p.2 + sm R (n - p.2) - p.1 * p.2 = sm R (n - p.2) := by omega
      rw [e9]
      have := lw_sm (n := n - p.2) h.tl g.tl (by omega) (by omega)
      omega
theorem lw_sm1 : ∀ {R : Rw} {n : Int}, Pos R → Ge1 R → Asc R → 1 ≤ n → n ≤ tot R → lw R (sm R n - 1) = n - 1
  | [], n, _, _, _, h0, h => by
    rw [tot_nil] at h
    omega
  | p :: R, n, h, g, a, hn, ht => by
    have h1 := h.hd
    have g1 := g.hd
    have a2 := List.pairwise_cons.mp a
    rw [tot_cons] at ht
    unfold lw
    by_cases z : n ≤ p.2
    · have e1 : sm (p :: R) n = p.1 * n := by
        unfold sm mi
        by_cases y : n < p.2
        · rw [if_pos y, Int.sub_self, sm_zero h.tl, Int.add_zero]
        · have : n = p.2 := by omega
          subst this
          rw [if_neg y, Int.sub_self, sm_zero h.tl, Int.add_zero]
      have e3 : p.1 * n - 1 = (p.1 - 1) + p.1 * (n - 1) := by
        rw [Int.mul_sub]
        omega
      have e4 : (p.1 * n - 1) / p.1 = n - 1 := by
        rw [e3, Int.add_mul_ediv_left _ _ (by omega), Int.ediv_eq_zero_of_lt (by omega) (by omega)]
        omega
      have e2 : mi p.2 (n - 1) = n - 1 := by
        unfold mi
        rw [if_pos (by omega)]
      rw [e1, e4, e2, e3, Int.add_sub_cancel, lw_less h.tl (by omega) (fun r hr => by have := a2.1 r hr; omega)]
      omega
    · have e1 : sm (p :: R) n = p.1 * p.2 + sm R (n - p.2) := by
        rw [sm_cons, mi_ge' (by omega)]
      have q := sm_pos h.tl g.tl (by omega) (show n - p.2 ≤ tot R by omega)
      have e2 : mi p.2 ((sm (p :: R) n - 1) / p.1) = p.2 := by
        have : p.2 ≤ (sm (p :: R) n - 1) / p.1 := Int.le_ediv_of_mul_le (by omega) (by rw [e1, Int.mul_comm]; omega)
        unfold mi
        rw [if_neg (by omega)]
      rw [e2, e1]
      have e3 : p.1 * p.2 + sm R (n - p.2) - 1 - p.1 * p.2 = sm R (n - p.2) - 1 := by omega
      rw [e3]
      have := lw_sm1 (n := n - p.2) h.tl g.tl a2.2 (by omega) (by omega)
      omega
theorem lw_all : ∀ {R : Rw} {s : Int}, Pos R → Ge1 R → sm R (tot R) ≤ s → lw R s = tot R
  | [], _, _, _, _ => rfl
  | p :: R, s, h, g, hs => by
    have h1 := h.hd
    have g1 := g.hd
    have t0 := tot_pos h.tl
    have q := sm_pos h.tl g.tl t0 (Int.le_refl _)
    have e1 : sm (p :: R) (tot (p :: R)) = p.1 * p.2 + sm R (tot R) := by
      rw [sm_cons, mi_ge' (by rw [tot_cons]; omega), tot_cons]
      have : p.2 + tot R - p.2 = tot R := by omega
      rw [this]
    rw [e1] at hs
    have e2 : mi p.2 (s / p.1) = p.2 := by
      have : p.2 ≤ s / p.1 := Int.le_ediv_of_mul_le (by omega) (by rw [Int.mul_comm]; omega)
      unfold mi
      rw [if_neg (by omega)]
    unfold lw
    rw [e2, lw_all h.tl g.tl (by omega), tot_cons]
theorem lgD_rep (x : Int) (hx : 1 ≤ x) (r : List Int) : ∀ (m : Nat) (s : Int), 0 ≤ s → lgD (List.replicate m x ++ r) s = if (m : Int) ≤ s / x then m + lgD r (s - x * m) else s / x
  | 0, s, hs => by
    have : 0 ≤ s / x := Int.ediv_nonneg hs (by omega)
    rw [if_pos (by omega)]
    simp
  | m + 1, s, hs => by
    rw [List.replicate_succ, List.cons_append, lgD_cons]
    have hm : ((m + 1 : Nat) : Int) = (m : Int) + 1 := rfl
    rw [hm]
    by_cases z : x > s
    · have e0 : s / x = 0 := Int.ediv_eq_zero_of_lt hs (by omega)
      rw [if_pos z, e0, if_neg (by omega)]
    · have e0 : (s - x) / x = s / x - 1 := by
        have e1 : s - x = s + x * (-1) := by omega
        rw [e1, Int.add_mul_ediv_left _ _ (by omega)]
        omega
      rw [if_neg z, lgD_rep x hx r m (s - x) (by omega), e0]
      by_cases y : (m : Int) ≤ s / x - 1
      · rw [if_pos y, if_pos (by omega)]
        have e2 : s - x - x * m = s - x * (m + 1) := by
          rw [Int.mul_add]
          omega
        rw [e2]
        omega
      · rw [if_neg y, if_neg (by omega)]
        omega
theorem lw_ex : ∀ {R : Rw} {s : Int}, Pos R → Ge1 R → Asc R → 0 ≤ s → lw R s = lgD (ex R) s
  | [], _, _, _, _, _ => rfl
  | p :: R, s, h, g, a, hs => by
    have h1 := h.hd
    have g1 := g.hd
    have a2 := List.pairwise_cons.mp a
    have d1 := Int.emod_add_mul_ediv s p.1
    have d2 := Int.emod_nonneg s (show p.1 ≠ 0 by omega)
    have d3 := Int.emod_lt_of_pos s (show 0 < p.1 by omega)
    have t2 : (p.2.toNat : Int) = p.2 := Int.toNat_of_nonneg (by omega)
    rw [ex_cons, lgD_rep p.1 g1 _ _ _ hs, t2]
    unfold lw mi
    by_cases z : p.2 ≤ s / p.1
    · have hm : p.1 * p.2 ≤ s := by
        have := Int.mul_le_mul_of_nonneg_left z (show 0 ≤ p.1 by omega)
        omega
      rw [if_neg (by omega), if_pos z, lw_ex h.tl g.tl a2.2 (by omega)]
    · rw [if_pos (by omega), if_neg z]
      have e1 : s - p.1 * (s / p.1) = s % p.1 := by omega
      rw [e1, lw_less h.tl d2 (fun r hr => by have := a2.1 r hr; omega)]
      omega
end Lw

set_option Elab.async false
set_option linter.all false
set_option maxRecDepth 100000
set_option maxHeartbeats 4000000
namespace Lw
open PySem PySem.Spec PyProof.Rows L2 Evl DL
/-! merging one by one, and that list_behind makes the same -/
def own? (L q : List Int) : Option Int := match L, q with
  | l :: _, a :: _ => some (a + l)
  | _, _ => none
def mq : Nat → List Int → List Int → List Int → Option (List Int)
  | 0, _, _, _ => some []
  | n + 1, F, L, q => match own? L q, F with
    | none, [] => none
    | none, f :: G => (mq n G L (q ++ [f])).map (f :: ·)
    | some o, [] => (mq n [] L.tail (q.tail ++ [o])).map (o :: ·)
    | some o, f :: G => if f ≤ o then (mq n G L (q ++ [f])).map (f :: ·) else (mq n (f :: G) L.tail (q.tail ++ [o])).map (o :: ·)
theorem mq_succ (n : Nat) (F L q : List Int) : mq (n + 1) F L q = match own? L q, F with
    | none, [] => none
    | none, f :: G => (mq n G L (q ++ [f])).map (f :: ·)
    | some o, [] => (mq n [] L.tail (q.tail ++ [o])).map (o :: ·)
    | some o, f :: G => if f ≤ o then (mq n G L (q ++ [f])).map (f :: ·) else (mq n (f :: G) L.tail (q.tail ++ [o])).map (o :: ·) := rfl
theorem mq_F {n : Nat} {f : Int} {F L q : List Int} (h : ∀ o, own? L q = some o → f ≤ o) : mq (n + 1) (f :: F) L q = (mq n F L (q ++ [f])).map (f :: ·) := by
  rw [mq_succ]
  cases e : own? L q with
  | none => rfl
  | some o =>
    simp only
    rw [if_pos (h o e)]
theorem mq_O {n : Nat} {o : Int} {F L q : List Int} (e : own? L q = some o) (h : ∀ f, F.head? = some f → o < f) : mq (n + 1) F L q = (mq n F L.tail (q.tail ++ [o])).map (o :: ·) := by
  rw [mq_succ, e]
  cases F with
  | nil => rfl
  | cons f G =>
    have : ¬ f ≤ o := by
      have := h f rfl
      omega
    simp only
    rw [if_neg this]
theorem own_snoc {L q : List Int} {p o : Int} (h : own? L (q ++ [p]) = some o) : own? L q = some o ∨ ∃ l ∈ L, o = p + l := by
  cases L with
  | nil => cases h
  | cons l L =>
    cases q with
    | nil =>
      cases h
      exact .inr ⟨l, by simp, rfl⟩
    | cons a q =>
      cases h
      exact .inl rfl
theorem map_id_o {o : Option (List Int)} : o.map (fun x => ([] : List Int) ++ x) = o := by cases o <;> rfl
theorem mq_fix {p : Int} {n : Nat} {F L : List Int} (hl : ∀ l ∈ L, 0 ≤ l) : ∀ (a : Nat) (q : List Int), (∀ o, own? L q = some o → p ≤ o) →
    mq (a + n) (List.replicate a p ++ F) L q = (mq n F L (q ++ List.replicate a p)).map (List.replicate a p ++ ·)
  | 0, q, _ => by
    simp only [Nat.zero_add, List.replicate_zero, List.nil_append, List.append_nil]
    exact map_id_o.symm
  | a + 1, q, h => by
    have e : a + 1 + n = (a + n) + 1 := by omega
    rw [e, List.replicate_succ, List.cons_append, mq_F h, mq_fix hl a (q ++ [p]) (fun o ho => by
      rcases own_snoc ho with y | ⟨l, h1, h2⟩
      · exact h o y
      · have := hl l h1
        omega), Option.map_map, List.append_assoc]
    rfl
theorem mq_own {p : Int} {n : Nat} {F L : List Int} (hf : ∀ f, F.head? = some f → p < f) : ∀ (z : List (Int × Int)) (q : List Int), (∀ x ∈ z, x.1 + x.2 = p) →
    mq (z.length + n) F (z.map (·.2) ++ L) (z.map (·.1) ++ q) = (mq n F L (q ++ List.replicate z.length p)).map (List.replicate z.length p ++ ·)
  | [], q, _ => by
    simp only [List.length_nil, Nat.zero_add, List.map_nil, List.replicate_zero, List.nil_append, List.append_nil]
    exact map_id_o.symm
  | x :: z, q, h => by
    have e : (x :: z).length + n = (z.length + n) + 1 := by simp; omega
    have e1 : own? (((x :: z).map (·.2)) ++ L) (((x :: z).map (·.1)) ++ q) = some p := by
      show some (x.1 + x.2) = some p
      rw [h x (by simp)]
    rw [e, mq_O e1 hf]
    simp only [List.map_cons, List.cons_append, List.tail_cons, List.append_assoc]
    rw [mq_own hf z (q ++ [p]) (fun y hy => h y (by simp [hy])), Option.map_map, List.append_assoc, List.length_cons, List.replicate_succ]
    rfl
theorem mq_perm : ∀ {n : Nat} {F L q out : List Int}, mq n F L q = some out → n = F.length + L.length → out.Perm (F ++ List.zipWith (· + ·) (q ++ out) L)
  | 0, F, L, q, out, h, hn => by
    have h1 : F = [] := List.eq_nil_of_length_eq_zero (by omega)
    have h2 : L = [] := List.eq_nil_of_length_eq_zero (by omega)
    subst h1 h2
    cases h
    simp
  | n + 1, F, L, q, out, h, hn => by
    have fx : ∀ f G, F = f :: G → ((mq n G L (q ++ [f])).map (f :: ·)) = some out → out.Perm (F ++ List.zipWith (· + ·) (q ++ out) L) := fun f G e y => by
      subst e
      obtain ⟨o2, h1, rfl⟩ := Option.map_eq_some_iff.mp y
      have := mq_perm h1 (by simp at hn ⊢; omega)
      rw [List.append_assoc, List.singleton_append] at this
      exact (this.cons f)
    have ow : ∀ o, own? L q = some o → ((mq n F L.tail (q.tail ++ [o])).map (o :: ·)) = some out → out.Perm (F ++ List.zipWith (· + ·) (q ++ out) L) := fun o e y => by
      obtain ⟨o2, h1, rfl⟩ := Option.map_eq_some_iff.mp y
      cases L with
      | nil => cases e
      | cons l L =>
        cases q with
        | nil => cases e
        | cons a q =>
          cases e
          simp only [List.tail_cons] at h1
          have := mq_perm h1 (by simp at hn ⊢; omega)
          rw [List.append_assoc, List.singleton_append] at this
          rw [List.cons_append, List.zipWith_cons_cons]
          exact (this.cons _).trans List.perm_middle.symm
    rw [mq_succ] at h
    cases e : own? L q with
    | none =>
      rw [e] at h
      cases F with
      | nil => cases h
      | cons f G => exact fx f G rfl h
    | some o =>
      rw [e] at h
      cases F with
      | nil => exact ow o e h
      | cons f G =>
        simp only at h
        by_cases z : f ≤ o
        · rw [if_pos z] at h
          exact fx f G rfl h
        · rw [if_neg z] at h
          exact ow o e h
/-! what is left at a walk -/
def rst (S : Rw) (w : Wk) : List Int := match S[w.a]? with
  | some r => List.replicate (r.2 - w.p).toNat r.1 ++ ex (S.drop (w.a + 1))
  | none => []
theorem rst_some {S : Rw} {w : Wk} {r : Int × Int} (h : S[w.a]? = some r) : rst S w = List.replicate (r.2 - w.p).toNat r.1 ++ ex (S.drop (w.a + 1)) := by
  unfold rst
  rw [h]
theorem rst_none {S : Rw} {w : Wk} (h : S[w.a]? = none) : rst S w = [] := by
  unfold rst
  rw [h]
theorem drop_get {S : Rw} {a : Nat} {r : Int × Int} (h : S[a]? = some r) : S.drop a = r :: S.drop (a + 1) := by
  obtain ⟨hl, rfl⟩ := List.getElem?_eq_some_iff.mp h
  exact List.drop_eq_getElem_cons hl
theorem rst_start (S : Rw) (a : Nat) : rst S ⟨a, 0⟩ = ex (S.drop a) := by
  cases e : S[a]? with
  | none =>
    rw [rst_none e, List.drop_eq_nil_of_le (List.getElem?_eq_none_iff.mp e)]
    rfl
  | some r =>
    rw [rst_some e, drop_get e, ex_cons]
    simp only [Int.sub_zero]
theorem rst_next {S : Rw} {w : Wk} (v : WV S w) : next1 S w = (rst S w).head? := by
  unfold next1
  cases e : S[w.a]? with
  | none => rw [rst_none e]; rfl
  | some r =>
    have := v.lt r e
    obtain ⟨k, hk⟩ : ∃ k, (r.2 - w.p).toNat = k + 1 := ⟨(r.2 - w.p).toNat - 1, by omega⟩
    rw [rst_some e, hk, List.replicate_succ]
    rfl
theorem rst_next2 {R S : Rw} {wr ws : Wk} (v : WV R wr) (u : WV S ws) : next2 R S wr ws = own? (rst S ws) (rst R wr) := by
  unfold next2
  cases e : R[wr.a]? with
  | none =>
    rw [rst_none e]
    cases rst S ws <;> rfl
  | some r =>
    have h1 := v.lt r e
    obtain ⟨k, hk⟩ : ∃ k, (r.2 - wr.p).toNat = k + 1 := ⟨(r.2 - wr.p).toNat - 1, by omega⟩
    rw [rst_some e, hk, List.replicate_succ]
    cases e2 : S[ws.a]? with
    | none => rw [rst_none e2]; rfl
    | some s =>
      have h2 := u.lt s e2
      obtain ⟨j, hj⟩ : ∃ k, (s.2 - ws.p).toNat = k + 1 := ⟨(s.2 - ws.p).toNat - 1, by omega⟩
      rw [rst_some e2, hj, List.replicate_succ]
      rfl
theorem rst_go {S : Rw} {w : Wk} {r : Int × Int} {t : Int} (h : S[w.a]? = some r) (t0 : 0 ≤ t) (t1 : t ≤ r.2 - w.p) : rst S w = List.replicate t.toNat r.1 ++ rst S (goOn S w t) := by
  unfold goOn
  rw [h]
  simp only
  by_cases e : r.2 - (w.p + t) = 0
  · rw [if_pos e, rst_start, rst_some h]
    have : (r.2 - w.p).toNat = t.toNat := by omega
    rw [this]
  · rw [if_neg e, rst_some h, rst_some (w := ⟨w.a, w.p + t⟩) h, ← List.append_assoc, List.replicate_append_replicate]
    have : (r.2 - w.p).toNat = t.toNat + (r.2 - (w.p + t)).toNat := by omega
    simp only [this]
theorem rst_snoc {R : Rw} {w : Wk} {x : Int × Int} (v : WV R w) : rst (R ++ [x]) w = rst R w ++ List.replicate x.2.toNat x.1 := by
  have e1 : ex [x] = List.replicate x.2.toNat x.1 := by rw [ex_cons, ex_nil, List.append_nil]
  rcases Nat.lt_or_ge w.a R.length with z | z
  · have h := List.getElem?_eq_getElem z
    have h2 : (R ++ [x])[w.a]? = some R[w.a] := by rw [List.getElem?_append_left z, h]
    rw [rst_some h, rst_some h2, List.drop_append_of_le_length (by omega), ex_app, e1, List.append_assoc]
  · have ha := v.a
    have h0 : w.a = R.length := by omega
    have hp := v.en h0
    have h : R[w.a]? = none := List.getElem?_eq_none z
    have h2 : (R ++ [x])[w.a]? = some x := by rw [List.getElem?_append_right z, h0, Nat.sub_self]; rfl
    rw [rst_none h, rst_some h2, hp, List.drop_eq_nil_of_le (by simp; omega)]
    simp
theorem rst_sub {S : Rw} {w : Wk} (v : WV S w) : (rst S w).Sublist (ex S) := by
  cases e : S[w.a]? with
  | none => rw [rst_none e]; exact List.nil_sublist _
  | some r =>
    have h0 := v.p0
    have e2 : ex S = ex (S.take w.a) ++ (List.replicate r.2.toNat r.1 ++ ex (S.drop (w.a + 1))) := by
      rw [← ex_cons, ← drop_get e, ← ex_app, List.take_append_drop]
    rw [rst_some e, e2]
    have h1 : (List.replicate (r.2 - w.p).toNat r.1).Sublist (List.replicate r.2.toNat r.1) := (List.replicate_sublist_replicate _).mpr (by omega)
    exact (h1.append (List.Sublist.refl _)).trans (List.sublist_append_right _ _)
theorem mem_ex {R : Rw} {x : Int} (h : x ∈ ex R) : ∃ r ∈ R, r.1 = x := by
  unfold ex at h
  obtain ⟨r, h1, h2⟩ := List.mem_flatMap.mp h
  exact ⟨r, h1, (List.mem_replicate.mp h2).2.symm⟩
theorem ex_sorted : ∀ {R : Rw}, Asc R → (ex R).Pairwise (· ≤ ·)
  | [], _ => List.Pairwise.nil
  | p :: R, h => by
    have h2 := List.pairwise_cons.mp h
    rw [ex_cons, List.pairwise_append]
    refine ⟨List.pairwise_replicate.mpr (.inr (Int.le_refl _)), ex_sorted h2.2, fun a ha b hb => ?_⟩
    obtain ⟨r, h3, rfl⟩ := mem_ex hb
    have := h2.1 r h3
    rw [(List.mem_replicate.mp ha).2]
    omega
theorem gp1_sim {S : Rw} {p : Int} (hp : Pos S) : ∀ (f : Nat) (w : Wk) (acc m : Int) (w' : Wk), WV S w → gp1 S f w p acc = some (m, w') →
    ∃ a : Nat, m = acc + a ∧ rst S w = List.replicate a p ++ rst S w' ∧ WV S w' ∧ next1 S w' ≠ some p
  | 0, _, _, _, _, _, h => by cases h
  | f + 1, w, acc, m, w', v, h => by
    unfold gp1 at h
    by_cases z : next1 S w = some p
    · rw [if_pos z] at h
      obtain ⟨r, hr, e⟩ := next1_some z
      have hl := left_eq hr
      have h1 := left_pos v hr
      obtain ⟨q1, _⟩ := goOn_wv v hp hr (t := left S w) (by omega) (by omega)
      obtain ⟨a, i1, i2, i3, i4⟩ := gp1_sim hp f _ _ _ _ q1 h
      refine ⟨(left S w).toNat + a, by omega, ?_, i3, i4⟩
      rw [rst_go hr (t := left S w) (by omega) (by omega), i2, e, ← List.append_assoc, List.replicate_append_replicate]
    · rw [if_neg z] at h
      cases h
      exact ⟨0, by simp, by simp, v, z⟩
theorem gp2_sim {R S : Rw} {p : Int} (hr : Pos R) (hp : Pos S) : ∀ (f : Nat) (wr ws : Wk) (acc m : Int) (wr' ws' : Wk), WV R wr → WV S ws → gp2 R S f wr ws p acc = some (m, wr', ws') →
    ∃ z : List (Int × Int), (∀ x ∈ z, x.1 + x.2 = p) ∧ m = acc + z.length ∧ rst R wr = z.map (·.1) ++ rst R wr' ∧ rst S ws = z.map (·.2) ++ rst S ws' ∧ WV R wr' ∧ WV S ws' ∧ next2 R S wr' ws' ≠ some p
  | 0, _, _, _, _, _, _, _, _, h => by cases h
  | f + 1, wr, ws, acc, m, wr', ws', v, u, h => by
    unfold gp2 at h
    by_cases z : next2 R S wr ws = some p
    · rw [if_pos z] at h
      obtain ⟨r, s, h1, h2, e⟩ := next2_some z
      have l1 := left_eq h1
      have l2 := left_eq h2
      have p1 := left_pos v h1
      have p2 := left_pos u h2
      have hm := mi_minL (left R wr) (left S ws)
      rw [hm] at h
      have ht : 1 ≤ mi (left R wr) (left S ws) ∧ mi (left R wr) (left S ws) ≤ left R wr ∧ mi (left R wr) (left S ws) ≤ left S ws := by
        unfold mi
        split <;> omega
      generalize mi (left R wr) (left S ws) = t at h ht
      obtain ⟨q1, _⟩ := goOn_wv v hr h1 (t := t) (by omega) (by omega)
      obtain ⟨q2, _⟩ := goOn_wv u hp h2 (t := t) (by omega) (by omega)
      obtain ⟨zs, i1, i2, i3, i4, i5⟩ := gp2_sim hr hp f _ _ _ _ _ _ q1 q2 h
      refine ⟨List.replicate t.toNat (r.1, s.1) ++ zs, fun x hx => ?_, ?_, ?_, ?_, i5⟩
      · rcases List.mem_append.mp hx with y | y
        · rw [(List.mem_replicate.mp y).2]
          exact e
        · exact i1 x y
      · rw [List.length_append, List.length_replicate]
        omega
      · rw [rst_go h1 (t := t) (by omega) (by omega), i3, List.map_append, List.map_replicate, List.append_assoc]
      · rw [rst_go h2 (t := t) (by omega) (by omega), i4, List.map_append, List.map_replicate, List.append_assoc]
    · rw [if_neg z] at h
      cases h
      exact ⟨[], (fun x hx => by cases hx), by simp, by simp, by simp, v, u, z⟩
theorem lb_sim {S : Rw} (gS : Good S) {Q : Rw} : ∀ (f : Nat) (R : Rw) (wk wr ws : Wk) (price : Option Int), Pos R → WV S wk → WV R wr → WV S ws → price = mn (next1 S wk) (next2 R S wr ws) → lb S f R wk wr ws price = some Q →
    ∃ out, ex Q = ex R ++ out ∧ mq out.length (rst S wk) (rst S ws) (rst R wr) = some out
  | 0, _, _, _, _, _, _, _, _, _, _, h => by cases h
  | f + 1, R, wk, wr, ws, price, hR, vk, vr, vs, hpr, h => by
    unfold lb at h
    cases price with
    | none =>
      cases h
      exact ⟨[], by simp, rfl⟩
    | some p =>
      simp only at h
      obtain ⟨⟨m1, wk'⟩, h1, h⟩ := Option.bind_eq_some_iff.mp h
      obtain ⟨⟨m2, wr', ws'⟩, h2, h⟩ := Option.bind_eq_some_iff.mp h
      simp only at h
      split at h
      case isFalse => cases h
      obtain ⟨a, a1, a2, a3, a4⟩ := gp1_sim gS.pos _ _ _ _ _ vk h1
      obtain ⟨z, z1, z2, z3, z4, z5, z6, z7⟩ := gp2_sim hR gS.pos _ _ _ _ _ _ _ vr vs h2
      rw [rst_next vk, rst_next2 vr vs] at hpr
      rw [rst_next a3] at a4
      rw [rst_next2 z5 z6] at z7
      rcases mn_cases (rst S wk).head? (own? (rst S ws) (rst R wr)) with ⟨c, _⟩ | ⟨p', c1, c2, c3, c4⟩
      · rw [c] at hpr
        cases hpr
      rw [c1] at hpr
      cases hpr
      have hone : 1 ≤ m1 + m2 := by
        rcases c2 with c | c
        · have : a ≠ 0 := fun y => by
            subst y
            rw [a2] at c
            exact a4 (by simpa using c)
          omega
        · have : z ≠ [] := fun y => by
            subst y
            rw [z3, z4] at c
            exact z7 (by simpa using c)
          have : 0 < z.length := List.length_pos_iff.mpr this
          omega
      have hR2 : Pos (R ++ [(p, m1 + m2)]) := fun r hr => by
        rcases List.mem_append.mp hr with y | y
        · exact hR r y
        · rw [List.mem_singleton.mp y]
          exact hone
      obtain ⟨out, o1, o2⟩ := lb_sim gS f _ _ _ _ _ hR2 a3 (z5.snoc hone).1 z6 rfl h
      have hk : (m1 + m2).toNat = a + z.length := by omega
      rw [rst_snoc z5, hk, ← List.replicate_append_replicate] at o2
      refine ⟨List.replicate a p ++ (List.replicate z.length p ++ out), ?_, ?_⟩
      · rw [o1, ex_app, ex_cons, hk, ex_nil, List.append_nil, ← List.replicate_append_replicate, List.append_assoc, List.append_assoc]
      · have hlen : (List.replicate a p ++ (List.replicate z.length p ++ out)).length = a + (z.length + out.length) := by simp
        have srt : (rst S wk).Pairwise (· ≤ ·) := (ex_sorted gS.asc).sublist (rst_sub vk)
        have hnn : ∀ l ∈ rst S ws, 0 ≤ l := fun l hl => by
          obtain ⟨r, y1, rfl⟩ := mem_ex ((rst_sub vs).subset hl)
          have := gS.ge y1
          omega
        have hgt : ∀ g, (rst S wk').head? = some g → p < g := fun g hg => by
          have hne : g ≠ p := fun y => a4 (by rw [hg, y])
          have hge : p ≤ g := by
            cases ea : a with
            | zero =>
              rw [ea] at a2
              refine c3 g ?_
              rw [a2]
              simpa using hg
            | succ k =>
              rw [a2, ea, List.pairwise_append] at srt
              exact srt.2.2 p (by simp) g (List.mem_of_mem_head? hg)
          omega
        rw [hlen, a2, mq_fix hnn a _ (fun o ho => c4 o ho)]
        have e5 : rst R wr ++ List.replicate a p = z.map (·.1) ++ (rst R wr' ++ List.replicate a p) := by rw [z3, List.append_assoc]
        rw [e5, z4, mq_own hgt z _ z1, List.append_assoc, o2]
        rfl
/-- what list_behind makes, price by price -/
theorem LB_mq {S Q : Rw} (gS : Good S) (h : LB S = some Q) : mq (ex Q).length (ex S) (ex S) [] = some (ex Q) := by
  unfold LB at h
  have v : WV S ⟨0, 0⟩ := ⟨Nat.zero_le _, Int.le_refl _, (fun r hr => by
    have := gS.pos r (List.mem_of_getElem? hr)
    simp only
    omega), fun _ => rfl⟩
  have u : WV ([] : Rw) ⟨0, 0⟩ := ⟨Nat.zero_le _, Int.le_refl _, (fun r hr => by cases hr), fun _ => rfl⟩
  have hm : ∀ o : Option Int, mn o none = o := fun o => by cases o <;> rfl
  obtain ⟨out, h1, h2⟩ := lb_sim gS _ _ _ _ _ _ (fun r hr => by cases hr) v u v (by
    have : next2 [] S ⟨0, 0⟩ ⟨0, 0⟩ = none := rfl
    rw [this, hm]) h
  rw [rst_start, rst_start, List.drop_zero, List.drop_zero] at h2
  rw [ex_nil, List.nil_append] at h1
  rw [h1]
  exact h2
end Lw

set_option Elab.async false
set_option linter.all false
set_option maxRecDepth 100000
set_option maxHeartbeats 4000000
set_option exponentiation.threshold 3000
namespace Lw
open PySem PySem.Spec PyProof.Rows L2 Evl DL
/-! fewest, price_of, longest_within -/
section
variable {Z : Cs} {os : Os}
theorem mi_le {a b : Int} : mi a b ≤ a ∧ mi a b ≤ b := by
  unfold mi
  split <;> omega
theorem mi_ge {a b c : Int} (h1 : c ≤ a) (h2 : c ≤ b) : c ≤ mi a b := by
  unfold mi
  split <;> omega
theorem minD_mi {a b : Int} : minD [.int a, .int b] = some (.int (mi a b)) := id rfl
def Bd (R : Rw) : Prop := ∀ r ∈ R, 1 ≤ r.1 ∧ r.1 < 2 ^ 100 ∧ 1 ≤ r.2 ∧ r.2 < 2 ^ 200
theorem Bd.tl {p : Int × Int} {R : Rw} (h : Bd (p :: R)) : Bd R := fun r hr => h r (by simp [hr])
theorem Bd.hd {p : Int × Int} {R : Rw} (h : Bd (p :: R)) : 1 ≤ p.1 ∧ p.1 < 2 ^ 100 ∧ 1 ≤ p.2 ∧ p.2 < 2 ^ 200 := h p (by simp)
theorem Bd.pos {R : Rw} (h : Bd R) : Pos R := fun r hr => (h r hr).2.2.1
theorem Bd.ge {R : Rw} (h : Bd R) : Ge1 R := fun r hr => (h r hr).1
theorem nat_lt {a : Int} {p : Nat} (h0 : 0 ≤ a) (h : a < 2 ^ p) : a.natAbs < 2 ^ p := by
  have e : ((2 ^ p : Nat) : Int) = (2 : Int) ^ p := by simp
  omega
theorem mul_bd {a b : Int} (h0 : 0 ≤ a) (h : a < 2 ^ 100) (h1 : 0 ≤ b) (h2 : b < 2 ^ 300) : mulD (.int a) (.int b) = some (.int (a * b)) := mulD_ok (p := 100) (q := 300) (nat_lt h0 h) (nat_lt h1 h2) (by decide)
theorem sum_run (x : Sl) : ∀ (R : Rw) (n t : Int) (y z u : Sl), Bd R → 0 ≤ n → n < 2 ^ 300 → ∃ y' z' u', forRun (gTp 2 (gsCons (gNm 3) (gsCons (gNm 4) gsNil))) (sSeq (sAsg (xCall minD (xaD (xVar 4) (xaD (xVar 1) xaNil))) (gNm 5))
  (sSeq (sAug 2 (fun i j => i + j) (xOp mulD (xVar 3) (xVar 5)))
  (sAug 1 (fun i j => i - j) (xVar 5)))) (encR R) [x, .d (.int n), .d (.int t), y, z, u] os = some (.nx [x, .d (.int (rem R n)), .d (.int (t + sm R n)), y', z', u'] os)
  | [], n, t, y, z, u, _, _, _ => ⟨y, z, u, by simp [encR, forRun, rem, sm]⟩
  | p :: R, n, t, y, z, u, h, h0, h1 => by
    have hh := h.hd
    have m1 := mi_le (a := p.2) (b := n)
    have m2 := mi_ge (a := p.2) (b := n) (c := 0) (by omega) h0
    obtain ⟨y', z', u', ih⟩ := sum_run x R (n - mi p.2 n) (t + p.1 * mi p.2 n) (.d (.int p.1)) (.d (.int p.2)) (.d (.int (mi p.2 n))) h.tl (by omega) (by omega)
    refine ⟨y', z', u', ?_⟩
    have mu : mulD (.int p.1) (.int (mi p.2 n)) = some (.int (p.1 * mi p.2 n)) := mul_bd (by omega) hh.2.1 m2 (by omega)
    have t1 : gTp 2 (gsCons (gNm 3) (gsCons (gNm 4) gsNil)) (tupP p) [x, .d (.int n), .d (.int t), y, z, u] = some [x, .d (.int n), .d (.int t), .d (.int p.1), .d (.int p.2), u] := rfl
    have e1 : encR (p :: R) = tupP p :: encR R := rfl
    have b1 : (sSeq (sAsg (xCall minD (xaD (xVar 4) (xaD (xVar 1) xaNil))) (gNm 5)) (sSeq (sAug 2 (fun i j => i + j) (xOp mulD (xVar 3) (xVar 5))) (sAug 1 (fun i j => i - j) (xVar 5)))) [x, .d (.int n), .d (.int t), .d (.int p.1), .d (.int p.2), u] os = some (.nx [x, .d (.int (n - mi p.2 n)), .d (.int (t + p.1 * mi p.2 n)), .d (.int p.1), .d (.int p.2), .d (.int (mi p.2 n))] os) := by
      simp -implicitDefEqProofs [minD_mi, mu, DL.sAug]
    rw [e1, forRun, t1, Option.bind_some, b1, Option.bind_some]
    have e2 : sm (p :: R) n = p.1 * mi p.2 n + sm R (n - mi p.2 n) := rfl
    have e3 : rem (p :: R) n = rem R (n - mi p.2 n) := rfl
    rw [e2, e3, ← Int.add_assoc]
    exact ih
theorem sum_ok {R : Rw} {n : Int} (ht : Tidy os) (h : Bd R) (h0 : 0 ≤ n) (h1 : n < 2 ^ 300) : m_sum_of_least [.d (.list (encR R)), .d (.int n)] os = some (if n ≤ tot R then .int (sm R n) else .none, os) := by
  obtain ⟨y', z', u', e⟩ := sum_run (os := os) (.d (.list (encR R))) R n 0 .u .u .u h h0 h1
  have hr := rem_ok h.pos h0
  unfold m_sum_of_least
  rw [m_2]
  rw [Int.zero_add] at e
  by_cases z : n ≤ tot R
  · rw [if_pos z] at hr ⊢
    rw [hr] at e
    have ez : eqD (.int 0) (.int 0) = some (.bool true) := by rw [DL.eqD_int]; rfl
    simp -implicitDefEqProofs [b_sum_of_least, e, ez, cutW_self ht]
  · rw [if_neg z] at hr ⊢
    have ez : eqD (.int (rem R n)) (.int 0) = some (.bool false) := by
      rw [DL.eqD_int]
      have : ¬ rem R n = 0 := by omega
      simp [this]
    simp -implicitDefEqProofs [b_sum_of_least, e, ez, cutW_self ht]
theorem at_run (x0 x1 x2 : Sl) : ∀ (R : Rw) (n : Int) (y z : Sl), ∃ n' y' z', forRun (gTp 2 (gsCons (gNm 4) (gsCons (gNm 5) gsNil))) (sSeq (sIf (xBool (xOp leD (xVar 3) (xVar 5)))
  (sRet (xVar 4))
  sNext)
  (sAug 3 (fun i j => i - j) (xVar 5))) (encR R) [x0, x1, x2, .d (.int n), y, z] os = some (match pAt R n with
    | some p => .rt (.int p) os
    | none => .nx [x0, x1, x2, .d (.int n'), y', z'] os)
  | [], n, y, z => ⟨n, y, z, rfl⟩
  | p :: R, n, y, z => by
    obtain ⟨n', y', z', ih⟩ := at_run x0 x1 x2 R (n - p.2) (.d (.int p.1)) (.d (.int p.2))
    refine ⟨n', y', z', ?_⟩
    have t1 : gTp 2 (gsCons (gNm 4) (gsCons (gNm 5) gsNil)) (tupP p) [x0, x1, x2, .d (.int n), y, z] = some [x0, x1, x2, .d (.int n), .d (.int p.1), .d (.int p.2)] := rfl
    have e1 : encR (p :: R) = tupP p :: encR R := rfl
    rw [e1, forRun, t1, Option.bind_some]
    by_cases q : n ≤ p.2
    · have e2 : pAt (p :: R) n = some p.1 := by
        unfold pAt
        rw [if_pos q]
      have b1 : (sSeq (sIf (xBool (xOp leD (xVar 3) (xVar 5))) (sRet (xVar 4)) sNext) (sAug 3 (fun i j => i - j) (xVar 5))) [x0, x1, x2, .d (.int n), .d (.int p.1), .d (.int p.2)] os = some (.rt (.int p.1) os) := by
        simp -implicitDefEqProofs [q]
      rw [b1, e2]
      rfl
    · have e2 : pAt (p :: R) n = pAt R (n - p.2) := by
        rw [pAt, if_neg q]
      have b1 : (sSeq (sIf (xBool (xOp leD (xVar 3) (xVar 5))) (sRet (xVar 4)) sNext) (sAug 3 (fun i j => i - j) (xVar 5))) [x0, x1, x2, .d (.int n), .d (.int p.1), .d (.int p.2)] os = some (.nx [x0, x1, x2, .d (.int (n - p.2)), .d (.int p.1), .d (.int p.2)] os) := by
        simp -implicitDefEqProofs [q, DL.sAug]
      rw [b1, e2, Option.bind_some]
      exact ih
theorem lw_run (x0 x1 x2 : Sl) : ∀ (R : Rw) (s l : Int) (y z u : Sl), Bd R → 0 ≤ s → s < 2 ^ 300 → ∃ s' y' z' u', forRun (gTp 2 (gsCons (gNm 5) (gsCons (gNm 6) gsNil))) (sSeq (sAsg (xCall minD (xaD (xVar 6) (xaD (xOp fdivD (xVar 3) (xVar 5)) xaNil))) (gNm 7))
  (sSeq (sAug 4 (fun i j => i + j) (xVar 7))
  (sAug 3 (fun i j => i - j) (xOp mulD (xVar 5) (xVar 7))))) (encR R) [x0, x1, x2, .d (.int s), .d (.int l), y, z, u] os = some (.nx [x0, x1, x2, .d (.int s'), .d (.int (l + lw R s)), y', z', u'] os)
  | [], s, l, y, z, u, _, _, _ => ⟨s, y, z, u, by simp [encR, forRun, lw]⟩
  | p :: R, s, l, y, z, u, h, h0, h1 => by
    have hh := h.hd
    have d0 : 0 ≤ s / p.1 := Int.ediv_nonneg h0 (by omega)
    have d1 : s / p.1 ≤ s := Int.ediv_le_self _ h0
    have d2 : p.1 * (s / p.1) ≤ s := Int.mul_ediv_self_le (by omega)
    have m1 := mi_le (a := p.2) (b := s / p.1)
    have m2 := mi_ge (a := p.2) (b := s / p.1) (c := 0) (by omega) d0
    have d3 : p.1 * mi p.2 (s / p.1) ≤ p.1 * (s / p.1) := Int.mul_le_mul_of_nonneg_left m1.2 (by omega)
    have d4 : 0 ≤ p.1 * mi p.2 (s / p.1) := Int.mul_nonneg (by omega) m2
    obtain ⟨s', y', z', u', ih⟩ := lw_run x0 x1 x2 R (s - p.1 * mi p.2 (s / p.1)) (l + mi p.2 (s / p.1)) (.d (.int p.1)) (.d (.int p.2)) (.d (.int (mi p.2 (s / p.1)))) h.tl (by omega) (by omega)
    refine ⟨s', y', z', u', ?_⟩
    have mu : mulD (.int p.1) (.int (mi p.2 (s / p.1))) = some (.int (p.1 * mi p.2 (s / p.1))) := mul_bd (by omega) hh.2.1 m2 (by omega)
    have fd : fdivD (.int s) (.int p.1) = some (.int (s / p.1)) := fdivD_ok (p := 300) (by omega) (nat_lt h0 h1) (by decide)
    have t1 : gTp 2 (gsCons (gNm 5) (gsCons (gNm 6) gsNil)) (tupP p) [x0, x1, x2, .d (.int s), .d (.int l), y, z, u] = some [x0, x1, x2, .d (.int s), .d (.int l), .d (.int p.1), .d (.int p.2), u] := rfl
    have e1 : encR (p :: R) = tupP p :: encR R := rfl
    have b1 : (sSeq (sAsg (xCall minD (xaD (xVar 6) (xaD (xOp fdivD (xVar 3) (xVar 5)) xaNil))) (gNm 7)) (sSeq (sAug 4 (fun i j => i + j) (xVar 7)) (sAug 3 (fun i j => i - j) (xOp mulD (xVar 5) (xVar 7))))) [x0, x1, x2, .d (.int s), .d (.int l), .d (.int p.1), .d (.int p.2), u] os = some (.nx [x0, x1, x2, .d (.int (s - p.1 * mi p.2 (s / p.1))), .d (.int (l + mi p.2 (s / p.1))), .d (.int p.1), .d (.int p.2), .d (.int (mi p.2 (s / p.1)))] os) := by
      simp -implicitDefEqProofs [fd, minD_mi, mu, DL.sAug]
    rw [e1, forRun, t1, Option.bind_some, b1, Option.bind_some]
    have e2 : lw (p :: R) s = mi p.2 (s / p.1) + lw R (s - p.1 * mi p.2 (s / p.1)) := rfl
    rw [e2, ← Int.add_assoc]
    exact ih
def optI : Option Int → PyData
  | none => .none
  | some i => .int i
/-- what the rows tell -/
structure Tell (Z : Cs) (x : Str) (c e : Int) (R : Rw) : Prop where
  rows : ∀ os, Tidy os → m_rows_beside Z [.d (.str x), .d (.int c), .d (.int e)] os = some (encR R, os)
  chk : ∀ os, Tidy os → m_check_beside [.d (.str x), .d (.int c), .d (.int e)] os = some (.none, os)
  good : Good R
  bd : Bd R
theorem fewest_ok {x : Str} {c e n : Int} {R : Rw} (T : Tell Z x c e R) (ht : Tidy os) (h0 : 1 ≤ n) (h1 : n < 2 ^ 300) : m_fewest Z [.d (.str x), .d (.int c), .d (.int e), .d (.int n)] os = some (if n ≤ tot R then .int (sm R n) else .none, os) := by
  unfold m_fewest
  rw [m_4]
  simp -implicitDefEqProofs [b_fewest, T.chk os ht, T.rows os ht, check_from_ok ht (show n ≥ 1 by omega), sum_ok ht T.bd (by omega) h1, cutW_self ht]
end
end Lw

set_option Elab.async false
set_option linter.all false
set_option maxRecDepth 100000
set_option maxHeartbeats 4000000
namespace Lw
open PySem PySem.Spec PyProof.Rows L2 Evl DL
/-! the law's lists -/
def encI (l : List Int) : List PyData := l.map .int
@[simp] theorem encI_len (l : List Int) : (encI l).length = l.length := by simp [encI]
theorem encI_app (a b : List Int) : encI (a ++ b) = encI a ++ encI b := by simp [encI]
theorem encI_get {l : List Int} {i : Nat} {x : Int} (h : l[i]? = some x) : (encI l)[i]? = some (.int x) := by simp [encI, h]
theorem rangeD_cons {lo : Int} {n : Nat} : rangeD lo (n + 1) = .int lo :: rangeD (lo + 1) n := by
  unfold rangeD
  rw [List.range_succ_eq_map, List.map_cons, List.map_map]
  congr 1
  · simp
  · apply List.map_congr_left
    intro i _
    simp
    omega
theorem own_get {L q : List Int} : own? L q = (L.head?).bind fun l => (q.head?).map fun a => a + l := by
  cases L with
  | nil => rfl
  | cons l L =>
    cases q with
    | nil => rfl
    | cons a q => rfl
theorem head_drop {l : List Int} {i : Nat} : (l.drop i).head? = l[i]? := List.head?_drop ..
section
variable {os : Os}
abbrev mB : SE := (sSeq (sAsg (xIf (xAndT (xBool (xOp ltD (xVar 9) (xCall lenD (xaD (xVar 7) xaNil)))) (xBool (xOp ltD (xVar 9) (xLenO 8)))) (xOp addD (xIxO 8 (xVar 9)) (xOp ixD (xVar 7) (xVar 9))) (xC .none)) (gNm 10))
  (sIf (xOrT (xBool (xOp (isD false) (xVar 10) (xC .none))) (xAndT (xBool (xOp ltD (xVar 5) (xCall lenD (xaD (xVar 4) xaNil)))) (xBool (xOp leD (xOp ixD (xVar 4) (xVar 5)) (xVar 10)))))
  (sSeq (sApp 8 (xOp ixD (xVar 4) (xVar 5)))
  (sAsg (xOp addD (xVar 5) (xC (.int 1))) (gNm 5)))
  (sSeq (sApp 8 (xVar 10))
  (sAsg (xOp addD (xVar 9) (xC (.int 1))) (gNm 9)))))
abbrev mR (x0 x1 x2 x3 : Sl) (F : List Int) (a : Nat) (x6 : Sl) (L : List Int) (m p : Nat) (x10 : Sl) : List Sl := [x0, x1, x2, x3, .d (.list (encI F)), .d (.int a), x6, .d (.list (encI L)), .o m, .d (.int p), x10]
variable {x0 x1 x2 x3 x6 x10 : Sl} {F L made : List Int} {a p : Nat}
theorem m_own : (xIf (xAndT (xBool (xOp ltD (xVar 9) (xCall lenD (xaD (xVar 7) xaNil)))) (xBool (xOp ltD (xVar 9) (xLenO 8)))) (xOp addD (xIxO 8 (xVar 9)) (xOp ixD (xVar 7) (xVar 9))) (xC .none)) (mR x0 x1 x2 x3 F a x6 L os.length p x10) (os ++ [some (.l (encI made))]) = some (optI (own? (L.drop p) (made.drop p)), os ++ [some (.l (encI made))]) := by
  have o1 : ownAt (mR x0 x1 x2 x3 F a x6 L os.length p x10) (os ++ [some (.l (encI made))]) 8 = some (os.length, encI made) := ownAt_o rfl (by simp)
  have l1 : xLenO 8 (mR x0 x1 x2 x3 F a x6 L os.length p x10) (os ++ [some (.l (encI made))]) = some (.int (made.length : Int), os ++ [some (.l (encI made))]) := by
    unfold DL.xLenO
    rw [o1]
    simp
  rw [own_get, head_drop, head_drop]
  by_cases h1 : p < L.length
  · have g1 : L[p]? = some L[p] := by simp [h1]
    have i1 : ixD (.list (encI L)) (.int (p : Int)) = some (.int L[p]) := ixD_list (encI_get g1)
    by_cases h2 : p < made.length
    · have g2 : made[p]? = some made[p] := by simp [h2]
      have i2 : xIxO 8 (xVar 9) (mR x0 x1 x2 x3 F a x6 L os.length p x10) (os ++ [some (.l (encI made))]) = some (.int made[p], os ++ [some (.l (encI made))]) := a_ixO (j := p) rfl o1 (encI_get g2)
      rw [g1, g2]
      simp -implicitDefEqProofs [l1, h1, h2, i1, i2, optI]
    · have g2 : made[p]? = none := by simp; omega
      rw [g2]
      have e0 : (L[p]?.bind fun l => (none : Option Int).map fun a => a + l) = none := by cases L[p]? <;> rfl
      rw [e0]
      simp -implicitDefEqProofs [l1, h1, h2, optI]
  · have g1 : L[p]? = none := by simp; omega
    rw [g1]
    simp -implicitDefEqProofs [l1, h1, optI]
theorem m_appF {f : Int} (hf : F[a]? = some f) (hz : made.length < sizeLine) : (sSeq (sApp 8 (xOp ixD (xVar 4) (xVar 5))) (sAsg (xOp addD (xVar 5) (xC (.int 1))) (gNm 5))) (mR x0 x1 x2 x3 F a x6 L os.length p x10) (os ++ [some (.l (encI made))]) = some (.nx (mR x0 x1 x2 x3 F (a + 1) x6 L os.length p x10) (os ++ [some (.l (encI (made ++ [f])))])) := by
  have o1 : ownAt (mR x0 x1 x2 x3 F a x6 L os.length p x10) (os ++ [some (.l (encI made))]) 8 = some (os.length, encI made) := ownAt_o rfl (by simp)
  have i1 : ixD (.list (encI F)) (.int (a : Int)) = some (.int f) := ixD_list (encI_get hf)
  have st : (os ++ [some (Ob.l (encI made))]).set os.length (some (.l (encI made ++ [.int f]))) = os ++ [some (.l (encI (made ++ [f])))] := by
    rw [List.set_append_right _ _ (Nat.le_refl _), encI_app]
    simp [encI]
  unfold DL.sApp
  simp -implicitDefEqProofs [o1, i1, hz, st]
theorem m_appO {o : Int} (hz : made.length < sizeLine) : (sSeq (sApp 8 (xVar 10)) (sAsg (xOp addD (xVar 9) (xC (.int 1))) (gNm 9))) (mR x0 x1 x2 x3 F a x6 L os.length p (.d (.int o))) (os ++ [some (.l (encI made))]) = some (.nx (mR x0 x1 x2 x3 F a x6 L os.length (p + 1) (.d (.int o))) (os ++ [some (.l (encI (made ++ [o])))])) := by
  have o1 : ownAt (mR x0 x1 x2 x3 F a x6 L os.length p (.d (.int o))) (os ++ [some (.l (encI made))]) 8 = some (os.length, encI made) := ownAt_o rfl (by simp)
  have st : (os ++ [some (Ob.l (encI made))]).set os.length (some (.l (encI made ++ [.int o]))) = os ++ [some (.l (encI (made ++ [o])))] := by
    rw [List.set_append_right _ _ (Nat.le_refl _), encI_app]
    simp [encI]
  unfold DL.sApp
  simp -implicitDefEqProofs [o1, hz, st]
theorem drop_cons {l r : List Int} {i : Nat} {x : Int} (h : l.drop i = x :: r) : l[i]? = some x ∧ l.drop (i + 1) = r ∧ i < l.length := by
  have h1 : l[i]? = some x := by rw [← head_drop, h]; rfl
  refine ⟨h1, ?_, (List.getElem?_eq_some_iff.mp h1).1⟩
  rw [← List.tail_drop, h]
  rfl
theorem m_step {n : Nat} {out : List Int} (hp : p ≤ made.length) (hz : made.length < sizeLine) (h : mq (n + 1) (F.drop a) (L.drop p) (made.drop p) = some out) :
    ∃ x out' a' p' x10', out = x :: out' ∧ mB (mR x0 x1 x2 x3 F a x6 L os.length p x10) (os ++ [some (.l (encI made))]) = some (.nx (mR x0 x1 x2 x3 F a' x6 L os.length p' x10') (os ++ [some (.l (encI (made ++ [x])))])) ∧ p' ≤ (made ++ [x]).length ∧ mq n (F.drop a') (L.drop p') ((made ++ [x]).drop p') = some out' := by
  have ho := m_own (os := os) (x0 := x0) (x1 := x1) (x2 := x2) (x3 := x3) (x6 := x6) (x10 := x10) (F := F) (L := L) (made := made) (a := a) (p := p)
  have hA : sAsg (xIf (xAndT (xBool (xOp ltD (xVar 9) (xCall lenD (xaD (xVar 7) xaNil)))) (xBool (xOp ltD (xVar 9) (xLenO 8)))) (xOp addD (xIxO 8 (xVar 9)) (xOp ixD (xVar 7) (xVar 9))) (xC .none)) (gNm 10) (mR x0 x1 x2 x3 F a x6 L os.length p x10) (os ++ [some (.l (encI made))]) = some (.nx (mR x0 x1 x2 x3 F a x6 L os.length p (.d (optI (own? (L.drop p) (made.drop p))))) (os ++ [some (.l (encI made))])) := by
    unfold DL.sAsg
    rw [ho]
    rfl
  have hd : ∀ x, (made ++ [x]).drop p = made.drop p ++ [x] := fun x => List.drop_append_of_le_length hp
  rw [mq_succ] at h
  cases e : own? (L.drop p) (made.drop p) with
  | none =>
    rw [e] at h hA
    cases eF : F.drop a with
    | nil => rw [eF] at h; cases h
    | cons f G =>
      rw [eF] at h
      obtain ⟨o2, h1, rfl⟩ := Option.map_eq_some_iff.mp h
      obtain ⟨f1, f2, f3⟩ := drop_cons eF
      have c1 := m_appF (os := os) (x0 := x0) (x1 := x1) (x2 := x2) (x3 := x3) (x6 := x6) (x10 := .d .none) (L := L) (p := p) f1 hz
      refine ⟨f, o2, a + 1, p, .d .none, rfl, ?_, by simp; omega, by rw [f2, hd]; exact h1⟩
      refine seq_nx hA ?_
      have t1 : (xOrT (xBool (xOp (isD false) (xVar 10) (xC .none))) (xAndT (xBool (xOp ltD (xVar 5) (xCall lenD (xaD (xVar 4) xaNil)))) (xBool (xOp leD (xOp ixD (xVar 4) (xVar 5)) (xVar 10))))) (mR x0 x1 x2 x3 F a x6 L os.length p (.d .none)) (os ++ [some (.l (encI made))]) = some (true, os ++ [some (.l (encI made))]) := by
        have i0 : isD false .none .none = some (.bool true) := rfl
        simp -implicitDefEqProofs [i0]
      simp only [optI]
      rw [a_sIf, t1, Option.bind_some, if_pos rfl]
      exact c1
  | some o =>
    rw [e] at h hA
    have i0 : isD false (.int o) .none = some (.bool false) := rfl
    have c2 := m_appO (os := os) (x0 := x0) (x1 := x1) (x2 := x2) (x3 := x3) (x6 := x6) (F := F) (L := L) (a := a) (p := p) (o := o) hz
    have hpm : p < made.length ∧ L.drop p = L.drop p := by
      rw [own_get, head_drop, head_drop] at e
      obtain ⟨l, h1, h2⟩ := Option.bind_eq_some_iff.mp e
      obtain ⟨q, h3, h4⟩ := Option.map_eq_some_iff.mp h2
      exact ⟨(List.getElem?_eq_some_iff.mp h3).1, rfl⟩
    have ht2 : (made.drop p).tail ++ [o] = (made ++ [o]).drop (p + 1) := by
      rw [List.tail_drop, List.drop_append_of_le_length (by omega)]
    have own : (∀ f, F[a]? = some f → o < f) → mB (mR x0 x1 x2 x3 F a x6 L os.length p x10) (os ++ [some (.l (encI made))]) = some (.nx (mR x0 x1 x2 x3 F a x6 L os.length (p + 1) (.d (.int o))) (os ++ [some (.l (encI (made ++ [o])))])) := fun hf => by
      refine seq_nx hA ?_
      have t1 : (xOrT (xBool (xOp (isD false) (xVar 10) (xC .none))) (xAndT (xBool (xOp ltD (xVar 5) (xCall lenD (xaD (xVar 4) xaNil)))) (xBool (xOp leD (xOp ixD (xVar 4) (xVar 5)) (xVar 10))))) (mR x0 x1 x2 x3 F a x6 L os.length p (.d (.int o))) (os ++ [some (.l (encI made))]) = some (false, os ++ [some (.l (encI made))]) := by
        by_cases z : a < F.length
        · have g1 : F[a]? = some F[a] := by simp [z]
          have i1 : ixD (.list (encI F)) (.int (a : Int)) = some (.int F[a]) := ixD_list (encI_get g1)
          have q := hf _ g1
          have q2 : ¬ F[a] ≤ o := by omega
          simp -implicitDefEqProofs [i0, z, i1, q2]
        · simp -implicitDefEqProofs [i0, z]
      simp only [optI]
      rw [a_sIf, t1, Option.bind_some, if_neg Bool.false_ne_true]
      exact c2
    cases eF : F.drop a with
    | nil =>
      rw [eF] at h
      obtain ⟨o2, h1, rfl⟩ := Option.map_eq_some_iff.mp h
      refine ⟨o, o2, a, p + 1, .d (.int o), rfl, own (fun f hf => ?_), by simp; omega, ?_⟩
      · rw [← head_drop, eF] at hf
        cases hf
      · rw [eF, ← ht2, ← List.tail_drop]
        exact h1
    | cons f G =>
      rw [eF] at h
      obtain ⟨f1, f2, f3⟩ := drop_cons eF
      simp only at h
      by_cases z : f ≤ o
      · rw [if_pos z] at h
        obtain ⟨o2, h1, rfl⟩ := Option.map_eq_some_iff.mp h
        have c1 := m_appF (os := os) (x0 := x0) (x1 := x1) (x2 := x2) (x3 := x3) (x6 := x6) (x10 := .d (.int o)) (L := L) (p := p) f1 hz
        refine ⟨f, o2, a + 1, p, .d (.int o), rfl, ?_, by simp; omega, by rw [f2, hd]; exact h1⟩
        refine seq_nx hA ?_
        have t1 : (xOrT (xBool (xOp (isD false) (xVar 10) (xC .none))) (xAndT (xBool (xOp ltD (xVar 5) (xCall lenD (xaD (xVar 4) xaNil)))) (xBool (xOp leD (xOp ixD (xVar 4) (xVar 5)) (xVar 10))))) (mR x0 x1 x2 x3 F a x6 L os.length p (.d (.int o))) (os ++ [some (.l (encI made))]) = some (true, os ++ [some (.l (encI made))]) := by
          have i1 : ixD (.list (encI F)) (.int (a : Int)) = some (.int f) := ixD_list (encI_get f1)
          simp -implicitDefEqProofs [i0, f3, i1, z]
        simp only [optI]
        rw [a_sIf, t1, Option.bind_some, if_pos rfl]
        exact c1
      · rw [if_neg z] at h
        obtain ⟨o2, h1, rfl⟩ := Option.map_eq_some_iff.mp h
        refine ⟨o, o2, a, p + 1, .d (.int o), rfl, own (fun g hg => ?_), by simp; omega, ?_⟩
        · rw [f1] at hg
          cases hg
          omega
        · rw [eF, ← ht2, ← List.tail_drop]
          exact h1
theorem m_run : ∀ (n : Nat) (items : List PyData) (made : List Int) (a p : Nat) (x6 x10 : Sl) (out : List Int), items.length = n → p ≤ made.length → made.length + n < sizeLine → mq n (F.drop a) (L.drop p) (made.drop p) = some out →
    ∃ a' p' x6' x10', forRun (gNm 6) mB items (mR x0 x1 x2 x3 F a x6 L os.length p x10) (os ++ [some (.l (encI made))]) = some (.nx (mR x0 x1 x2 x3 F a' x6' L os.length p' x10') (os ++ [some (.l (encI (made ++ out)))]))
  | 0, [], made, a, p, x6, x10, out, _, _, _, h => by
    cases h
    exact ⟨a, p, x6, x10, by simp [forRun]⟩
  | n + 1, d :: r, made, a, p, x6, x10, out, hn, hp, hz, h => by
    obtain ⟨x, out', a1, p1, y10, rfl, b1, h2, h3⟩ := m_step (os := os) (x0 := x0) (x1 := x1) (x2 := x2) (x3 := x3) (x6 := .d d) (x10 := x10) hp (by omega) h
    obtain ⟨a', p', x6', x10', ih⟩ := m_run n r (made ++ [x]) a1 p1 (.d d) y10 out' (by simpa using hn) h2 (by simp; omega) h3
    refine ⟨a', p', x6', x10', ?_⟩
    have t1 : gNm 6 d (mR x0 x1 x2 x3 F a x6 L os.length p x10) = some (mR x0 x1 x2 x3 F a (.d d) L os.length p x10) := rfl
    rw [forRun, t1, Option.bind_some, b1, Option.bind_some]
    simp only
    rw [ih, List.append_assoc, List.singleton_append]
end
end Lw

set_option Elab.async false
set_option linter.all false
set_option maxRecDepth 100000
set_option maxHeartbeats 4000000
namespace Lw
open PySem PySem.Spec PyProof.Rows L2 Evl DL
/-- lists, each made of the one before -/
structure Mg (A : List Int) (Ts : List (List Int)) : Prop where
  head : Ts[0]? = some A
  sorted : ∀ S ∈ Ts, S.Pairwise (· ≤ ·)
  step : ∀ (i : Nat) (S Q : List Int), Ts[i]? = some S → Ts[i + 1]? = some Q → Q.length = 2 * S.length ∧ mq Q.length S S [] = some Q
  small : ∀ S ∈ Ts, S.length ≤ 1000000
def tg (Ts : List (List Int)) (i : Nat) : List Int := (Ts[i]?).getD []
def fxd (A : List Int) (Ts : List (List Int)) : Nat → List Int
  | 0 => A
  | k + 1 => fxd A Ts k ++ List.zipWith (· + ·) (tg Ts (k + 1)) (tg Ts k)
theorem tg_some {Ts : List (List Int)} {i : Nat} {S : List Int} (h : Ts[i]? = some S) : tg Ts i = S := by
  unfold tg
  rw [h]
  rfl
theorem Mg.perm {A : List Int} {Ts : List (List Int)} (g : Mg A Ts) : ∀ k, k < Ts.length → (fxd A Ts k).Perm (tg Ts k)
  | 0, _ => by
    rw [tg_some g.head]
    exact List.Perm.refl _
  | k + 1, h => by
    have h1 : Ts[k]? = some Ts[k] := List.getElem?_eq_getElem (by omega)
    have h2 : Ts[k + 1]? = some Ts[k + 1] := List.getElem?_eq_getElem (by omega)
    obtain ⟨s1, s2⟩ := g.step k _ _ h1 h2
    have p := mq_perm s2 (by omega)
    have ih := g.perm k (by omega)
    rw [tg_some h1] at ih
    unfold fxd
    rw [tg_some h1, tg_some h2]
    rw [List.nil_append] at p
    exact (ih.append_right _).trans p.symm
theorem Mg.take {A : List Int} {Ts : List (List Int)} (g : Mg A Ts) {t : Nat} (h : 1 ≤ t) : Mg A (Ts.take t) := by
  refine ⟨by rw [List.getElem?_take_of_lt (by omega)]; exact g.head, fun S hS => g.sorted S (List.mem_of_mem_take hS), fun i S Q h1 h2 => ?_, fun S hS => g.small S (List.mem_of_mem_take hS)⟩
  rw [List.getElem?_take] at h1 h2
  split at h1
  · split at h2
    · exact g.step i S Q h1 h2
    · cases h2
  · cases h1
theorem sorted_fx {A : List Int} {Ts : List (List Int)} (g : Mg A Ts) {k : Nat} {S : List Int} (h : Ts[k]? = some S) : sortI (fxd A Ts k) = S := by
  have p := g.perm k (List.getElem?_eq_some_iff.mp h).1
  rw [tg_some h] at p
  exact sort_uniq ((sortI_perm _).trans p) (sortI_sorted _) (g.sorted S (List.mem_of_getElem? h))
theorem intsOf_enc (l : List Int) : intsOf (encI l) = some l := intsOf_map ..
theorem sortedD_enc (l : List Int) : sortedD [.list (encI l)] = some (.list (encI (sortI l))) := by
  show (intsOf (encI l)).map _ = _
  rw [intsOf_enc]
  rfl
section
variable {os : Os}
abbrev lC : XI := lcD (iRg (xaD (xCall lenD (xaD (xIxO 2 (xOp subD (xVar 5) (xC (.int 1)))) xaNil)) xaNil)) (gNm 9) xYes (xOp addD (xOp ixD (xIxO 2 (xVar 5)) (xVar 9)) (xOp ixD (xIxO 2 (xOp subD (xVar 5) (xC (.int 1)))) (xVar 9))) [9]
def encL (Ls : List (List Int)) : List PyData := Ls.map fun l => .list (encI l)
theorem encL_get {Ls : List (List Int)} {i : Nat} {S : List Int} (h : Ls[i]? = some S) : (encL Ls)[i]? = some (.list (encI S)) := by simp [encL, h]
theorem encL_app (a b : List (List Int)) : encL (a ++ b) = encL a ++ encL b := by simp [encL]
@[simp] theorem encL_len (a : List (List Int)) : (encL a).length = a.length := by simp [encL]
theorem zip_range {S Q : List Int} (h : S.length ≤ Q.length) : (List.range S.length).map (fun i => PyData.int ((Q[i]?).getD 0 + (S[i]?).getD 0)) = encI (List.zipWith (· + ·) Q S) := by
  apply List.ext_getElem?
  intro i
  simp only [encI, List.getElem?_map, List.getElem?_zipWith, List.getElem?_range]
  by_cases hi : i < S.length
  · have hq : i < Q.length := by omega
    simp [hi, hq]
  · have : S[i]? = none := by simp; omega
    rw [this]
    simp [hi]
theorem zip_ok {k j : Nat} {Ls : List (List Int)} {S Q : List Int} {x0 x1 x3 x4 x6 x7 x8 x9 x10 : Sl} (hk : os[k]? = some (some (.l (encL Ls)))) (h1 : Ls[j]? = some S) (h2 : Ls[j + 1]? = some Q) (hl : S.length ≤ Q.length) (hz : S.length ≤ 1000000) :
    lC [x0, x1, .o k, x3, x4, .d (.int ((j + 1 : Nat) : Int)), x6, x7, x8, x9, x10] os = some (encI (List.zipWith (· + ·) Q S), os) := by
  have sb : ((j + 1 : Nat) : Int) - 1 = (j : Int) := by omega
  have a1 : ∀ y9, xIxO 2 (xOp subD (xVar 5) (xC (.int 1))) [x0, x1, .o k, x3, x4, .d (.int ((j + 1 : Nat) : Int)), x6, x7, x8, y9, x10] os = some (.list (encI S), os) := fun y9 => a_ixO (j := j) (by
    rw [← sb]
    rfl) (ownAt_o rfl hk) (encL_get h1)
  have a2 : ∀ y9, xIxO 2 (xVar 5) [x0, x1, .o k, x3, x4, .d (.int ((j + 1 : Nat) : Int)), x6, x7, x8, y9, x10] os = some (.list (encI Q), os) := fun y9 => a_ixO (j := j + 1) rfl (ownAt_o rfl hk) (encL_get h2)
  have r1 : iRg (xaD (xCall lenD (xaD (xIxO 2 (xOp subD (xVar 5) (xC (.int 1)))) xaNil)) xaNil) [x0, x1, .o k, x3, x4, .d (.int ((j + 1 : Nat) : Int)), x6, x7, x8, x9, x10] os = some (rangeD 0 S.length, os) := by
    rw [rg1_ok (j := (S.length : Int)) (os1 := os) (by simp -implicitDefEqProofs only [a_d, a_call, a1, a_nil, Option.bind_some, Option.map_some, datas_d, datas_nil, lenD_list, encI_len]) (by omega) (by omega), Int.toNat_natCast]
  rw [← zip_range hl]
  refine lcD_all (l := List.range S.length) (f := fun i => .int ((0 : Int) + (i : Int))) r1 (fun i hi => ?_) (by rw [List.length_range, DL.sizeLine_eq]; omega)
  have hi2 : i < S.length := List.mem_range.mp hi
  have g1 : S[i]? = some S[i] := by simp [hi2]
  have g2 : Q[i]? = some Q[i] := List.getElem?_eq_getElem (by omega)
  have i1 : ixD (.list (encI S)) (.int (i : Int)) = some (.int S[i]) := ixD_list (encI_get g1)
  have i2 : ixD (.list (encI Q)) (.int (i : Int)) = some (.int Q[i]) := ixD_list (encI_get g2)
  refine ⟨[x0, x1, .o k, x3, x4, .d (.int ((j + 1 : Nat) : Int)), x6, x7, x8, .d (.int (i : Int)), x10], ?_, ?_⟩
  · have : (0 : Int) + (i : Int) = (i : Int) := by omega
    rw [this]
    rfl
  · rw [g1, g2]
    simp -implicitDefEqProofs only [a_op, a1, a2, a_var, List.getElem?_cons_succ, List.getElem?_cons_zero, slD_d, Option.map_some, Option.bind_some, i1, i2, addD_int, Option.getD_some]
theorem fx_run {k : Nat} {A : List Int} {Ls : List (List Int)} {x0 x1 x3 x6 x7 x8 x9 x10 : Sl} (g : Mg A Ls) (hk : os[k]? = some (some (.l (encL Ls)))) : ∀ (n j : Nat) (x5 : Sl), j + 1 + n = Ls.length → ∃ x5',
    forRun (gNm 5) (sAsg (xOp addD (xVar 4) (xF lC)) (gNm 4)) (rangeD ((j + 1 : Nat) : Int) n) [x0, x1, .o k, x3, .d (.list (encI (fxd A Ls j))), x5, x6, x7, x8, x9, x10] os = some (.nx [x0, x1, .o k, x3, .d (.list (encI (fxd A Ls (j + n)))), x5', x6, x7, x8, x9, x10] os)
  | 0, j, x5, _ => ⟨x5, by simp [rangeD, forRun]⟩
  | n + 1, j, x5, h => by
    have h1 : Ls[j]? = some Ls[j] := List.getElem?_eq_getElem (by omega)
    have h2 : Ls[j + 1]? = some Ls[j + 1] := List.getElem?_eq_getElem (by omega)
    obtain ⟨s1, s2⟩ := g.step j _ _ h1 h2
    have l1 := g.small _ (List.mem_of_getElem? h1)
    have l2 := g.small _ (List.mem_of_getElem? h2)
    obtain ⟨x5', ih⟩ := fx_run (x0 := x0) (x1 := x1) (x3 := x3) (x6 := x6) (x7 := x7) (x8 := x8) (x9 := x9) (x10 := x10) g hk n (j + 1) (.d (.int ((j + 1 : Nat) : Int))) (by omega)
    refine ⟨x5', ?_⟩
    have z1 := zip_ok (x0 := x0) (x1 := x1) (x3 := x3) (x4 := .d (.list (encI (fxd A Ls j)))) (x6 := x6) (x7 := x7) (x8 := x8) (x9 := x9) (x10 := x10) hk h1 h2 (by omega) l1
    have e1 : fxd A Ls (j + 1) = fxd A Ls j ++ List.zipWith (· + ·) Ls[j + 1] Ls[j] := by
      show fxd A Ls j ++ List.zipWith (· + ·) (tg Ls (j + 1)) (tg Ls j) = _
      rw [tg_some h1, tg_some h2]
    have p1 := (g.perm (j + 1) (by omega)).length_eq
    rw [tg_some h2, e1, List.length_append] at p1
    have a1 : addD (.list (encI (fxd A Ls j))) (.list (encI (List.zipWith (· + ·) Ls[j + 1] Ls[j]))) = some (.list (encI (fxd A Ls (j + 1)))) := by
      rw [addD_list (by rw [encI_len, encI_len, DL.sizeLine_eq]; omega), e1, encI_app]
    have t1 : gNm 5 (.int ((j + 1 : Nat) : Int)) [x0, x1, .o k, x3, .d (.list (encI (fxd A Ls j))), x5, x6, x7, x8, x9, x10] = some [x0, x1, .o k, x3, .d (.list (encI (fxd A Ls j))), .d (.int ((j + 1 : Nat) : Int)), x6, x7, x8, x9, x10] := rfl
    have b1 : sAsg (xOp addD (xVar 4) (xF lC)) (gNm 4) [x0, x1, .o k, x3, .d (.list (encI (fxd A Ls j))), .d (.int ((j + 1 : Nat) : Int)), x6, x7, x8, x9, x10] os = some (.nx [x0, x1, .o k, x3, .d (.list (encI (fxd A Ls (j + 1)))), .d (.int ((j + 1 : Nat) : Int)), x6, x7, x8, x9, x10] os) := by
      simp -implicitDefEqProofs only [a_asg, a_op, a_F, z1, a1, a_var, a_nm, List.getElem?_cons_succ, List.getElem?_cons_zero, slD_d, Option.map_some, Option.bind_some, List.set_cons_succ, List.set_cons_zero]
    have e2 : ((j + 1 : Nat) : Int) + 1 = ((j + 1 + 1 : Nat) : Int) := rfl
    rw [rangeD_cons, forRun, t1, Option.bind_some, b1, Option.bind_some]
    simp only
    rw [e2, ih]
    have e3 : j + 1 + n = j + (n + 1) := by omega
    rw [e3]
/-- the first list -/
def fA (c : Int) : List Int := 1 :: List.replicate c.toNat 2
theorem fA_ex {c : Int} : ex (A1 c) = fA c := by
  unfold A1 fA
  split
  · rw [ex_cons, ex_cons]
    simp
  · rw [ex_cons]
    have : c.toNat = 0 := by omega
    simp [this]
theorem fA_ok {v : Nat} {c : Int} {ρ : List Sl} (h : slD ρ[v]? = some (.int c)) (h0 : 0 ≤ c) (h1 : c ≤ 1000) : (xOp addD (xCall lstD (xaD (xC (.int 1)) xaNil)) (xF (fRep (fLst (xaD (xC (.int 2)) xaNil)) (xVar v)))) ρ os = some (.list (encI (fA c)), os) := by
  have r1 : fRep (fLst (xaD (xC (.int 2)) xaNil)) (xVar v) ρ os = some (encI (List.replicate c.toNat 2), os) := by
    have f1 : fLst (xaD (xC (.int 2)) xaNil) ρ os = some ([.int 2], os) := by
      simp -implicitDefEqProofs [sizeLine]
    have e1 : (List.replicate c.toNat [PyData.int 2]).flatten = encI (List.replicate c.toNat 2) := by
      simp [encI, List.flatten_replicate_singleton]
    unfold fRep
    rw [f1, Option.bind_some, a_var, h, Option.map_some, Option.bind_some]
    simp only
    rw [if_pos (by
      refine ⟨by omega, by omega, ?_⟩
      rw [DL.sizeLine_eq]
      simp
      omega), e1]
  have a1 : addD (.list [.int 1]) (.list (encI (List.replicate c.toNat 2))) = some (.list (encI (fA c))) := by
    rw [addD_list (by
      rw [encI_len, List.length_replicate, DL.sizeLine_eq]
      simp
      omega)]
    rfl
  simp -implicitDefEqProofs only [a_op, a_call, a_F, a_d, a_c, a_nil, r1, Option.map_some, Option.bind_some, datas_d, datas_nil, lstD_1, a1]
abbrev tB : SE := (sSeq (sAsg (xOp addD (xCall lstD (xaD (xC (.int 1)) xaNil)) (xF (fRep (fLst (xaD (xC (.int 2)) xaNil)) (xVar 0)))) (gNm 4))
  (sSeq (sFor (iRg (xaD (xC (.int 1)) (xaD (xLenO 2) xaNil))) (gNm 5)
  (sAsg (xOp addD (xVar 4) (xF lC)) (gNm 4)))
  (sSeq (sTupV [4, 7, 8, 5, 9] (xaS (xrD (xCall sortedD (xaD (xVar 4) xaNil))) (xaS (xrD (xIxO 2 (xUn negD (xC (.int 1))))) (xaS (xsOwn (fLst xaNil)) (xaS (xrD (xC (.int 0))) (xaS (xrD (xC (.int 0))) xaNil))))))
  (sSeq (sFor (iRg (xaD (xOp addD (xCall lenD (xaD (xVar 4) xaNil)) (xCall lenD (xaD (xVar 7) xaNil))) xaNil)) (gNm 6) mB)
  (sFrz 8 (sApp 2 (xVar 8)))))))
def oT (os : Os) (Ls : List (List Int)) (j : Nat) : Os := os ++ some (.l (encL Ls)) :: List.replicate j none
theorem oT_get {Ls : List (List Int)} {j : Nat} : (oT os Ls j)[os.length]? = some (some (.l (encL Ls))) := by
  unfold oT
  simp
theorem turn_ok {c : Int} {Ts : List (List Int)} {x1 x3 x4 x5 x6 x7 x8 x9 x10 : Sl} (g : Mg (fA c) Ts) (hT : Ts.length ≤ 1000) (h0 : 0 ≤ c) (h1 : c ≤ 1000) (j : Nat) (hj : j + 1 < Ts.length) :
    ∃ y4 y5 y6 y7 y8 y9 y10, tB [.d (.int c), x1, .o os.length, x3, x4, x5, x6, x7, x8, x9, x10] (oT os (Ts.take (j + 1)) j) = some (.nx [.d (.int c), x1, .o os.length, x3, y4, y5, y6, y7, y8, y9, y10] (oT os (Ts.take (j + 2)) (j + 1))) := by
  have gt := g.take (t := j + 1) (by omega)
  have ht : (Ts.take (j + 1)).length = j + 1 := by rw [List.length_take]; omega
  have hS : Ts[j]? = some Ts[j] := List.getElem?_eq_getElem (by omega)
  have hQ : Ts[j + 1]? = some Ts[j + 1] := List.getElem?_eq_getElem (by omega)
  generalize Ts[j] = S at hS
  generalize Ts[j + 1] = Q at hQ
  obtain ⟨s1, s2⟩ := g.step j S Q hS hQ
  have lS := g.small _ (List.mem_of_getElem? hS)
  have lQ := g.small _ (List.mem_of_getElem? hQ)
  have hSt : (Ts.take (j + 1))[j]? = some S := by rw [List.getElem?_take_of_lt (by omega)]; exact hS
  have so := sorted_fx gt hSt
  obtain ⟨x5', fx⟩ := fx_run (os := oT os (Ts.take (j + 1)) j) (k := os.length) (x0 := .d (.int c)) (x1 := x1) (x3 := x3) (x6 := x6) (x7 := x7) (x8 := x8) (x9 := x9) (x10 := x10) gt oT_get j 0 x5 (by omega)
  rw [show 0 + j = j by omega] at fx
  have ta : Ts.take (j + 2) = Ts.take (j + 1) ++ [Q] := by
    rw [List.take_succ, hQ]
    rfl
  obtain ⟨a', p', x6', x10', mr⟩ := m_run (os := oT os (Ts.take (j + 1)) j) (x0 := .d (.int c)) (x1 := x1) (x2 := .o os.length) (x3 := x3) (F := S) (L := S) (S.length + S.length) (rangeD 0 (S.length + S.length)) [] 0 0 x6 x10 Q rangeD_len (Nat.zero_le _) (by rw [DL.sizeLine_eq]; simp; omega) (by
    have : S.length + S.length = Q.length := by omega
    rw [this]
    exact s2)
  refine ⟨.d (.list (encI S)), .d (.int a'), x6', .d (.list (encI S)), .d (.list (encI Q)), .d (.int p'), x10', ?_⟩
  have hA := fA_ok (os := oT os (Ts.take (j + 1)) j) (v := 0) (c := c) (ρ := [.d (.int c), x1, .o os.length, x3, x4, x5, x6, x7, x8, x9, x10]) rfl h0 h1
  refine seq_nx (ρ1 := [.d (.int c), x1, .o os.length, x3, .d (.list (encI (fA c))), x5, x6, x7, x8, x9, x10]) (os1 := oT os (Ts.take (j + 1)) j) ?_ ?_
  · rw [a_asg, hA]
    rfl
  have o2 : ∀ (y4 y5 y6 y7 y8 y9 y10 : Sl), ownAt [.d (.int c), x1, .o os.length, x3, y4, y5, y6, y7, y8, y9, y10] (oT os (Ts.take (j + 1)) j) 2 = some (os.length, encL (Ts.take (j + 1))) := fun y4 y5 y6 y7 y8 y9 y10 => ownAt_o rfl oT_get
  refine seq_nx (ρ1 := [.d (.int c), x1, .o os.length, x3, .d (.list (encI (fxd (fA c) (Ts.take (j + 1)) j))), x5', x6, x7, x8, x9, x10]) (os1 := oT os (Ts.take (j + 1)) j) ?_ ?_
  · have l2 : xLenO 2 [.d (.int c), x1, .o os.length, x3, .d (.list (encI (fA c))), x5, x6, x7, x8, x9, x10] (oT os (Ts.take (j + 1)) j) = some (.int ((j + 1 : Nat) : Int), oT os (Ts.take (j + 1)) j) := by
      unfold DL.xLenO
      rw [o2, Option.map_some, encL_len, ht]
    have r1 : iRg (xaD (xC (.int 1)) (xaD (xLenO 2) xaNil)) [.d (.int c), x1, .o os.length, x3, .d (.list (encI (fA c))), x5, x6, x7, x8, x9, x10] (oT os (Ts.take (j + 1)) j) = some (rangeD ((0 + 1 : Nat) : Int) j, oT os (Ts.take (j + 1)) j) := by
      rw [rg2_ok (i := 1) (j := ((j + 1 : Nat) : Int)) (os1 := oT os (Ts.take (j + 1)) j) (by simp -implicitDefEqProofs only [a_d, a_c, l2, a_nil, Option.bind_some, Option.map_some]) (by decide) (by decide) (by omega) (by omega)]
      have : (((j + 1 : Nat) : Int) - 1).toNat = j := by omega
      rw [this]
      rfl
    rw [a_for, r1, Option.bind_some]
    exact fx
  refine seq_nx (ρ1 := [.d (.int c), x1, .o os.length, x3, .d (.list (encI S)), .d (.int 0), x6, .d (.list (encI S)), .o (oT os (Ts.take (j + 1)) j).length, .d (.int 0), x10]) (os1 := oT os (Ts.take (j + 1)) j ++ [some (.l (encI []))]) ?_ ?_
  · have i1 : xIxO 2 (xUn negD (xC (.int 1))) [.d (.int c), x1, .o os.length, x3, .d (.list (encI (fxd (fA c) (Ts.take (j + 1)) j))), x5', x6, x7, x8, x9, x10] (oT os (Ts.take (j + 1)) j) = some (.list (encI S), oT os (Ts.take (j + 1)) j) := by
      have at1 : atI (encL (Ts.take (j + 1))) (-1) = some (.list (encI S)) := by
        unfold L2.atI ixN
        rw [if_neg (by omega), encL_len, ht, if_pos (by omega)]
        have e : ((-1 : Int) + ((j + 1 : Nat) : Int)).toNat = j := by omega
        rw [Option.bind_some, e]
        exact encL_get hSt
      unfold xIxO
      rw [a_un, a_c, Option.bind_some, negD_int, Option.map_some, Option.bind_some]
      simp only
      rw [o2, Option.bind_some]
      simp only
      rw [at1]
      rfl
    simp -implicitDefEqProofs only [a_tupV, a_s, a_rD, a_call, a_d, a_nil, a_var, a_c, a_sown, a_fLst, i1, List.getElem?_cons_succ, List.getElem?_cons_zero, slD_d, Option.map_some, Option.bind_some, datas_d, datas_nil, sortedD_enc, so]
    rfl
  refine seq_nx (ρ1 := mR (.d (.int c)) x1 (.o os.length) x3 S a' x6' S (oT os (Ts.take (j + 1)) j).length p' x10') (os1 := oT os (Ts.take (j + 1)) j ++ [some (.l (encI Q))]) ?_ ?_
  · have r1 : iRg (xaD (xOp addD (xCall lenD (xaD (xVar 4) xaNil)) (xCall lenD (xaD (xVar 7) xaNil))) xaNil) [.d (.int c), x1, .o os.length, x3, .d (.list (encI S)), .d (.int 0), x6, .d (.list (encI S)), .o (oT os (Ts.take (j + 1)) j).length, .d (.int 0), x10] (oT os (Ts.take (j + 1)) j ++ [some (.l (encI []))]) = some (rangeD 0 (S.length + S.length), oT os (Ts.take (j + 1)) j ++ [some (.l (encI []))]) := by
      rw [rg1_ok (j := (S.length : Int) + (S.length : Int)) (os1 := oT os (Ts.take (j + 1)) j ++ [some (.l (encI []))]) (by simp -implicitDefEqProofs only [a_d, a_op, a_call, a_var, a_nil, List.getElem?_cons_succ, List.getElem?_cons_zero, slD_d, Option.bind_some, Option.map_some, datas_d, datas_nil, lenD_list, encI_len, addD_int]) (by omega) (by omega)]
      have : ((S.length : Int) + (S.length : Int)).toNat = S.length + S.length := by omega
      rw [this]
    rw [a_for, r1, Option.bind_some]
    exact mr
  · have o8 : ownAt (mR (.d (.int c)) x1 (.o os.length) x3 S a' x6' S (oT os (Ts.take (j + 1)) j).length p' x10') (oT os (Ts.take (j + 1)) j ++ [some (.l (encI Q))]) 8 = some ((oT os (Ts.take (j + 1)) j).length, encI Q) := ownAt_o rfl (by simp)
    have st : (oT os (Ts.take (j + 1)) j ++ [some (Ob.l (encI Q))]).set (oT os (Ts.take (j + 1)) j).length none = oT os (Ts.take (j + 1)) (j + 1) := by
      rw [List.set_append_right _ _ (Nat.le_refl _)]
      unfold oT
      simp [List.replicate_succ']
    unfold DL.sFrz
    rw [o8, Option.bind_some]
    simp only
    rw [st]
    have o3 : ownAt ((mR (.d (.int c)) x1 (.o os.length) x3 S a' x6' S (oT os (Ts.take (j + 1)) j).length p' x10').set 8 (.d (.list (encI Q)))) (oT os (Ts.take (j + 1)) (j + 1)) 2 = some (os.length, encL (Ts.take (j + 1))) := ownAt_o rfl oT_get
    have x8 : xVar 8 ((mR (.d (.int c)) x1 (.o os.length) x3 S a' x6' S (oT os (Ts.take (j + 1)) j).length p' x10').set 8 (.d (.list (encI Q)))) (oT os (Ts.take (j + 1)) (j + 1)) = some (.list (encI Q), oT os (Ts.take (j + 1)) (j + 1)) := rfl
    have st2 : (oT os (Ts.take (j + 1)) (j + 1)).set os.length (some (.l (encL (Ts.take (j + 1)) ++ [.list (encI Q)]))) = oT os (Ts.take (j + 2)) (j + 1) := by
      unfold oT
      rw [List.set_append_right _ _ (Nat.le_refl _), Nat.sub_self, ta, encL_app]
      rfl
    unfold DL.sApp
    rw [o3, Option.bind_some, x8, Option.bind_some]
    simp only
    rw [o3, Option.bind_some]
    simp only
    rw [if_pos (by rw [encL_len, ht, DL.sizeLine_eq]; omega), st2]
    rfl
theorem turns_ok {c : Int} {Ts : List (List Int)} {x1 : Sl} (g : Mg (fA c) Ts) (hT : Ts.length ≤ 1000) (h0 : 0 ≤ c) (h1 : c ≤ 1000) : ∀ (m j : Nat) (x3 x4 x5 x6 x7 x8 x9 x10 : Sl) (lo : Int), j + 1 + m = Ts.length →
    ∃ y3 y4 y5 y6 y7 y8 y9 y10, forRun (gNm 3) tB (rangeD lo m) [.d (.int c), x1, .o os.length, x3, x4, x5, x6, x7, x8, x9, x10] (oT os (Ts.take (j + 1)) j) = some (.nx [.d (.int c), x1, .o os.length, y3, y4, y5, y6, y7, y8, y9, y10] (oT os Ts (j + m)))
  | 0, j, x3, x4, x5, x6, x7, x8, x9, x10, lo, h => by
    refine ⟨x3, x4, x5, x6, x7, x8, x9, x10, ?_⟩
    rw [List.take_of_length_le (by omega)]
    rfl
  | m + 1, j, x3, x4, x5, x6, x7, x8, x9, x10, lo, h => by
    obtain ⟨y4, y5, y6, y7, y8, y9, y10, b1⟩ := turn_ok (os := os) (x1 := x1) (x3 := .d (.int lo)) (x4 := x4) (x5 := x5) (x6 := x6) (x7 := x7) (x8 := x8) (x9 := x9) (x10 := x10) g hT h0 h1 j (by omega)
    obtain ⟨z3, z4, z5, z6, z7, z8, z9, z10, ih⟩ := turns_ok (x1 := x1) g hT h0 h1 m (j + 1) (.d (.int lo)) y4 y5 y6 y7 y8 y9 y10 (lo + 1) (by omega)
    refine ⟨z3, z4, z5, z6, z7, z8, z9, z10, ?_⟩
    have t1 : gNm 3 (.int lo) [.d (.int c), x1, .o os.length, x3, x4, x5, x6, x7, x8, x9, x10] = some [.d (.int c), x1, .o os.length, .d (.int lo), x4, x5, x6, x7, x8, x9, x10] := rfl
    rw [rangeD_cons, forRun, t1, Option.bind_some, b1, Option.bind_some]
    simp only
    rw [ih]
    have e3 : j + 1 + m = j + (m + 1) := by omega
    rw [e3]
theorem law_lists_ok {c n : Int} {Ts : List (List Int)} (ht : Tidy os) (g : Mg (fA c) Ts) (hn : (Ts.length : Int) = n) (hT : Ts.length ≤ 1000) (h0 : 0 ≤ c) (h1 : c ≤ 1000) : m_law_lists [.d (.int c), .d (.int n)] os = some (.list (encL Ts), os) := by
  have hl : 0 < Ts.length := (List.getElem?_eq_some_iff.mp g.head).1
  obtain ⟨y3, y4, y5, y6, y7, y8, y9, y10, r⟩ := turns_ok (os := os) (x1 := .d (.int n)) g hT h0 h1 (Ts.length - 1) 0 .u .u .u .u .u .u .u .u 1 (by omega)
  have t0 : Ts.take 1 = [fA c] := by
    cases Ts with
    | nil => simp at hl
    | cons a b =>
      have := g.head
      simp at this
      simp [this]
  have ot0 : oT os (Ts.take (0 + 1)) 0 = os ++ [some (.l [.list (encI (fA c))])] := by
    unfold oT
    rw [Nat.zero_add, t0]
    rfl
  rw [ot0] at r
  unfold m_law_lists
  rw [m_2]
  have hA := fA_ok (os := os) (v := 0) (c := c) (ρ := [.d (.int c), .d (.int n), .u, .u, .u, .u, .u, .u, .u, .u, .u]) rfl h0 h1
  have b : b_law_lists [.d (.int c), .d (.int n), .u, .u, .u, .u, .u, .u, .u, .u, .u] os = some (.rt (.list (encL Ts)) ((oT os Ts (0 + (Ts.length - 1))).set os.length none)) := by
    unfold b_law_lists
    refine seq_nx (ρ1 := [.d (.int c), .d (.int n), .o os.length, .u, .u, .u, .u, .u, .u, .u, .u]) (os1 := os ++ [some (.l [.list (encI (fA c))])]) ?_ ?_
    · have z1 : (1 : Nat) ≤ sizeLine := by decide
      simp -implicitDefEqProofs only [a_own, a_fLst, a_d, hA, a_nil, Option.map_some, Option.bind_some, datas_d, datas_nil, List.length_cons, List.length_nil, Nat.zero_add, z1, if_true, List.set_cons_succ, List.set_cons_zero]
    refine seq_nx (ρ1 := [.d (.int c), .d (.int n), .o os.length, y3, y4, y5, y6, y7, y8, y9, y10]) (os1 := oT os Ts (0 + (Ts.length - 1))) ?_ ?_
    · have r1 : iRg (xaD (xC (.int 1)) (xaD (xVar 1) xaNil)) [.d (.int c), .d (.int n), .o os.length, .u, .u, .u, .u, .u, .u, .u, .u] (os ++ [some (.l [.list (encI (fA c))])]) = some (rangeD 1 (Ts.length - 1), os ++ [some (.l [.list (encI (fA c))])]) := by
        rw [rg2_ok (i := 1) (j := n) (os1 := os ++ [some (.l [.list (encI (fA c))])]) (by simp -implicitDefEqProofs only [a_d, a_c, a_var, a_nil, List.getElem?_cons_succ, List.getElem?_cons_zero, slD_d, Option.bind_some, Option.map_some]) (by decide) (by decide) (by omega) (by omega)]
        have : (n - 1).toNat = Ts.length - 1 := by omega
        rw [this]
      rw [a_for, r1, Option.bind_some]
      exact r
    · unfold DL.sFrz
      rw [ownAt_o rfl oT_get, Option.bind_some]
      rfl
  have cu : cutW os.length ((oT os Ts (0 + (Ts.length - 1))).set os.length none) = some os := by
    have e : (oT os Ts (0 + (Ts.length - 1))).set os.length none = os ++ none :: List.replicate (0 + (Ts.length - 1)) none := by
      unfold oT
      rw [List.set_append_right _ _ (Nat.le_refl _), Nat.sub_self]
      rfl
    rw [e]
    exact cutW_app ht
  simp -implicitDefEqProofs only [List.reduceReplicate, Nat.reduceSub, b, Option.bind_some, outM_rt, cu, Option.map_some]
end
end Lw

set_option Elab.async false
set_option linter.all false
set_option maxRecDepth 100000
set_option maxHeartbeats 4000000
namespace Lw
open PySem PySem.Spec PyProof.Rows L2 Evl DL
/-! the law's prices -/
theorem chain_get : ∀ {T : List Rw} {L : Rw} {i : Nat} {S Q : Rw}, chain L T → (L :: T)[i]? = some S → (L :: T)[i + 1]? = some Q → LB S = some Q
  | [], L, i, S, Q, _, _, h2 => by
    rw [List.getElem?_cons_succ] at h2
    cases h2
  | r :: t, L, 0, S, Q, h, h1, h2 => by
    cases h1
    cases h2
    exact h.1
  | r :: t, L, i + 1, S, Q, h, h1, h2 => chain_get h.2 (by simpa using h1) (by simpa using h2)
theorem pow_le (a b : Nat) (h : a ≤ b) : (2 : Int) ^ a ≤ 2 ^ b := pow_mono h
theorem Ls.mg {c : Int} {n : Nat} {T : List Rw} (h : Ls c n T) (h0 : 0 ≤ c) (h1 : c ≤ 10) (hn : n ≤ 13) : Mg (fA c) ((A1 c :: T).map ex) := by
  refine ⟨by rw [List.map_cons, fA_ex]; rfl, fun S hS => ?_, fun i S Q hS hQ => ?_, fun S hS => ?_⟩
  · obtain ⟨R, hR, rfl⟩ := List.mem_map.mp hS
    obtain ⟨i, hi, rfl⟩ := List.getElem_of_mem hR
    exact ex_sorted (h.all i _ (List.getElem?_eq_getElem hi)).1.asc
  · rw [List.getElem?_map] at hS hQ
    obtain ⟨R, hR, rfl⟩ := Option.map_eq_some_iff.mp hS
    obtain ⟨P, hP, rfl⟩ := Option.map_eq_some_iff.mp hQ
    obtain ⟨a1, a2, a3⟩ := h.all _ _ hR
    obtain ⟨b1, b2, b3⟩ := h.all _ _ hP
    have hl := chain_get h.ch hR hP
    refine ⟨?_, LB_mq a1 hl⟩
    have e1 := ex_len a1.pos
    have e2 := ex_len b1.pos
    rw [a3] at e1
    rw [b3, Int.pow_succ, ← Int.mul_assoc] at e2
    omega
  · obtain ⟨R, hR, rfl⟩ := List.mem_map.mp hS
    obtain ⟨i, hi, rfl⟩ := List.getElem_of_mem hR
    obtain ⟨a1, a2, a3⟩ := h.all i _ (List.getElem?_eq_getElem hi)
    have e1 := ex_len a1.pos
    have hi2 : i ≤ 13 := by
      have := h.len
      simp at hi
      omega
    have hp := pow_le i 13 hi2
    have hp0 : (0 : Int) ≤ 2 ^ i := by
      have := pow_le 0 i (by omega)
      omega
    have : (c + 1) * 2 ^ i ≤ 11 * 2 ^ 13 := Int.mul_le_mul (by omega) hp hp0 (by omega)
    rw [a3] at e1
    omega
theorem count_ex : ∀ {R : Rw} (x : Int), Pos R → ((ex R).count x : Int) = at1 R x
  | [], x, _ => rfl
  | p :: R, x, h => by
    have h1 := h.hd
    have ih := count_ex x h.tl
    rw [ex_cons, List.count_append, List.count_replicate]
    have e : at1 (p :: R) x = (if p.1 = x then p.2 else 0) + at1 R x := by
      unfold at1
      by_cases z : p.1 = x
      · rw [List.filter_cons_of_pos (by simpa using z), tot_cons, if_pos z]
      · rw [List.filter_cons_of_neg (by simpa using z), if_neg z]
        omega
    rw [e]
    by_cases z : p.1 = x
    · simp only [z, beq_self_eq_true, if_true]
      omega
    · have : (p.1 == x) = false := by simpa using z
      simp only [z, this, if_false, Bool.false_eq_true]
      omega
theorem at_get : ∀ {ps : Rw}, (ps.map (·.1)).Nodup → ∀ k, at1 ps k = getI ps k
  | [], _, k => rfl
  | q :: r, h, k => by
    rw [List.map_cons, List.nodup_cons] at h
    by_cases z : q.1 = k
    · have e : getI (q :: r) k = q.2 := by
        unfold getI
        simp [z]
      have n : at1 r k = 0 := at1_none fun p hp y => h.1 (by rw [z, ← y]; exact List.mem_map.mpr ⟨p, hp, rfl⟩)
      have e2 : at1 (q :: r) k = q.2 + at1 r k := by
        unfold at1
        rw [List.filter_cons_of_pos (by simpa using z), tot_cons]
      rw [e, e2, n]
      omega
    · have e : getI (q :: r) k = getI r k := by
        unfold getI
        rw [List.find?_cons]
        simp [z]
      have e2 : at1 (q :: r) k = at1 r k := by
        unfold at1
        rw [List.filter_cons_of_neg (by simpa using z)]
      rw [e, e2, at_get h.2]
theorem ex_together {ls : List Rw} (h1 : Pos (TT ls)) (h2 : Pos ls.flatten) : (ex (TT ls)).Perm (ex ls.flatten) := by
  rw [List.perm_iff_count]
  intro x
  have c1 := count_ex x h1
  have c2 := count_ex x h2
  have nd : ((ls.flatten.foldl addP []).map (·.1)).Nodup := fold_nodup _ _ (by simp)
  have e1 : at1 (TT ls) x = at1 (ls.flatten.foldl addP []) x := by
    unfold at1 TT
    exact tot_perm ((sortP_perm _).filter _)
  have e2 := fold_get ls.flatten [] x
  have e3 : getI [] x = 0 := rfl
  rw [e1, at_get nd, e2, e3] at c1
  omega
theorem ex_flat : ∀ (ls : List Rw), ex ls.flatten = (ls.map ex).flatten
  | [] => rfl
  | a :: r => by rw [List.flatten_cons, ex_app, ex_flat r]; rfl
theorem ex_dbl : ∀ (R : Rw), ex (dbl R) = (ex R).map (2 * ·)
  | [] => rfl
  | p :: R => by
    have e : dbl (p :: R) = (2 * p.1, p.2) :: dbl R := rfl
    rw [e, ex_cons, ex_cons, ex_dbl R, List.map_append, List.map_replicate]
section
variable {os : Os}
theorem dbl_list {x0 x1 x2 x3 y5 : Sl} {S : List Int} (hz : S.length ≤ sizeLine) (hb : ∀ p ∈ S, p.natAbs < 2 ^ 100) : lcD (iLst (xVar 4)) (gNm 5) xYes (xOp mulD (xC (.int 2)) (xVar 5)) [5] [x0, x1, x2, x3, .d (.list (encI S)), y5] os = some (encI (S.map (2 * ·)), os) := by
  have := lcD_all (xi := iLst (xVar 4)) (xg := gNm 5) (te := xOp mulD (xC (.int 2)) (xVar 5)) (vs := [5]) (ρ := [x0, x1, x2, x3, .d (.list (encI S)), y5]) (os := os) (l := S) (f := PyData.int) (h := fun p => .int (2 * p)) rfl (fun p hp => ⟨[x0, x1, x2, x3, .d (.list (encI S)), .d (.int p)], rfl, by
    have : mulD (.int 2) (.int p) = some (.int (2 * p)) := mulD_ok (p := 2) (q := 100) (by decide) (hb p hp) (by decide)
    simp -implicitDefEqProofs [this]⟩) hz
  rw [this]
  simp [encI]
theorem rows_run {x0 x1 x2 : Sl} : ∀ (Ts : List (List Int)) (F : List Int) (y4 y5 : Sl), F.length + Ts.flatten.length ≤ sizeLine → (∀ S ∈ Ts, ∀ p ∈ S, p.natAbs < 2 ^ 100) →
    ∃ z4, forRun (gNm 4) (sAsg (xOp addD (xVar 3) (xF (lcD (iLst (xVar 4)) (gNm 5) xYes (xOp mulD (xC (.int 2)) (xVar 5)) [5]))) (gNm 3)) (encL Ts) [x0, x1, x2, .d (.list (encI F)), y4, y5] os = some (.nx [x0, x1, x2, .d (.list (encI (F ++ (Ts.map fun S : List Int => S.map (2 * ·)).flatten))), z4, y5] os)
  | [], F, y4, y5, _, _ => ⟨y4, by simp [encL, forRun]⟩
  | S :: Ts, F, y4, y5, hz, hb => by
    rw [List.flatten_cons, List.length_append] at hz
    have d1 := dbl_list (os := os) (x0 := x0) (x1 := x1) (x2 := x2) (x3 := .d (.list (encI F))) (y5 := y5) (S := S) (by omega) (hb S (by simp))
    have a1 : addD (.list (encI F)) (.list (encI (S.map (2 * ·)))) = some (.list (encI (F ++ S.map (2 * ·)))) := by
      rw [addD_list (by rw [encI_len, encI_len, List.length_map]; omega), encI_app]
    obtain ⟨z4, ih⟩ := rows_run (x0 := x0) (x1 := x1) (x2 := x2) Ts (F ++ S.map (2 * ·)) (.d (.list (encI S))) y5 (by rw [List.length_append, List.length_map]; omega) (fun R hR => hb R (by simp [hR]))
    refine ⟨z4, ?_⟩
    have e1 : encL (S :: Ts) = .list (encI S) :: encL Ts := rfl
    have t1 : gNm 4 (.list (encI S)) [x0, x1, x2, .d (.list (encI F)), y4, y5] = some [x0, x1, x2, .d (.list (encI F)), .d (.list (encI S)), y5] := rfl
    have b1 : sAsg (xOp addD (xVar 3) (xF (lcD (iLst (xVar 4)) (gNm 5) xYes (xOp mulD (xC (.int 2)) (xVar 5)) [5]))) (gNm 3) [x0, x1, x2, .d (.list (encI F)), .d (.list (encI S)), y5] os = some (.nx [x0, x1, x2, .d (.list (encI (F ++ S.map (2 * ·)))), .d (.list (encI S)), y5] os) := by
      simp -implicitDefEqProofs only [a_asg, a_op, a_F, d1, a1, a_var, a_nm, List.getElem?_cons_succ, List.getElem?_cons_zero, slD_d, Option.map_some, Option.bind_some, List.set_cons_succ, List.set_cons_zero]
    rw [e1, forRun, t1, Option.bind_some, b1, Option.bind_some]
    simp only
    rw [ih, List.map_cons, List.flatten_cons, List.append_assoc]
theorem last_enc {Ts : List (List Int)} {S : List Int} {n : Nat} (h : Ts[n]? = some S) (hl : Ts.length = n + 1) : ixD (.list (encL Ts)) (.int (-1)) = some (.list (encI S)) := by
  show atI (encL Ts) (-1) = _
  unfold L2.atI ixN
  rw [if_neg (by omega), encL_len, hl, if_pos (by omega)]
  have e : ((-1 : Int) + ((n + 1 : Nat) : Int)).toNat = n := by omega
  rw [Option.bind_some, e]
  exact encL_get h
theorem all_small {c : Int} {n : Nat} {T : List Rw} (h : Ls c n T) (hn : n ≤ 13) : ∀ S ∈ (A1 c :: T).map ex, ∀ p ∈ S, p.natAbs < 2 ^ 100 := fun S hS p hp => by
  obtain ⟨R, hR, rfl⟩ := List.mem_map.mp hS
  obtain ⟨i, hi, rfl⟩ := List.getElem_of_mem hR
  obtain ⟨a1, a2, a3⟩ := h.all i _ (List.getElem?_eq_getElem hi)
  obtain ⟨r, hr, rfl⟩ := mem_ex hp
  have b1 := a1.ge hr
  have b2 := a2 r hr
  have hi2 : i ≤ 13 := by
    have := h.len
    simp at hi
    omega
  have hq := pow_le (i + 1) 14 (by omega)
  have : (2 : Nat) ^ 100 > 100000 := by decide
  omega
theorem flat_small {A : List Int} {Ts : List (List Int)} (g : Mg A Ts) (h : Ts.length ≤ 14) : Ts.flatten.length ≤ 14000000 := by
  have : ∀ (l : List (List Int)), (∀ S ∈ l, S.length ≤ 1000000) → l.flatten.length ≤ l.length * 1000000 := fun l => by
    induction l with
    | nil => simp
    | cons a r ih =>
      intro hl
      have := ih fun S hS => hl S (by simp [hS])
      have := hl a (by simp)
      rw [List.flatten_cons, List.length_append, List.length_cons]
      omega
  have := this Ts g.small
  omega
theorem law_prices_ok {Z : Cs} {x : Str} {c e : Int} {R : Rw} (ht : Tidy os) (hk : Kd x) (h0 : 0 ≤ c) (h1 : c ≤ 10) (he : low x ≤ e) (he2 : e ≤ 12) (hb : beside x c e = some R) (gR : Good R) :
    m_law_prices [.d (.str x), .d (.int c), .d (.int e)] os = some (.list (encI (ex R)), os) := by
  have eo : eqD (.str "over") (.str "over") = some (.bool true) := by kernel_rfl
  have ei : eqD (.str "into") (.str "over") = some (.bool false) := by kernel_rfl
  have ew : eqD (.str "whole") (.str "over") = some (.bool false) := by kernel_rfl
  have ii : eqD (.str "into") (.str "into") = some (.bool true) := by kernel_rfl
  have wi : eqD (.str "whole") (.str "into") = some (.bool false) := by kernel_rfl
  unfold m_law_prices
  rw [m_3]
  rcases hk with rfl | rfl | rfl
  · have hl : low "over" = 0 := by unfold low; rw [if_neg n_oi]
    rw [hl] at he
    have fa := fA_ok (os := os) (v := 1) (c := c) (ρ := [.d (.str "over"), .d (.int c), .d (.int e), .u, .u, .u]) rfl h0 (by omega)
    have fin : ∀ (F : List Int) (y4 y5 : Sl), F.Perm (ex R) → sRet (xCall sortedD (xaD (xVar 3) xaNil)) [.d (.str "over"), .d (.int c), .d (.int e), .d (.list (encI F)), y4, y5] os = some (.rt (.list (encI (ex R))) os) := fun F y4 y5 hp => by
      have : sortI F = ex R := sort_uniq ((sortI_perm _).trans hp) (sortI_sorted _) (ex_sorted gR.asc)
      simp -implicitDefEqProofs only [a_ret, a_call, a_d, a_var, a_nil, List.getElem?_cons_succ, List.getElem?_cons_zero, slD_d, Option.map_some, Option.bind_some, datas_d, datas_nil, sortedD_enc, this]
    by_cases hz : e = 0
    · subst hz
      unfold beside at hb
      rw [if_neg n_oi, if_neg n_ow, if_pos rfl] at hb
      cases hb
      have hp : (fA c).Perm (ex (TT [A1 c])) := by
        have p := ex_together (ls := [A1 c]) gR.pos (by
          have : [A1 c].flatten = A1 c := by simp
          rw [this]
          exact (A1_good h0).1.pos)
        have e1 : [A1 c].flatten = A1 c := by simp
        rw [e1, fA_ex] at p
        exact p.symm
      have f := fin (fA c) .u .u hp
      have q : ¬ ((0 : Int) > 0) := by omega
      have s1 : sAsg (xOp addD (xCall lstD (xaD (xC (.int 1)) xaNil)) (xF (fRep (fLst (xaD (xC (.int 2)) xaNil)) (xVar 1)))) (gNm 3) [.d (.str "over"), .d (.int c), .d (.int 0), .u, .u, .u] os = some (.nx [.d (.str "over"), .d (.int c), .d (.int 0), .d (.list (encI (fA c))), .u, .u] os) := by
        rw [a_asg, fa]
        rfl
      have hi : iLst (xIf (xBool (xOp gtD (xVar 2) (xC (.int 0)))) (xFn m_law_lists (xaD (xVar 1) (xaD (xVar 2) xaNil))) (xCall lstD xaNil)) [.d (.str "over"), .d (.int c), .d (.int 0), .d (.list (encI (fA c))), .u, .u] os = some ([], os) := by
        simp -implicitDefEqProofs [q]
      have s2 : sFor (iLst (xIf (xBool (xOp gtD (xVar 2) (xC (.int 0)))) (xFn m_law_lists (xaD (xVar 1) (xaD (xVar 2) xaNil))) (xCall lstD xaNil))) (gNm 4) (sAsg (xOp addD (xVar 3) (xF (lcD (iLst (xVar 4)) (gNm 5) xYes (xOp mulD (xC (.int 2)) (xVar 5)) [5]))) (gNm 3)) [.d (.str "over"), .d (.int c), .d (.int 0), .d (.list (encI (fA c))), .u, .u] os = some (.nx [.d (.str "over"), .d (.int c), .d (.int 0), .d (.list (encI (fA c))), .u, .u] os) := by
        rw [a_for, hi, Option.bind_some]
        rfl
      have c1 : (xBool (xOp eqD (xVar 0) (xC (.str "over")))) [.d (.str "over"), .d (.int c), .d (.int 0), .u, .u, .u] os = some (true, os) := by
        simp -implicitDefEqProofs only [a_bool, a_op, a_var, a_c, List.getElem?_cons_zero, slD_d, Option.map_some, Option.bind_some, eo, boolOf_bool]
      have b : b_law_prices [.d (.str "over"), .d (.int c), .d (.int 0), .u, .u, .u] os = some (.rt (.list (encI (ex (TT [A1 c])))) os) := by
        unfold b_law_prices
        rw [a_seq, a_sIf, c1, Option.bind_some, if_pos rfl, seq_nx s1 (seq_nx s2 f)]
        rfl
      simp -implicitDefEqProofs only [List.reduceReplicate, Nat.reduceSub, b, Option.bind_some, Option.map_some, outM_rt, cutW_self ht]
    · obtain ⟨n, rfl⟩ : ∃ n : Nat, e = (n : Int) + 1 := ⟨(e - 1).toNat, by omega⟩
      obtain ⟨T, hT⟩ := lst_ok h0 n (by omega)
      have g := hT.mg h0 h1 (by omega)
      have h5 : ((n : Int) + 1 - 1).toNat = n := by omega
      unfold beside at hb
      rw [if_neg n_oi, if_neg n_ow, if_neg hz, h5, hT.l] at hb
      cases hb
      have ln : ((A1 c :: T).map ex).length = n + 1 := by simp [hT.len]
      have ll := law_lists_ok (os := os) (n := (n : Int) + 1) ht g (by rw [ln]; rfl) (by omega) h0 (by omega)
      have fs := flat_small g (by omega)
      obtain ⟨z4, rr⟩ := rows_run (os := os) (x0 := .d (.str "over")) (x1 := .d (.int c)) (x2 := .d (.int ((n : Int) + 1))) ((A1 c :: T).map ex) (fA c) .u .u (by
        have : (fA c).length = c.toNat + 1 := by simp [fA]
        rw [this, DL.sizeLine_eq]
        omega) (all_small hT (by omega))
      have hp : (fA c ++ (((A1 c :: T).map ex).map fun S : List Int => S.map (2 * ·)).flatten).Perm (ex (TT (A1 c :: (A1 c :: T).map dbl))) := by
        have p := ex_together (ls := A1 c :: (A1 c :: T).map dbl) gR.pos (fun r hr => by
          obtain ⟨L, hL, hrL⟩ := List.mem_flatten.mp hr
          rcases List.mem_cons.mp hL with rfl | hL
          · exact (A1_good h0).1.pos r hrL
          · obtain ⟨P, hP, rfl⟩ := List.mem_map.mp hL
            obtain ⟨q, hq, rfl⟩ := List.mem_map.mp hrL
            obtain ⟨i, hi, rfl⟩ := List.getElem_of_mem hP
            exact (hT.all i _ (List.getElem?_eq_getElem hi)).1.pos q hq)
        rw [List.flatten_cons, ex_app, fA_ex, ex_flat, List.map_map] at p
        have e1 : ((A1 c :: T).map (ex ∘ dbl)) = (((A1 c :: T).map ex).map fun S : List Int => S.map (2 * ·)) := by
          rw [List.map_map]
          exact List.map_congr_left fun R _ => ex_dbl R
        rw [e1] at p
        exact p.symm
      have f := fin _ z4 .u hp
      have q : (n : Int) + 1 > 0 := by omega
      have s1 : sAsg (xOp addD (xCall lstD (xaD (xC (.int 1)) xaNil)) (xF (fRep (fLst (xaD (xC (.int 2)) xaNil)) (xVar 1)))) (gNm 3) [.d (.str "over"), .d (.int c), .d (.int ((n : Int) + 1)), .u, .u, .u] os = some (.nx [.d (.str "over"), .d (.int c), .d (.int ((n : Int) + 1)), .d (.list (encI (fA c))), .u, .u] os) := by
        rw [a_asg, fa]
        rfl
      have hi : iLst (xIf (xBool (xOp gtD (xVar 2) (xC (.int 0)))) (xFn m_law_lists (xaD (xVar 1) (xaD (xVar 2) xaNil))) (xCall lstD xaNil)) [.d (.str "over"), .d (.int c), .d (.int ((n : Int) + 1)), .d (.list (encI (fA c))), .u, .u] os = some (encL ((A1 c :: T).map ex), os) := by
        simp -implicitDefEqProofs only [a_iLst, a_if, a_bool, a_op, a_var, a_c, List.getElem?_cons_succ, List.getElem?_cons_zero, slD_d, Option.map_some, Option.bind_some, gtD_int, q, decide_true, boolOf_bool, if_true, a_fn, a_d, a_nil, ll, listOf_list]
      have s2 : sFor (iLst (xIf (xBool (xOp gtD (xVar 2) (xC (.int 0)))) (xFn m_law_lists (xaD (xVar 1) (xaD (xVar 2) xaNil))) (xCall lstD xaNil))) (gNm 4) (sAsg (xOp addD (xVar 3) (xF (lcD (iLst (xVar 4)) (gNm 5) xYes (xOp mulD (xC (.int 2)) (xVar 5)) [5]))) (gNm 3)) [.d (.str "over"), .d (.int c), .d (.int ((n : Int) + 1)), .d (.list (encI (fA c))), .u, .u] os = some (.nx [.d (.str "over"), .d (.int c), .d (.int ((n : Int) + 1)), .d (.list (encI (fA c ++ (((A1 c :: T).map ex).map fun S : List Int => S.map (2 * ·)).flatten))), z4, .u] os) := by
        rw [a_for, hi, Option.bind_some]
        exact rr
      have c1 : (xBool (xOp eqD (xVar 0) (xC (.str "over")))) [.d (.str "over"), .d (.int c), .d (.int ((n : Int) + 1)), .u, .u, .u] os = some (true, os) := by
        simp -implicitDefEqProofs only [a_bool, a_op, a_var, a_c, List.getElem?_cons_zero, slD_d, Option.map_some, Option.bind_some, eo, boolOf_bool]
      have b : b_law_prices [.d (.str "over"), .d (.int c), .d (.int ((n : Int) + 1)), .u, .u, .u] os = some (.rt (.list (encI (ex (TT (A1 c :: (A1 c :: T).map dbl))))) os) := by
        unfold b_law_prices
        rw [a_seq, a_sIf, c1, Option.bind_some, if_pos rfl, seq_nx s1 (seq_nx s2 f)]
        rfl
      simp -implicitDefEqProofs only [List.reduceReplicate, Nat.reduceSub, b, Option.bind_some, Option.map_some, outM_rt, cutW_self ht]
  · have hl : low "into" = 1 := by unfold low; rw [if_pos rfl]
    rw [hl] at he
    obtain ⟨n, rfl⟩ : ∃ n : Nat, e = (n : Int) + 1 := ⟨(e - 1).toNat, by omega⟩
    obtain ⟨T, hT⟩ := lst_ok h0 n (by omega)
    have g := hT.mg h0 h1 (by omega)
    have h5 : ((n : Int) + 1 - 1).toNat = n := by omega
    unfold beside at hb
    rw [if_pos rfl, h5, hT.l, Option.map_some, getLast_lastR] at hb
    cases hb
    have ln : ((A1 c :: T).map ex).length = n + 1 := by simp [hT.len]
    have ll := law_lists_ok (os := os) (n := (n : Int) + 1) ht g (by rw [ln]; rfl) (by omega) h0 (by omega)
    have la := last_enc (Ts := (A1 c :: T).map ex) (S := ex (lastR (A1 c) T)) (n := n) (by rw [List.getElem?_map, ← hT.len, lastR_get]; rfl) ln
    simp -implicitDefEqProofs only [b_law_prices, List.reduceReplicate, Nat.reduceSub, a_seq, a_sIf, a_bool, a_op, a_var, a_c, List.getElem?_cons_succ, List.getElem?_cons_zero, slD_d, Option.map_some, Option.bind_some, ei, boolOf_bool, Bool.false_eq_true, if_false, a_next, a_ret, a_fn, a_d, a_if, ii, if_true, a_nil, ll, a_un, negD_int, la, outM_rt, cutW_self ht]
  · have hl : low "whole" = 0 := by unfold low; rw [if_neg n_wi]
    rw [hl] at he
    obtain ⟨n, rfl⟩ : ∃ n : Nat, e = (n : Int) := ⟨e.toNat, by omega⟩
    obtain ⟨T, hT⟩ := lst_ok h0 n (by omega)
    have g := hT.mg h0 h1 (by omega)
    unfold beside at hb
    rw [if_neg n_wi, if_pos rfl, Int.toNat_natCast, hT.l, Option.map_some, getLast_lastR] at hb
    cases hb
    have ln : ((A1 c :: T).map ex).length = n + 1 := by simp [hT.len]
    have ll := law_lists_ok (os := os) (n := (n : Int) + 1) ht g (by rw [ln]; rfl) (by omega) h0 (by omega)
    have la := last_enc (Ts := (A1 c :: T).map ex) (S := ex (lastR (A1 c) T)) (n := n) (by rw [List.getElem?_map, ← hT.len, lastR_get]; rfl) ln
    simp -implicitDefEqProofs only [b_law_prices, List.reduceReplicate, Nat.reduceSub, a_seq, a_sIf, a_bool, a_op, a_var, a_c, List.getElem?_cons_succ, List.getElem?_cons_zero, slD_d, Option.map_some, Option.bind_some, ew, boolOf_bool, Bool.false_eq_true, if_false, a_next, a_ret, a_fn, a_d, a_if, wi, a_nil, addD_int, ll, a_un, negD_int, la, outM_rt, cutW_self ht]
/-- all that the rows tell, for a kind and a room -/
theorem tell {Z : Cs} {x : Str} {c e : Int} (hk : Kd x) (h0 : 0 ≤ c) (h1 : c < 10 ^ 30) (he : low x ≤ e) (he2 : e ≤ 12) : ∃ R, beside x c e = some R ∧ Tell Z x c e R ∧ tot R = (c + 1) * 2 ^ (e - low x).toNat ∧ ∀ r ∈ R, r.1 ≤ 2 ^ ((e - low x).toNat + 1) := by
  obtain ⟨R, hb, _, gd, ht, hm⟩ := prices_ok (Z := Z) (os := []) (c := c) (e := e) Tidy.nil hk h0 he he2
  have hlow : 0 ≤ low x ∧ low x ≤ 1 := by
    unfold low
    split <;> omega
  refine ⟨R, hb, ⟨fun os hos => ?_, fun os hos => check_beside_ok hos hk h0 he, gd, fun r hr => ?_⟩, ht, hm⟩
  · obtain ⟨R2, hb2, hp2, _⟩ := prices_ok (Z := Z) (os := os) (c := c) (e := e) hos hk h0 he he2
    rw [hb] at hb2
    cases hb2
    exact hp2
  · have b1 := gd.ge hr
    have b2 := hm r hr
    have b3 := gd.pos r hr
    have p1 := pow_le ((e - low x).toNat + 1) 13 (by omega)
    have p2 := pow_le (e - low x).toNat 12 (by omega)
    have e29 : (10 : Int) ^ 30 = 1000000000000000000000000000000 := by decide
    have e100 : (2 : Int) ^ 100 = 1267650600228229401496703205376 := by decide
    have e200 : (2 : Int) ^ 200 = 1267650600228229401496703205376 * 1267650600228229401496703205376 := by decide
    have b4 : r.2 ≤ tot R := by
      obtain ⟨A, B, rfl⟩ := List.append_of_mem hr
      have a1 := tot_pos (S := A) fun x hx => gd.pos x (by simp [hx])
      have a2 := tot_pos (S := B) fun x hx => gd.pos x (by simp [hx])
      rw [tot_app, tot_cons]
      omega
    have p0 : (0 : Int) ≤ 2 ^ (e - low x).toNat := by
      have := pow_le 0 (e - low x).toNat (by omega)
      omega
    have b5 : (c + 1) * 2 ^ (e - low x).toNat ≤ (10 ^ 30) * 2 ^ 12 := Int.mul_le_mul (by omega) p2 p0 (by omega)
    rw [e29] at b5
    rw [e200, e100]
    omega
end
end Lw

set_option Elab.async false
set_option linter.all false
set_option maxRecDepth 100000
set_option maxHeartbeats 4000000
namespace Lw
open PySem PySem.Spec PyProof.Rows L2 Evl DL
/-! lists of prices that are never dearer than others -/
def cn (l : List Int) (x : Int) : Nat := l.countP fun y => decide (y ≤ x)
@[simp] theorem cn_nil (x : Int) : cn [] x = 0 := rfl
theorem cn_cons (y : Int) (l : List Int) (x : Int) : cn (y :: l) x = (if y ≤ x then 1 else 0) + cn l x := by
  unfold cn
  rw [List.countP_cons]
  by_cases h : y ≤ x
  · simp [h]
    omega
  · simp [h]
theorem cn_app (l m : List Int) (x : Int) : cn (l ++ m) x = cn l x + cn m x := List.countP_append ..
theorem cn_perm {l m : List Int} (h : l.Perm m) (x : Int) : cn l x = cn m x := h.countP_eq _
theorem cn_zero {l : List Int} {x : Int} (h : ∀ y ∈ l, x < y) : cn l x = 0 := by
  unfold cn
  rw [List.countP_eq_zero]
  intro y hy
  have := h y hy
  simp
  omega
def Dom (l m : List Int) : Prop := ∀ x, cn m x ≤ cn l x
theorem Dom.refl (l : List Int) : Dom l l := fun _ => Nat.le_refl _
theorem Dom.trans {l m n : List Int} (h : Dom l m) (g : Dom m n) : Dom l n := fun x => Nat.le_trans (g x) (h x)
theorem Dom.nil (l : List Int) : Dom l [] := fun x => Nat.zero_le _
theorem Dom.app {a b c d : List Int} (h : Dom a c) (g : Dom b d) : Dom (a ++ b) (c ++ d) := fun x => by
  rw [cn_app, cn_app]
  have := h x
  have := g x
  omega
theorem Dom.perm {a b c d : List Int} (h : Dom a c) (p : a.Perm b) (q : c.Perm d) : Dom b d := fun x => by
  rw [← cn_perm p, ← cn_perm q]
  exact h x
theorem Dom.left (a b : List Int) : Dom (a ++ b) a := fun x => by
  rw [cn_app]
  omega
abbrev Sd (l : List Int) : Prop := l.Pairwise (· ≤ ·)
theorem cn_ge : ∀ {m : List Int} {i : Nat} {v : Int}, Sd m → m[i]? = some v → i + 1 ≤ cn m v
  | [], _, _, _, h => by simp at h
  | y :: r, 0, v, s, h => by
    cases h
    rw [cn_cons, if_pos (Int.le_refl _)]
    omega
  | y :: r, i + 1, v, s, h => by
    have s2 := List.pairwise_cons.mp s
    rw [List.getElem?_cons_succ] at h
    have := cn_ge s2.2 h
    rw [cn_cons, if_pos (s2.1 v (List.mem_of_getElem? h))]
    omega
theorem cn_at : ∀ {l : List Int} {i : Nat} {v : Int}, Sd l → i + 1 ≤ cn l v → ∃ u, l[i]? = some u ∧ u ≤ v
  | [], i, v, _, h => by simp at h
  | y :: r, i, v, s, h => by
    have s2 := List.pairwise_cons.mp s
    by_cases z : y ≤ v
    · cases i with
      | zero => exact ⟨y, rfl, z⟩
      | succ i =>
        rw [cn_cons, if_pos z] at h
        obtain ⟨u, h1, h2⟩ := cn_at s2.2 (show i + 1 ≤ cn r v by omega)
        exact ⟨u, by simpa using h1, h2⟩
    · have : cn (y :: r) v = 0 := cn_zero fun w hw => by
        rcases List.mem_cons.mp hw with rfl | hw
        · omega
        · have := s2.1 w hw
          omega
      omega
theorem at_le {l m : List Int} {i : Nat} {v : Int} (sl : Sd l) (sm : Sd m) (h : m[i]? = some v) (d : cn m v ≤ cn l v) : ∃ u, l[i]? = some u ∧ u ≤ v :=
  cn_at sl (Nat.le_trans (cn_ge sm h) d)
theorem cn_idx {x : Int} : ∀ {m l : List Int}, (∀ (j : Nat) (v : Int), m[j]? = some v → v ≤ x → ∃ u, l[j]? = some u ∧ u ≤ x) → cn m x ≤ cn l x
  | [], l, _ => Nat.zero_le _
  | v :: m, [], h => by
    rw [cn_zero (fun y hy => ?_)]
    · exact Nat.zero_le _
    · obtain ⟨j, hj, e⟩ := List.getElem_of_mem hy
      rcases Int.lt_or_le x y with z | z
      · exact z
      · obtain ⟨u, h1, _⟩ := h j y (by rw [List.getElem?_eq_getElem hj, e]) z
        simp at h1
  | v :: m, u :: l, h => by
    have ih := cn_idx (m := m) (l := l) fun j w hj hw => by
      obtain ⟨u', h1, h2⟩ := h (j + 1) w (by simpa using hj) hw
      exact ⟨u', by simpa using h1, h2⟩
    rw [cn_cons, cn_cons]
    by_cases z : v ≤ x
    · obtain ⟨u', h1, h2⟩ := h 0 v rfl z
      cases h1
      rw [if_pos z, if_pos h2]
      omega
    · rw [if_neg z]
      omega
theorem zip_get {T S : List Int} {j : Nat} {w : Int} (h : (List.zipWith (· + ·) T S)[j]? = some w) : ∃ t s, T[j]? = some t ∧ S[j]? = some s ∧ w = t + s := by
  rw [List.getElem?_zipWith] at h
  cases e : T[j]? with
  | none => rw [e] at h; cases h
  | some t =>
    cases f : S[j]? with
    | none => rw [e, f] at h; cases h
    | some s =>
      rw [e, f] at h
      cases h
      exact ⟨t, s, rfl, rfl, rfl⟩
theorem zip_mk {T S : List Int} {j : Nat} {t s : Int} (h1 : T[j]? = some t) (h2 : S[j]? = some s) : (List.zipWith (· + ·) T S)[j]? = some (t + s) := by
  rw [List.getElem?_zipWith, h1, h2]
def G1 (l : List Int) : Prop := ∀ y ∈ l, 1 ≤ y
/-- merging keeps it -/
theorem Dom.mk {S S' T T' : List Int} (sS : Sd S) (sS' : Sd S') (sT : Sd T) (sT' : Sd T') (p : T.Perm (S ++ List.zipWith (· + ·) T S)) (p' : T'.Perm (S' ++ List.zipWith (· + ·) T' S')) (gS : G1 S') (gT : G1 T') (h : Dom S S') : Dom T T' := by
  have key : ∀ n : Nat, ∀ x : Int, x < n → cn T' x ≤ cn T x := fun n => by
    induction n with
    | zero =>
      intro x hx
      rw [cn_zero fun y hy => by have := gT y hy; omega]
      exact Nat.zero_le _
    | succ n ih =>
      intro x hx
      rw [cn_perm p, cn_perm p', cn_app, cn_app]
      have h1 := h x
      have h2 : cn (List.zipWith (· + ·) T' S') x ≤ cn (List.zipWith (· + ·) T S) x := cn_idx fun j v hj hv => by
        obtain ⟨t, s, e1, e2, rfl⟩ := zip_get hj
        have g := gS s (List.mem_of_getElem? e2)
        obtain ⟨t2, f1, f2⟩ := at_le sT sT' e1 (ih t (by omega))
        obtain ⟨s2, f3, f4⟩ := at_le sS sS' e2 (h s)
        exact ⟨t2 + s2, zip_mk f1 f3, by omega⟩
      omega
  intro x
  exact key (x.toNat + 1) x (by omega)
theorem Dom.at {l m : List Int} (d : Dom l m) (sl : Sd l) (sm : Sd m) {i : Nat} {v : Int} (h : m[i]? = some v) : ∃ u, l[i]? = some u ∧ u ≤ v := at_le sl sm h (d v)
theorem Dom.len {l m : List Int} (d : Dom l m) (sl : Sd l) (sm : Sd m) : m.length ≤ l.length := by
  rcases Nat.lt_or_ge l.length m.length with z | z
  · obtain ⟨u, h1, _⟩ := d.at sl sm (List.getElem?_eq_getElem z)
    rw [List.getElem?_eq_none (Nat.le_refl _)] at h1
    cases h1
  · exact z
theorem take_le : ∀ {n : Nat} {l m : List Int}, (∀ (j : Nat) (v : Int), m[j]? = some v → ∃ u, l[j]? = some u ∧ u ≤ v) → n ≤ m.length → (l.take n).sum ≤ (m.take n).sum
  | 0, l, m, _, _ => by simp
  | n + 1, l, [], _, h => by simp at h
  | n + 1, [], v :: m, h, _ => by
    obtain ⟨u, h1, _⟩ := h 0 v rfl
    cases h1
  | n + 1, u :: l, v :: m, h, hn => by
    obtain ⟨u', h1, h2⟩ := h 0 v rfl
    cases h1
    have ih := take_le (n := n) (l := l) (m := m) (fun j w hj => by
      obtain ⟨u', h3, h4⟩ := h (j + 1) w (by simpa using hj)
      exact ⟨u', by simpa using h3, h4⟩) (by simpa using hn)
    rw [List.take_succ_cons, List.take_succ_cons, List.sum_cons, List.sum_cons]
    omega
theorem Dom.sum {l m : List Int} (d : Dom l m) (sl : Sd l) (sm : Sd m) {n : Nat} (h : n ≤ m.length) : (l.take n).sum ≤ (m.take n).sum := take_le (fun j v hj => d.at sl sm hj) h
theorem cn_dbl (l : List Int) (x : Int) : cn (l.map (2 * ·)) x = cn l (x / 2) := by
  unfold cn
  rw [List.countP_map]
  apply List.countP_congr
  intro y _
  simp
  omega
theorem Dom.dbl {l m : List Int} (d : Dom l m) : Dom (l.map (2 * ·)) (m.map (2 * ·)) := fun x => by
  rw [cn_dbl, cn_dbl]
  exact d _
theorem Dom.idx {l m : List Int} (h : ∀ (j : Nat) (v : Int), m[j]? = some v → ∃ u, l[j]? = some u ∧ u ≤ v) : Dom l m := fun x => cn_idx fun j v hj hv => by
  obtain ⟨u, h1, h2⟩ := h j v hj
  exact ⟨u, h1, by omega⟩
end Lw

set_option Elab.async false
set_option linter.all false
set_option maxRecDepth 100000
set_option maxHeartbeats 4000000
namespace Lw
open PySem PySem.Spec PyProof.Rows L2 Evl DL
/-! a room against another -/
def Lx (c : Int) (n : Nat) : List Int := ex (((lst c n).map fun l => l.getLast?.getD []).getD [])
theorem Lx_of {c : Int} {n : Nat} {T : List Rw} (h : Ls c n T) : Lx c n = ex (lastR (A1 c) T) := by
  unfold Lx
  rw [h.l, Option.map_some, getLast_lastR]
  rfl
theorem two_pow (n : Nat) : (2 : Int) ^ (n + 1) = 2 * 2 ^ n := by rw [Int.pow_succ]; omega
variable {c : Int}
theorem Lx_ok (hc : 0 ≤ c) {n : Nat} (hn : n ≤ 14) : Sd (Lx c n) ∧ G1 (Lx c n) ∧ ((Lx c n).length : Int) = (c + 1) * 2 ^ n := by
  obtain ⟨T, hT⟩ := lst_ok hc n hn
  obtain ⟨a1, a2, a3⟩ := hT.all _ _ lastR_get
  rw [Lx_of hT]
  refine ⟨ex_sorted a1.asc, fun y hy => ?_, ?_⟩
  · obtain ⟨r, hr, rfl⟩ := mem_ex hy
    exact a1.ge hr
  · rw [ex_len a1.pos, a3, hT.len]
theorem lst_step (hc : 0 ≤ c) {n : Nat} (hn : n ≤ 13) : ∃ l Q, lst c n = some l ∧ lst c (n + 1) = some (l ++ [Q]) ∧ Lx c (n + 1) = ex Q ∧ (Lx c (n + 1)).Perm (Lx c n ++ List.zipWith (· + ·) (Lx c (n + 1)) (Lx c n)) := by
  obtain ⟨T, h⟩ := lst_ok hc n (by omega)
  have e := lastR_get (T := T) (L := A1 c)
  obtain ⟨g1, g2, g3⟩ := h.all _ _ e
  rw [h.len] at g2 g3
  have hp : (2 : Int) ^ (n + 1) ≤ 100000 := by
    have := pow_le (n + 1) 14 (by omega)
    omega
  obtain ⟨Q, q1, q2, q3, q4⟩ := LB_ok g1 g2 hp
  have l1 : lst c (n + 1) = some ((A1 c :: T) ++ [Q]) := by
    unfold lst
    rw [h.l, Option.bind_some, getLast_lastR, q1]
    rfl
  have l2 : Lx c (n + 1) = ex Q := by
    unfold Lx
    rw [l1, Option.map_some, List.getLast?_append]
    rfl
  refine ⟨A1 c :: T, Q, h.l, l1, l2, ?_⟩
  have m := LB_mq g1 q1
  have e1 := ex_len g1.pos
  have e2 := ex_len q2.pos
  have p := mq_perm m (by omega)
  rw [l2, Lx_of h]
  exact p
theorem Lx_succ (hc : 0 ≤ c) {n : Nat} (hn : n ≤ 13) : (Lx c (n + 1)).Perm (Lx c n ++ List.zipWith (· + ·) (Lx c (n + 1)) (Lx c n)) := by
  obtain ⟨l, Q, _, _, _, p⟩ := lst_step hc hn
  exact p
theorem lst_map (hc : 0 ≤ c) : ∀ n : Nat, n ≤ 13 → (lst c n).map (·.map ex) = some ((List.range (n + 1)).map (Lx c))
  | 0, _ => rfl
  | n + 1, h => by
    obtain ⟨l, Q, h1, h2, h3, _⟩ := lst_step hc (show n ≤ 13 by omega)
    have ih := lst_map hc n (by omega)
    rw [h1] at ih
    simp only [Option.map_some, Option.some.injEq] at ih
    rw [h2, Option.map_some, List.map_append, ih, List.range_succ (n := n + 1), List.map_append]
    show some (_ ++ [ex Q]) = some (_ ++ [Lx c (n + 1)])
    rw [h3]
theorem Lx_zero : Lx c 0 = fA c := fA_ex
theorem dom_up (hc : 0 ≤ c) {n : Nat} (hn : n ≤ 13) : Dom (Lx c (n + 1)) (Lx c n) := (Dom.left _ _).perm (Lx_succ hc hn).symm (List.Perm.refl _)
theorem fA_succ (hc : 0 ≤ c) : fA (c + 1) = fA c ++ [2] := by
  have : (c + 1).toNat = c.toNat + 1 := by omega
  unfold fA
  rw [this, List.replicate_succ']
  rfl
theorem dom_cell (hc : 0 ≤ c) : ∀ {n : Nat}, n ≤ 14 → Dom (Lx (c + 1) n) (Lx c n)
  | 0, _ => by
    rw [Lx_zero, Lx_zero, fA_succ hc]
    exact Dom.left _ _
  | n + 1, h => by
    obtain ⟨a1, a2, a3⟩ := Lx_ok hc (n := n) (by omega)
    obtain ⟨b1, b2, b3⟩ := Lx_ok hc (n := n + 1) h
    obtain ⟨c1, c2, c3⟩ := Lx_ok (c := c + 1) (by omega) (n := n) (by omega)
    obtain ⟨d1, d2, d3⟩ := Lx_ok (c := c + 1) (by omega) (n := n + 1) h
    exact Dom.mk c1 a1 d1 b1 (Lx_succ (by omega) (by omega)) (Lx_succ hc (by omega)) a2 b2 (dom_cell hc (by omega))
theorem dom_col (hc : 0 ≤ c) : ∀ {n : Nat}, n ≤ 13 → Dom (Lx c (n + 1)) (Lx (c + 1) n)
  | 0, _ => by
    obtain ⟨b1, b2, b3⟩ := Lx_ok hc (n := 1) (by omega)
    have p := Lx_succ hc (n := 0) (by omega)
    have d := dom_up hc (n := 0) (by omega)
    rw [Lx_zero] at p d
    have f0 : (fA c)[0]? = some 1 := rfl
    obtain ⟨u, h1, h2⟩ := d.at b1 (by rw [← fA_ex]; exact ex_sorted (A1_good hc).1.asc) f0
    have u1 : u = 1 := by
      have := b2 u (List.mem_of_getElem? h1)
      omega
    subst u1
    have z := zip_mk h1 f0
    rw [Lx_zero, fA_succ hc]
    refine Dom.perm (Dom.app (Dom.refl (fA c)) (Dom.idx (l := List.zipWith (· + ·) (Lx c (0 + 1)) (fA c)) (m := [2]) fun j v hj => ?_)) p.symm (List.Perm.refl _)
    match j, hj with
    | 0, hj =>
      cases hj
      exact ⟨_, z, by decide⟩
    | j + 1, hj => simp at hj
  | n + 1, h => by
    obtain ⟨a1, a2, a3⟩ := Lx_ok hc (n := n + 1) (by omega)
    obtain ⟨b1, b2, b3⟩ := Lx_ok hc (n := n + 2) (by omega)
    obtain ⟨c1, c2, c3⟩ := Lx_ok (c := c + 1) (by omega) (n := n) (by omega)
    obtain ⟨d1, d2, d3⟩ := Lx_ok (c := c + 1) (by omega) (n := n + 1) (by omega)
    exact Dom.mk a1 c1 b1 d1 (Lx_succ hc (by omega)) (Lx_succ (by omega) (by omega)) c2 d2 (dom_col hc (by omega))
theorem dom_flat {f g : Nat → List Int} : ∀ {n : Nat}, (∀ i, i < n → Dom (f i) (g i)) → Dom ((List.range n).map f).flatten ((List.range n).map g).flatten
  | 0, _ => Dom.refl _
  | n + 1, h => by
    rw [List.range_succ, List.map_append, List.map_append, List.flatten_append, List.flatten_append]
    refine (dom_flat fun i hi => h i (by omega)).app ?_
    simp
    exact h n (by omega)
def dbI (l : List Int) : List Int := l.map (2 * ·)
/-- over, as a heap of prices -/
def Ov (c : Int) (e : Nat) : List Int := fA c ++ ((List.range e).map fun i => dbI (Lx c i)).flatten
theorem over_perm {e : Int} {R : Rw} (hc : 0 ≤ c) (he : 0 ≤ e) (he2 : e ≤ 13) (hb : beside "over" c e = some R) (gR : Good R) : (ex R).Perm (Ov c e.toNat) := by
  unfold beside at hb
  rw [if_neg n_oi, if_neg n_ow] at hb
  by_cases hz : e = 0
  · subst hz
    rw [if_pos rfl] at hb
    cases hb
    have p := ex_together (ls := [A1 c]) gR.pos (by
      have : [A1 c].flatten = A1 c := by simp
      rw [this]
      exact (A1_good hc).1.pos)
    have e1 : [A1 c].flatten = A1 c := by simp
    rw [e1, fA_ex] at p
    have e2 : Ov c (0 : Int).toNat = fA c := by simp [Ov]
    rw [e2]
    exact p
  · obtain ⟨n, rfl⟩ : ∃ n : Nat, e = (n : Int) + 1 := ⟨(e - 1).toNat, by omega⟩
    obtain ⟨T, hT⟩ := lst_ok hc n (by omega)
    have lm := lst_map hc n (by omega)
    have h5 : ((n : Int) + 1 - 1).toNat = n := by omega
    rw [if_neg hz, h5, hT.l] at hb
    rw [hT.l, Option.map_some] at lm
    simp only [Option.some.injEq] at lm
    cases hb
    have p := ex_together (ls := A1 c :: (A1 c :: T).map dbl) gR.pos (fun r hr => by
      obtain ⟨L, hL, hrL⟩ := List.mem_flatten.mp hr
      rcases List.mem_cons.mp hL with rfl | hL
      · exact (A1_good hc).1.pos r hrL
      · obtain ⟨P, hP, rfl⟩ := List.mem_map.mp hL
        obtain ⟨q, hq, rfl⟩ := List.mem_map.mp hrL
        obtain ⟨i, hi, rfl⟩ := List.getElem_of_mem hP
        exact (hT.all i _ (List.getElem?_eq_getElem hi)).1.pos q hq)
    rw [List.flatten_cons, ex_app, fA_ex, ex_flat, List.map_map] at p
    have e1 : ((A1 c :: T).map (ex ∘ dbl)) = (List.range (n + 1)).map fun i => dbI (Lx c i) := by
      have : (A1 c :: T).map (ex ∘ dbl) = ((A1 c :: T).map ex).map dbI := by
        rw [List.map_map]
        exact List.map_congr_left fun R _ => ex_dbl R
      rw [this, lm, List.map_map]
      rfl
    rw [e1] at p
    have e3 : ((n : Int) + 1).toNat = n + 1 := by omega
    unfold Ov
    rw [e3]
    exact p
theorem into_eq {e : Int} {R : Rw} (he : 1 ≤ e) (hb : beside "into" c e = some R) : ex R = Lx c (e - 1).toNat := by
  unfold beside at hb
  rw [if_pos rfl] at hb
  unfold Lx
  rw [hb]
  rfl
theorem whole_eq' {e : Int} {R : Rw} (hb : beside "whole" c e = some R) : ex R = Lx c e.toNat := by
  unfold beside at hb
  rw [if_neg n_wi, if_pos rfl] at hb
  unfold Lx
  rw [hb]
  rfl
theorem Ov_cell (hc : 0 ≤ c) {e : Nat} (he : e ≤ 13) : Dom (Ov (c + 1) e) (Ov c e) := by
  unfold Ov
  rw [fA_succ hc]
  exact (Dom.left _ _).app (dom_flat fun i hi => (dom_cell hc (by omega)).dbl)
theorem range_cons (e : Nat) (f : Nat → List Int) : ((List.range (e + 1)).map f).flatten = f 0 ++ ((List.range e).map fun i => f (i + 1)).flatten := by
  rw [List.range_succ_eq_map, List.map_cons, List.map_map, List.flatten_cons]
  rfl
theorem Ov_col (hc : 0 ≤ c) {e : Nat} (he : e ≤ 12) : Dom (Ov c (e + 1)) (Ov (c + 1) e) := by
  unfold Ov
  rw [range_cons, ← List.append_assoc, fA_succ hc, Lx_zero]
  refine Dom.app (Dom.app (Dom.refl _) ?_) (dom_flat fun i hi => (dom_col hc (by omega)).dbl)
  have : dbI (fA c) = [2] ++ dbI (List.replicate c.toNat 2) := rfl
  rw [this]
  exact Dom.left _ _
/-- what is added from list to list -/
theorem Lx_sum (hc : 0 ≤ c) : ∀ {e : Nat}, e ≤ 13 → (Lx c e).Perm (fA c ++ ((List.range e).map fun i => List.zipWith (· + ·) (Lx c (i + 1)) (Lx c i)).flatten)
  | 0, _ => by
    rw [Lx_zero]
    simp
  | e + 1, h => by
    rw [List.range_succ, List.map_append, List.flatten_append, ← List.append_assoc]
    refine (Lx_succ hc (by omega)).trans ?_
    refine (Lx_sum hc (by omega)).append ?_
    simp
theorem Ov_whole (hc : 0 ≤ c) {e : Nat} (he : e ≤ 13) : Dom (Lx c e) (Ov c e) := by
  unfold Ov
  refine Dom.perm (Dom.app (Dom.refl _) (dom_flat (f := fun i => List.zipWith (· + ·) (Lx c (i + 1)) (Lx c i)) fun i hi => Dom.idx fun j v hj => ?_)) (Lx_sum hc he).symm (List.Perm.refl _)
  unfold dbI at hj
  rw [List.getElem?_map] at hj
  obtain ⟨s, h1, rfl⟩ := Option.map_eq_some_iff.mp hj
  obtain ⟨t, h2, h3⟩ := (dom_up hc (n := i) (by omega)).at (Lx_ok hc (by omega)).1 (Lx_ok hc (by omega)).1 h1
  exact ⟨_, zip_mk h2 h1, by omega⟩
theorem Dom.right (a b : List Int) : Dom (a ++ b) b := fun x => by
  rw [cn_app]
  omega
theorem Ov_into (hc : 0 ≤ c) {e : Nat} (he : e ≤ 12) : Dom (Ov c (e + 1)) (Lx c e) := by
  unfold Ov
  rw [range_cons]
  refine Dom.perm (Dom.app (Dom.refl _) ((Dom.right _ _).trans (dom_flat (g := fun i => List.zipWith (· + ·) (Lx c (i + 1)) (Lx c i)) fun i hi => Dom.idx fun j v hj => ?_))) (List.Perm.refl _) (Lx_sum hc (by omega)).symm
  obtain ⟨t, s, h1, h2, rfl⟩ := zip_get hj
  obtain ⟨t', h3, h4⟩ := (dom_up hc (n := i) (by omega)).at (Lx_ok hc (by omega)).1 (Lx_ok hc (by omega)).1 h2
  rw [h1] at h3
  cases h3
  refine ⟨2 * t, ?_, by omega⟩
  unfold dbI
  rw [List.getElem?_map, h1]
  rfl
section
variable {e : Int} {x : Str} {R R' : Rw}
theorem dom_cells (hk : Kd x) (hc : 0 ≤ c) (he : low x ≤ e) (he2 : e ≤ 12) (h1 : beside x c e = some R) (h2 : beside x (c + 1) e = some R') (g1 : Good R) (g2 : Good R') : Dom (ex R') (ex R) := by
  rcases hk with rfl | rfl | rfl
  · have hl : low "over" = 0 := by unfold low; rw [if_neg n_oi]
    rw [hl] at he
    exact (Ov_cell hc (e := e.toNat) (by omega)).perm (over_perm (by omega) he (by omega) h2 g2).symm (over_perm hc he (by omega) h1 g1).symm
  · have hl : low "into" = 1 := by unfold low; rw [if_pos rfl]
    rw [hl] at he
    rw [into_eq he h1, into_eq he h2]
    exact dom_cell hc (by omega)
  · rw [whole_eq' h1, whole_eq' h2]
    exact dom_cell hc (by omega)
theorem dom_cols (hk : Kd x) (hc : 0 ≤ c) (he : low x ≤ e) (he2 : e ≤ 12) (h1 : beside x (c + 1) e = some R) (h2 : beside x c (e + 1) = some R') (g1 : Good R) (g2 : Good R') : Dom (ex R') (ex R) := by
  rcases hk with rfl | rfl | rfl
  · have hl : low "over" = 0 := by unfold low; rw [if_neg n_oi]
    rw [hl] at he
    have o := Ov_col hc (e := e.toNat) (by omega)
    have e1 : (e + 1).toNat = e.toNat + 1 := by omega
    have p := over_perm hc (show 0 ≤ e + 1 by omega) (by omega) h2 g2
    rw [e1] at p
    exact o.perm p.symm (over_perm (by omega) he (by omega) h1 g1).symm
  · have hl : low "into" = 1 := by unfold low; rw [if_pos rfl]
    rw [hl] at he
    rw [into_eq he h1, into_eq (by omega) h2]
    have e1 : (e + 1 - 1).toNat = (e - 1).toNat + 1 := by omega
    rw [e1]
    exact dom_col hc (by omega)
  · have hl : low "whole" = 0 := by unfold low; rw [if_neg n_wi]
    rw [hl] at he
    rw [whole_eq' h1, whole_eq' h2]
    have e1 : (e + 1).toNat = e.toNat + 1 := by omega
    rw [e1]
    exact dom_col hc (by omega)
theorem dom_whole (hc : 0 ≤ c) (he : 0 ≤ e) (he2 : e ≤ 12) (h1 : beside "over" c e = some R) (h2 : beside "whole" c e = some R') (g1 : Good R) : Dom (ex R') (ex R) := by
  rw [whole_eq' h2]
  exact (Ov_whole hc (e := e.toNat) (by omega)).perm (List.Perm.refl _) (over_perm hc he (by omega) h1 g1).symm
theorem dom_over (hc : 0 ≤ c) (he : 1 ≤ e) (he2 : e ≤ 12) (h1 : beside "into" c e = some R) (h2 : beside "over" c e = some R') (g2 : Good R') : Dom (ex R') (ex R) := by
  rw [into_eq he h1]
  have o := Ov_into hc (e := (e - 1).toNat) (by omega)
  have e1 : (e - 1).toNat + 1 = e.toNat := by omega
  rw [e1] at o
  exact o.perm (over_perm hc (by omega) (by omega) h2 g2).symm (List.Perm.refl _)
end
end Lw

set_option Elab.async false
set_option linter.all false
set_option maxRecDepth 100000
set_option maxHeartbeats 4000000
set_option exponentiation.threshold 3000
namespace Lw
open PySem PySem.Spec PyProof.Rows L2 Evl DL
/-! what is compared -/
theorem ixD_mem {c : List PyData} {r : Int} (h0 : 0 ≤ r) (h1 : r < c.length) : ∃ x ∈ c, ixD (.list c) (.int r) = some x := by
  have h2 : r.toNat < c.length := by omega
  refine ⟨c[r.toNat], List.getElem_mem h2, ?_⟩
  have h3 := ixD_list (c := c) (i := r.toNat) (x := c[r.toNat]) (by simp [h2])
  rw [Int.toNat_of_nonneg h0] at h3
  exact h3
section
variable {g : List PyData} {B : Int} {Z : Cs}
theorem randP {pre : Os} (hp : Tidy pre) (L : Int) (hg : GenL g B) (hB : B < 2 ^ 50) (hL : 0 < L) (hL2 : L.natAbs < 2 ^ 100) :
    ∃ r g', m_law_random [.o pre.length, .d (.int L)] (pre ++ [some (.l g)]) = some (.int r, pre ++ [some (.l g')]) ∧ GenL g' (B + 5) ∧ 0 ≤ r ∧ r < L := by
  obtain ⟨r, g', h1, h2⟩ := rand_ok (os := pre ++ [some (.l g)]) (k := pre.length) (by simp) hp.l hg hB hL hL2
  refine ⟨r, g', ?_, h2⟩
  rw [h1, List.set_append_right _ _ (Nat.le_refl _)]
  simp
theorem cutP {pre : Os} (hp : Tidy pre) {g' : List PyData} : cutW (pre.length + 1) (pre ++ [some (.l g')]) = some (pre ++ [some (.l g')]) := by
  have := cutW_self (hp.l (ds := g'))
  rw [List.length_append, List.length_singleton] at this
  exact this
theorem kindP {pre : Os} (hp : Tidy pre) (hg : GenL g B) (hB : B < 2 ^ 50) : ∃ x g', m_law_kind [.o pre.length] (pre ++ [some (.l g)]) = some (.str x, pre ++ [some (.l g')]) ∧ GenL g' (B + 5) ∧ Kd x := by
  obtain ⟨r, g', h1, h2, h3, h4⟩ := randP hp 3 hg hB (by decide) (by decide)
  obtain ⟨x, hx, h5⟩ := ixD_mem (c := [.str "over", .str "into", .str "whole"]) h3 (by simpa using h4)
  have h6 : ∃ y, x = .str y ∧ Kd y := by
    simp only [List.mem_cons, List.not_mem_nil, or_false] at hx
    rcases hx with h | h | h
    · exact ⟨_, h, .inl rfl⟩
    · exact ⟨_, h, .inr (.inl rfl)⟩
    · exact ⟨_, h, .inr (.inr rfl)⟩
  obtain ⟨y, rfl, h7⟩ := h6
  refine ⟨y, g', ?_, h2, h7⟩
  unfold m_law_kind
  rw [m_1]
  simp -implicitDefEqProofs [b_law_kind, h1, h5, cutP hp]
theorem colsP {pre : Os} (hp : Tidy pre) {x : Str} (n : Int) (hg : GenL g B) (hB : B < 2 ^ 50) (hn : 0 < n) (hn2 : n < 1000) : ∃ e g', m_law_columns [.o pre.length, .d (.str x), .d (.int n)] (pre ++ [some (.l g)]) = some (.int e, pre ++ [some (.l g')]) ∧ GenL g' (B + 5) ∧ low x ≤ e ∧ e < low x + n := by
  obtain ⟨r, g', h1, h2, h3, h4⟩ := randP hp n hg hB hn (by
    have : (2 : Nat) ^ 100 > 1000 := by decide
    omega)
  have hl : 0 ≤ low x ∧ low x ≤ 1 := by
    unfold low
    split <;> omega
  refine ⟨r + low x, g', ?_, h2, by omega, by omega⟩
  unfold m_law_columns
  rw [m_3]
  by_cases z : x = "into"
  · subst z
    have : low "into" = 1 := by unfold low; rw [if_pos rfl]
    simp -implicitDefEqProofs [b_law_columns, h1, cutP hp, this]
  · have : low x = 0 := by unfold low; rw [if_neg z]
    simp -implicitDefEqProofs [b_law_columns, h1, cutP hp, this, z]
theorem rand1 (L : Int) (hg : GenL g B) (hB : B < 2 ^ 50) (hL : 0 < L) (hL2 : L.natAbs < 2 ^ 100) :
    ∃ r g', m_law_random [.o 0, .d (.int L)] [some (.l g)] = some (.int r, [some (.l g')]) ∧ GenL g' (B + 5) ∧ 0 ≤ r ∧ r < L := randP (pre := []) Tidy.nil L hg hB hL hL2
theorem kind1 (hg : GenL g B) (hB : B < 2 ^ 50) : ∃ x g', m_law_kind [.o 0] [some (.l g)] = some (.str x, [some (.l g')]) ∧ GenL g' (B + 5) ∧ Kd x := kindP (pre := []) Tidy.nil hg hB
theorem cols1 {x : Str} (n : Int) (hg : GenL g B) (hB : B < 2 ^ 50) (hn : 0 < n) (hn2 : n < 1000) : ∃ e g', m_law_columns [.o 0, .d (.str x), .d (.int n)] [some (.l g)] = some (.int e, [some (.l g')]) ∧ GenL g' (B + 5) ∧ low x ≤ e ∧ e < low x + n := colsP (pre := []) Tidy.nil n hg hB hn hn2
end
theorem sm_le {m : Int} : ∀ {R : Rw} {n : Int}, Pos R → (∀ r ∈ R, r.1 ≤ m) → 0 ≤ m → 0 ≤ n → sm R n ≤ m * n
  | [], n, _, _, hm, hn => Int.mul_nonneg hm hn
  | p :: R, n, h, hp, hm, hn => by
    have h1 := h.hd
    have m1 := mi_le (a := p.2) (b := n)
    have m2 := mi_ge (a := p.2) (b := n) (c := 0) (by omega) hn
    have ih := sm_le (n := n - mi p.2 n) h.tl (fun r hr => hp r (by simp [hr])) hm (by omega)
    have q := Int.mul_le_mul_of_nonneg_right (hp p (by simp)) m2
    rw [sm_cons]
    rw [Int.mul_sub] at ih
    omega
theorem pAt_mem : ∀ {R : Rw} {n i : Int}, pAt R n = some i → ∃ r ∈ R, r.1 = i
  | [], _, _, h => by cases h
  | p :: R, n, i, h => by
    unfold pAt at h
    split at h
    · cases h
      exact ⟨p, by simp, rfl⟩
    · obtain ⟨r, hr, e⟩ := pAt_mem h
      exact ⟨r, by simp [hr], e⟩
theorem pr_opt {o : Option Int} (h : ∀ i, o = some i → i.natAbs < 10 ^ 60) : Pr (optI o) 61 := by
  cases o with
  | none => exact pr_none
  | some i => exact pr_int (h i rfl)
theorem dp_opt {o : Option Int} : (optI o).depth ≤ 0 := by cases o <;> simp [optI, PyData.depth]
theorem cl_opt {o : Option Int} : Cl (optI o) 0 := by
  cases o with
  | none => exact cl_none
  | some i => exact cl_int
/-- a text against itself -/
theorem txt_one {d : PyData} (h : Pr d 61) : ∃ tx, reprD [d] = some (.str tx) ∧ neD (.str tx) (.str tx) = some (.bool false) := ⟨d.shown, repr_ok h (by decide), by rw [neD_str]; simp⟩
section
variable {R : Rw}
theorem sum_ex {n : Nat} (hp : Pos R) (hn : (n : Int) ≤ tot R) : ((ex R).take n).sum = sm R n := by
  have := sm_ex (n := (n : Int)) hp (by omega) hn
  rw [this]
  simp
end
theorem ten60 : (10 : Nat) ^ 60 = 1000000000000000000000000000000000000000000000000000000000000 := by decide
theorem lt300 {a : Int} (h : a < 2 ^ 100) : a < 2 ^ 300 := by
  have p300 : (2 : Int) ^ 300 = 2 ^ 100 * 2 ^ 200 := by rw [← Int.pow_add]
  have p200 : (2 : Int) ^ 200 ≥ 1 := by decide
  have p10 : (2 : Int) ^ 100 = 1267650600228229401496703205376 := by decide
  have : (2 : Int) ^ 100 * 1 ≤ 2 ^ 100 * 2 ^ 200 := Int.mul_le_mul_of_nonneg_left (by omega) (by decide)
  rw [p300]
  omega

theorem eqv_ints : ∀ (a b : List Int), PyData.eqv (.list (encI a)) (.list (encI b)) = decide (a = b)
  | [], [] => by simp [encI, PyData.eqv, PyData.eqvAll]
  | [], y :: b => by simp [encI, PyData.eqv, PyData.eqvAll]
  | x :: a, [] => by simp [encI, PyData.eqv, PyData.eqvAll]
  | x :: a, y :: b => by
    have ih := eqv_ints a b
    have e : PyData.eqv (.list (encI (x :: a))) (.list (encI (y :: b))) = (PyData.eqv (.int x) (.int y) && PyData.eqv (.list (encI a)) (.list (encI b))) := by
      simp [encI, PyData.eqv, PyData.eqvAll]
    rw [e, ih, eqv_int]
    by_cases h1 : x = y <;> by_cases h2 : a = b <;> simp [h1, h2]
theorem eqv_tup (p q : Int × Int) : PyData.eqv (tupP p) (tupP q) = decide (p = q) := by
  have e : PyData.eqv (tupP p) (tupP q) = (PyData.eqv (.int p.1) (.int q.1) && (PyData.eqv (.int p.2) (.int q.2) && true)) := by
    simp [tupP, PyData.eqv, PyData.eqvAll]
  rw [e, eqv_int, eqv_int]
  obtain ⟨a, b⟩ := p
  obtain ⟨c, d⟩ := q
  by_cases h1 : a = c <;> by_cases h2 : b = d <;> simp [h1, h2]
theorem eqv_rows : ∀ (a b : Rw), PyData.eqv (.list (encR a)) (.list (encR b)) = decide (a = b)
  | [], [] => by simp [encR, PyData.eqv, PyData.eqvAll]
  | [], y :: b => by simp [encR, PyData.eqv, PyData.eqvAll]
  | x :: a, [] => by simp [encR, PyData.eqv, PyData.eqvAll]
  | x :: a, y :: b => by
    have ih := eqv_rows a b
    have e : PyData.eqv (.list (encR (x :: a))) (.list (encR (y :: b))) = (PyData.eqv (tupP x) (tupP y) && PyData.eqv (.list (encR a)) (.list (encR b))) := by
      simp [encR, PyData.eqv, PyData.eqvAll]
    rw [e, ih, eqv_tup]
    by_cases h1 : x = y <;> by_cases h2 : a = b <;> simp [h1, h2]
theorem cl_rows (R : Rw) : Cl (.list (encR R)) 2 := cl_list fun d hd => by
  obtain ⟨p, hp, rfl⟩ := List.mem_map.mp hd
  exact cl_tuple (D := 0) fun d hd => by
    simp at hd
    rcases hd with rfl | rfl <;> exact cl_int
theorem cl_ints (l : List Int) : Cl (.list (encI l)) 1 := cl_list fun d hd => by
  obtain ⟨p, hp, rfl⟩ := List.mem_map.mp hd
  exact cl_int
theorem eq_rows (a b : Rw) : eqD (.list (encR a)) (.list (encR b)) = some (.bool (decide (a = b))) := by rw [eqD_cl (cl_rows a) (cl_rows b), eqv_rows]
theorem eq_ints (a b : List Int) : eqD (.list (encI a)) (.list (encI b)) = some (.bool (decide (a = b))) := by rw [eqD_cl (cl_ints a) (cl_ints b), eqv_ints]
theorem ex_inj : ∀ {R S : Rw}, Asc R → Asc S → Pos R → Pos S → ex R = ex S → R = S
  | [], [], _, _, _, _, _ => rfl
  | [], q :: S, _, _, _, h, e => by
    have h1 := h.hd
    obtain ⟨k, hk⟩ : ∃ k, q.2.toNat = k + 1 := ⟨q.2.toNat - 1, by omega⟩
    rw [ex_cons, hk, List.replicate_succ] at e
    simp at e
  | p :: R, [], _, _, h, _, e => by
    have h1 := h.hd
    obtain ⟨k, hk⟩ : ∃ k, p.2.toNat = k + 1 := ⟨p.2.toNat - 1, by omega⟩
    rw [ex_cons, hk, List.replicate_succ] at e
    simp at e
  | p :: R, q :: S, a, b, h, g, e => by
    have h1 := h.hd
    have g1 := g.hd
    have a2 := List.pairwise_cons.mp a
    have b2 := List.pairwise_cons.mp b
    have e0 := e
    obtain ⟨k, hk⟩ : ∃ k, p.2.toNat = k + 1 := ⟨p.2.toNat - 1, by omega⟩
    obtain ⟨j, hj⟩ : ∃ k, q.2.toNat = k + 1 := ⟨q.2.toNat - 1, by omega⟩
    rw [ex_cons, ex_cons, hk, hj, List.replicate_succ, List.replicate_succ, List.cons_append, List.cons_append, List.cons.injEq] at e
    have c1 := count_ex p.1 h
    have c2 := count_ex p.1 g
    have n1 : at1 R p.1 = 0 := at1_none fun r hr y => by
      have := a2.1 r hr
      omega
    have n2 : at1 S p.1 = 0 := at1_none fun r hr y => by
      have := b2.1 r hr
      omega
    have s1 : at1 (p :: R) p.1 = p.2 + at1 R p.1 := by
      unfold at1
      rw [List.filter_cons_of_pos (by simp), tot_cons]
    have s2 : at1 (q :: S) p.1 = q.2 + at1 S p.1 := by
      unfold at1
      rw [List.filter_cons_of_pos (by simp [e.1]), tot_cons]
    rw [e0] at c1
    have e2 : p.2 = q.2 := by omega
    have pq : p = q := Prod.ext e.1 e2
    subst pq
    rw [ex_cons, ex_cons] at e0
    rw [ex_inj a2.2 b2.2 h.tl g.tl (List.append_cancel_left e0)]
section
variable {Z : Cs} {os : Os}
/-- a room that is never dearer -/
structure Le (R' R : Rw) : Prop where
  d : Dom (ex R') (ex R)
  g' : Good R'
  g : Good R
theorem Le.tot {R' R : Rw} (h : Le R' R) : tot R ≤ tot R' := by
  have := h.d.len (ex_sorted h.g'.asc) (ex_sorted h.g.asc)
  have := ex_len h.g.pos
  have := ex_len h.g'.pos
  omega
theorem Le.sm {R' R : Rw} (h : Le R' R) {n : Int} (h0 : 0 ≤ n) (hn : n ≤ Lw.tot R) : Lw.sm R' n ≤ Lw.sm R n := by
  have t := h.tot
  have l := ex_len h.g.pos
  rw [sm_ex h.g.pos h0 hn, sm_ex h.g'.pos h0 (by omega)]
  exact h.d.sum (ex_sorted h.g'.asc) (ex_sorted h.g.asc) (by omega)
theorem take_succ_sum {l : List Int} {n : Nat} {v : Int} (h : l[n]? = some v) : (l.take (n + 1)).sum = (l.take n).sum + v := by
  rw [List.take_succ, h]
  simp
/-- what is saved never falls -/
theorem Le.grow {R' R : Rw} (h : Le R' R) {n : Nat} (hn : (n : Int) + 1 ≤ Lw.tot R) : Lw.sm R n - Lw.sm R' n ≤ Lw.sm R (n + 1) - Lw.sm R' (n + 1) := by
  have t := h.tot
  have l := ex_len h.g.pos
  have l' := ex_len h.g'.pos
  obtain ⟨v, hv⟩ : ∃ v, (ex R)[n]? = some v := ⟨_, List.getElem?_eq_getElem (by omega)⟩
  obtain ⟨u, h1, h2⟩ := h.d.at (ex_sorted h.g'.asc) (ex_sorted h.g.asc) hv
  have e1 := take_succ_sum hv
  have e2 := take_succ_sum h1
  have a1 := sum_ex (R := R) (n := n) h.g.pos (by omega)
  have a2 := sum_ex (R := R) (n := n + 1) h.g.pos (by omega)
  have a3 := sum_ex (R := R') (n := n) h.g'.pos (by omega)
  have a4 := sum_ex (R := R') (n := n + 1) h.g'.pos (by omega)
  have c1 : ((n + 1 : Nat) : Int) = (n : Int) + 1 := rfl
  rw [c1] at a2 a4
  omega
end
end Lw

set_option Elab.async false
set_option linter.all false
set_option maxRecDepth 100000
set_option maxHeartbeats 4000000
set_option exponentiation.threshold 3000
namespace Lw
open PySem PySem.Spec PyProof.Rows L2 Evl DL
/-! cells for a run: mathematics -/
section
variable {x : Str} {e : Int}
/-- a place among those that are asked -/
structure Dm (x : Str) (e : Int) : Prop where
  k : Kd x
  lo : low x ≤ e
  hi : e ≤ 12
def Rb (x : Str) (c e : Int) : Rw := (beside x c e).getD []
def kk (x : Str) (e : Int) : Nat := (e - low x).toNat
def Tt (x : Str) (e c : Int) : Int := (c + 1) * 2 ^ kk x e
def Fw (x : Str) (e n c : Int) : Int := sm (Rb x c e) n
theorem low01 (x : Str) : 0 ≤ low x ∧ low x ≤ 1 := by
  unfold low
  split <;> omega
theorem pw_pos (k : Nat) : (1 : Int) ≤ 2 ^ k := pow_le 0 k (by omega)
theorem rb (h : Dm x e) {c : Int} (h0 : 0 ≤ c) : beside x c e = some (Rb x c e) ∧ Good (Rb x c e) ∧ tot (Rb x c e) = Tt x e c ∧ ∀ r ∈ Rb x c e, r.1 ≤ 2 ^ (kk x e + 1) := by
  obtain ⟨R, hb, _, g, t, m⟩ := prices_ok (Z := ⟨default⟩) (os := []) (c := c) (e := e) Tidy.nil h.k h0 h.lo h.hi
  have : Rb x c e = R := by
    unfold Rb
    rw [hb]
    rfl
  rw [this]
  exact ⟨hb, g, t, m⟩
theorem tell' {Z : Cs} (h : Dm x e) {c : Int} (h0 : 0 ≤ c) (h1 : c < 10 ^ 30) : Tell Z x c e (Rb x c e) := by
  obtain ⟨R, hb, T, _⟩ := tell (Z := Z) h.k h0 h1 h.lo h.hi
  have : Rb x c e = R := by
    unfold Rb
    rw [hb]
    rfl
  rw [this]
  exact T
theorem Tt_mono {c d : Int} (h : c ≤ d) : Tt x e c ≤ Tt x e d := by
  have := pw_pos (kk x e)
  exact Int.mul_le_mul_of_nonneg_right (by omega) (by omega)
theorem dom_le (h : Dm x e) {c : Int} (h0 : 0 ≤ c) : Le (Rb x (c + 1) e) (Rb x c e) := by
  obtain ⟨b1, g1, _, _⟩ := rb h h0
  obtain ⟨b2, g2, _, _⟩ := rb h (show 0 ≤ c + 1 by omega)
  exact ⟨dom_cells h.k h0 h.lo h.hi b1 b2 g1 g2, g2, g1⟩
/-- more cells never make it dearer -/
theorem Fw_mono (h : Dm x e) {n : Int} (hn : 0 ≤ n) : ∀ (m : Nat) {c : Int}, 0 ≤ c → n ≤ Tt x e c → Fw x e n (c + m) ≤ Fw x e n c
  | 0, c, _, _ => by simp
  | m + 1, c, h0, ht => by
    have ih := Fw_mono h hn m (c := c) h0 ht
    have t := Tt_mono (x := x) (e := e) (show c ≤ c + m by omega)
    have s := (dom_le h (show 0 ≤ c + (m : Int) by omega)).sm hn (by rw [(rb h (by omega)).2.2.1]; omega)
    have e1 : c + ((m + 1 : Nat) : Int) = c + m + 1 := by omega
    rw [e1]
    exact Int.le_trans s ih
theorem Fw_le (h : Dm x e) {n c d : Int} (hn : 0 ≤ n) (h0 : 0 ≤ c) (hcd : c ≤ d) (ht : n ≤ Tt x e c) : Fw x e n d ≤ Fw x e n c := by
  have := Fw_mono h hn (d - c).toNat h0 ht
  have e1 : c + ((d - c).toNat : Int) = d := by omega
  rw [e1] at this
  exact this
/-- each card but one goes twice at least -/
theorem ge_two {R : Rw} (g : Good R) : ∃ l, ex R = 1 :: l ∧ ∀ y ∈ l, 2 ≤ y := by
  cases R with
  | nil =>
    have := g.head
    cases this
  | cons p R =>
    have hp : p = (1, 1) := by
      have := g.head
      simpa using this
    subst hp
    refine ⟨ex R, by rw [ex_cons]; rfl, fun y hy => ?_⟩
    obtain ⟨r, hr, rfl⟩ := mem_ex hy
    have := (List.pairwise_cons.mp g.asc).1 r hr
    have := this
    simp only at this
    omega
theorem take_ge : ∀ {l : List Int} {n : Nat}, (∀ y ∈ l, 2 ≤ y) → n ≤ l.length → 2 * (n : Int) ≤ (l.take n).sum
  | l, 0, _, _ => by simp
  | [], n + 1, _, h => by simp at h
  | y :: l, n + 1, h, hn => by
    have := take_ge (l := l) (n := n) (fun z hz => h z (by simp [hz])) (by simpa using hn)
    have := h y (by simp)
    rw [List.take_succ_cons, List.sum_cons]
    omega
theorem Fw_low (h : Dm x e) {n c : Int} (hn : 1 ≤ n) (h0 : 0 ≤ c) (ht : n ≤ Tt x e c) : 2 * n - 1 ≤ Fw x e n c := by
  obtain ⟨_, g, t, _⟩ := rb h h0
  unfold Fw
  rw [sm_ex g.pos (by omega) (by omega)]
  obtain ⟨l, hl, h2⟩ := ge_two g
  have el := ex_len g.pos
  rw [hl] at el ⊢
  obtain ⟨m, hm⟩ : ∃ m : Nat, n.toNat = m + 1 := ⟨n.toNat - 1, by omega⟩
  rw [hm, List.take_succ_cons, List.sum_cons]
  have := take_ge (n := m) h2 (by simp at el; omega)
  omega
theorem fA_take (c : Int) {m : Nat} (hm : (m : Int) ≤ c) : ((fA c).take (m + 1)).sum = 1 + 2 * (m : Int) := by
  unfold fA
  rw [List.take_succ_cons, List.sum_cons, List.take_replicate, Nat.min_eq_left (by omega), sum_rep]
  omega
theorem dom_fA {c : Int} (h0 : 0 ≤ c) : ∀ n : Nat, n ≤ 13 → Dom (Lx c n) (fA c)
  | 0, _ => by
    rw [Lx_zero]
    exact Dom.refl _
  | n + 1, h => (dom_up h0 (show n ≤ 13 by omega)).trans (dom_fA h0 n (by omega))
theorem dom_all (h : Dm x e) {c : Int} (h0 : 0 ≤ c) : Dom (ex (Rb x c e)) (fA c) := by
  obtain ⟨b, g, _, _⟩ := rb h h0
  have hlo := h.lo
  have hhi := h.hi
  rcases h.k with rfl | rfl | rfl
  · have hl : low "over" = 0 := by unfold low; rw [if_neg n_oi]
    rw [hl] at hlo
    exact (Dom.left _ _).perm (over_perm h0 hlo (by omega) b g).symm (List.Perm.refl _)
  · have hl : low "into" = 1 := by unfold low; rw [if_pos rfl]
    rw [hl] at hlo
    rw [into_eq hlo b]
    exact dom_fA h0 _ (by omega)
  · rw [whole_eq' b]
    exact dom_fA h0 _ (by omega)
theorem fA_sorted (c : Int) : Sd (fA c) := by
  rw [← fA_ex]
  refine ex_sorted ?_
  unfold A1
  split <;> simp [Asc]
theorem Fw_high (h : Dm x e) {n c : Int} (hn : 1 ≤ n) (hc : n - 1 ≤ c) : Fw x e n c ≤ 2 * n - 1 := by
  obtain ⟨_, g, t, _⟩ := rb h (show 0 ≤ c by omega)
  have d := dom_all h (show 0 ≤ c by omega)
  have p := pw_pos (kk x e)
  have tt : c + 1 ≤ Tt x e c := by
    have := Int.mul_le_mul_of_nonneg_left p (show 0 ≤ c + 1 by omega)
    unfold Tt
    omega
  unfold Fw
  rw [sm_ex g.pos (by omega) (by omega)]
  obtain ⟨m, hm⟩ : ∃ m : Nat, n.toNat = m + 1 := ⟨n.toNat - 1, by omega⟩
  have lf : (fA c).length = c.toNat + 1 := by
    unfold fA
    simp
  have := d.sum (ex_sorted g.asc) (fA_sorted c) (n := m + 1) (by omega)
  rw [fA_take c (by omega)] at this
  rw [hm]
  omega
/-! the least number of cells -/
def cb (x : Str) (e n : Int) : Int := (n - 1) / 2 ^ kk x e
theorem cb_ok {n : Int} (hn : 1 ≤ n) : 0 ≤ cb x e n ∧ cb x e n ≤ n - 1 ∧ ∀ c, 0 ≤ c → (n ≤ Tt x e c ↔ cb x e n ≤ c) := by
  have p := pw_pos (kk x e)
  unfold cb
  refine ⟨Int.ediv_nonneg (by omega) (by omega), ?_, fun c hc => ?_⟩
  · exact Int.ediv_le_self _ (by omega)
  · unfold Tt
    rw [← Int.lt_add_one_iff (a := (n - 1) / 2 ^ kk x e), Int.ediv_lt_iff_lt_mul (by omega)]
    omega
/-- what is told of a run and of steps -/
structure Ans (x : Str) (e n s r : Int) : Prop where
  lo : cb x e n ≤ r
  hi : r ≤ n - 1
  en : Fw x e n r ≤ s
  no : cb x e n < r → s < Fw x e n (r - 1)
theorem Ans.least (h : Dm x e) {n s r c : Int} (hn : 1 ≤ n) (a : Ans x e n s r) (hc : 0 ≤ c) (ht : n ≤ Tt x e c) : Fw x e n c ≤ s ↔ r ≤ c := by
  obtain ⟨c0, c1, c2⟩ := cb_ok (x := x) (e := e) hn
  have l := (c2 c hc).mp ht
  have a1 := a.lo
  constructor
  · intro q
    by_cases z : r ≤ c
    · exact z
    · have b := a.no (by omega)
      have m := Fw_le h (n := n) (c := c) (d := r - 1) (by omega) hc (by omega) ht
      omega
  · intro q
    have m := Fw_le h (n := n) (c := r) (d := c) (by omega) (by omega) q ((c2 r (by omega)).mpr a1)
    have := a.en
    omega
theorem Ans.uniq (h : Dm x e) {n s r r' : Int} (hn : 1 ≤ n) (a : Ans x e n s r) (b : Ans x e n s r') : r = r' := by
  obtain ⟨c0, c1, c2⟩ := cb_ok (x := x) (e := e) hn
  have l1 := a.lo
  have l2 := b.lo
  have := (a.least h hn (by omega) ((c2 r' (by omega)).mpr l2)).mp b.en
  have := (b.least h hn (by omega) ((c2 r (by omega)).mpr l1)).mp a.en
  omega
/-- the search by halves -/
def bs (f : Int → Int) (s : Int) : Nat → Int → Int → Option Int
  | 0, _, _ => none
  | k + 1, lo, hi => if lo < hi then (if f ((lo + hi) / 2) ≤ s then bs f s k lo ((lo + hi) / 2) else bs f s k ((lo + hi) / 2 + 1) hi) else some lo
theorem bs_ok (h : Dm x e) {n s : Int} (hn : 1 ≤ n) : ∀ (k f : Nat) (lo hi : Int), k < f → hi - lo < 2 ^ k → cb x e n ≤ lo → lo ≤ hi → hi ≤ n - 1 → Fw x e n hi ≤ s → (cb x e n < lo → s < Fw x e n (lo - 1)) → ∃ r, bs (Fw x e n) s f lo hi = some r ∧ Ans x e n s r
  | k, 0, lo, hi, hf, _, _, _, _, _, _ => by omega
  | k, f + 1, lo, hi, hf, hk, h1, h2, h3, h4, h5 => by
    unfold bs
    by_cases z : lo < hi
    · rw [if_pos z]
      cases k with
      | zero =>
        have : (2 : Int) ^ 0 = 1 := rfl
        omega
      | succ k =>
        have pk := two_pow k
        by_cases y : Fw x e n ((lo + hi) / 2) ≤ s
        · rw [if_pos y]
          exact bs_ok h hn k f lo ((lo + hi) / 2) (by omega) (by omega) h1 (by omega) (by omega) y h5
        · rw [if_neg y]
          have e1 : (lo + hi) / 2 + 1 - 1 = (lo + hi) / 2 := by omega
          exact bs_ok h hn k f ((lo + hi) / 2 + 1) hi (by omega) (by omega) (by omega) (by omega) h3 h4 (fun _ => by rw [e1]; omega)
    · rw [if_neg z]
      have : lo = hi := by omega
      subst this
      exact ⟨lo, rfl, h1, h3, h4, h5⟩
theorem bs_all (h : Dm x e) {n s : Int} (hn : 1 ≤ n) (hn2 : n ≤ 10 ^ 29) (hs : 2 * n - 1 ≤ s) : ∃ r, bs (Fw x e n) s 1000000 (cb x e n) (n - 1) = some r ∧ Ans x e n s r := by
  obtain ⟨c0, c1, c2⟩ := cb_ok (x := x) (e := e) hn
  have e29 : (10 : Int) ^ 29 = 100000000000000000000000000000 := by decide
  have e100 : (2 : Int) ^ 100 = 1267650600228229401496703205376 := by decide
  have := Fw_high h hn (c := n - 1) (by omega)
  exact bs_ok h hn 100 1000000 _ _ (by omega) (by omega) (by omega) (by omega) (by omega) (by omega) (fun z => by omega)
end
end Lw

set_option Elab.async false
set_option linter.all false
set_option maxRecDepth 100000
set_option maxHeartbeats 4000000
set_option exponentiation.threshold 3000
namespace Lw
open PySem PySem.Spec PyProof.Rows L2 Evl DL
/-! cells for a run: the program -/
section
variable {x : Str} {e : Int} {Z : Cs} {os : Os}
def mostE (x : Str) : Int := if x = "whole" then 6 else 7
structure Col (x : Str) (e : Int) : Prop where
  k : Kd x
  lo : low x ≤ e
  hi : e ≤ mostE x
theorem Col.dm (h : Col x e) : Dm x e := ⟨h.k, h.lo, by
  have := h.hi
  unfold mostE at this
  split at this <;> omega⟩
theorem within_int {i a b : Int} (ht : Tidy os) : m_is_within [.d (.int i), .d (.int a), .d (.int b)] os = some (.bool (decide (a ≤ i ∧ i ≤ b)), os) := by
  unfold m_is_within
  rw [m_3]
  have ch : xChain leD leD (xVar 1) (xVar 0) (xVar 2) [.d (.int i), .d (.int a), .d (.int b)] os = some (.bool (decide (a ≤ i ∧ i ≤ b)), os) := by
    unfold xChain
    by_cases h : a ≤ i
    · simp -implicitDefEqProofs [h]
    · simp -implicitDefEqProofs [h]
  simp -implicitDefEqProofs [b_is_within, whole_int ht, ch, cutW_self ht]
theorem columns_check (ht : Tidy os) (h : Col x e) : m_check_columns [.d (.str x), .d (.int e)] os = some (.none, os) := by
  unfold m_check_columns
  rw [m_2]
  have eq : eqD (.str x) (.str "whole") = some (.bool (decide (x = "whole"))) := by
    simp [eqD_str]
  have v : xIf (xBool (xOp eqD (xVar 0) (xC (.str "whole")))) (xOp subD (xC (.int 7)) (xC (.int 1))) (xC (.int 7)) [.d (.str x), .d (.int e), .u] os = some (.int (mostE x), os) := by
    unfold mostE
    by_cases z : x = "whole"
    · rw [decide_eq_true z] at eq
      simp -implicitDefEqProofs [eq, z]
    · rw [decide_eq_false z] at eq
      simp -implicitDefEqProofs [eq, z]
  have w := within_int (i := e) (a := low x) (b := mostE x) ht
  rw [decide_eq_true ⟨h.lo, h.hi⟩] at w
  have b : b_check_columns [.d (.str x), .d (.int e), .u] os = some (.nx [.d (.str x), .d (.int e), .d (.int (mostE x))] os) := by
    unfold b_check_columns
    refine seq_nx (ρ1 := [.d (.str x), .d (.int e), .u]) (os1 := os) (by simp -implicitDefEqProofs [kind_check ht h.k]) ?_
    refine seq_nx (ρ1 := [.d (.str x), .d (.int e), .d (.int (mostE x))]) (os1 := os) (by rw [a_asg, v]; rfl) ?_
    simp -implicitDefEqProofs [fewest_empty_ok ht, w]
  simp -implicitDefEqProofs only [List.reduceReplicate, Nat.reduceSub, b, Option.bind_some, outM_nx, cutW_self ht, Option.map_some]
theorem bound_ok (ht : Tidy os) (h : Dm x e) : m_bound_beside [.d (.str x), .d (.int 0), .d (.int e)] os = some (.int (2 ^ kk x e), os) := by
  have hlo := h.lo
  have hhi := h.hi
  have sh : ∀ k : Int, 0 ≤ k → k ≤ 12 → shlD (.int 1) (.int k) = some (.int (2 ^ k.toNat)) := fun k k0 k1 => by
    rw [shlD_ok (p := 1) k0 (by decide) (by omega), Int.one_mul]
  unfold m_bound_beside
  rw [m_3]
  by_cases z : x = "into"
  · subst z
    have hl : low "into" = 1 := by unfold low; rw [if_pos rfl]
    rw [hl] at hlo
    have ne : neD (.str "into") (.str "into") = some (.bool false) := by kernel_rfl
    have e1 : e > 0 := by omega
    have s1 := sh (e - 1) (by omega) (by omega)
    have k1 : kk "into" e = (e - 1).toNat := by unfold kk; rw [hl]
    rw [k1]
    simp -implicitDefEqProofs [b_bound_beside, ne, e1, s1, cutW_self ht]
  · have hl : low x = 0 := by unfold low; rw [if_neg z]
    rw [hl] at hlo
    have ne : neD (.str x) (.str "into") = some (.bool true) := by
      rw [neD_str]
      simp [z]
    have s1 := sh e (by omega) (by omega)
    have k1 : kk x e = e.toNat := by unfold kk; rw [hl]; simp
    rw [k1]
    simp -implicitDefEqProofs [b_bound_beside, ne, s1, cutW_self ht]
theorem cells_beside_ok {n : Int} (ht : Tidy os) (h : Dm x e) (h1 : 1 ≤ n) (h2 : n ≤ 10 ^ 29) : m_cells_beside [.d (.str x), .d (.int e), .d (.int n)] os = some (.int (cb x e n), os) := by
  have p := pw_pos (kk x e)
  have e29 : (10 : Int) ^ 29 = 100000000000000000000000000000 := by decide
  have e100 : (2 : Nat) ^ 100 = 1267650600228229401496703205376 := by decide
  have fd : fdivD (.int (n - 1)) (.int (2 ^ kk x e)) = some (.int (cb x e n)) := fdivD_ok (p := 100) (by omega) (by omega) (by decide)
  unfold m_cells_beside
  rw [m_3]
  simp -implicitDefEqProofs [b_cells_beside, bound_ok ht h, fd, cutW_self ht]
theorem cells_for_ok {n : Int} (ht : Tidy os) (h : Col x e) (h1 : 1 ≤ n) (h2 : n ≤ 10 ^ 29) : m_cells_for [.d (.str x), .d (.int e), .d (.int n)] os = some (.int (cb x e n), os) := by
  unfold m_cells_for
  rw [m_3]
  simp -implicitDefEqProofs [b_cells_for, columns_check ht h, check_from_ok ht (show n ≥ 1 by omega), cells_beside_ok ht h.dm h1 h2, cutW_self ht]
theorem half (a b : Int) (h0 : 0 ≤ a + b) (h1 : a + b ≤ 2 * 10 ^ 29) : fdivD (.int (a + b)) (.int 2) = some (.int ((a + b) / 2)) := by
  have e29 : (10 : Int) ^ 29 = 100000000000000000000000000000 := by decide
  have e100 : (2 : Nat) ^ 100 = 1267650600228229401496703205376 := by decide
  exact fdivD_ok (p := 100) (by decide) (by omega) (by decide)
abbrev wT : XT := xBool (xOp ltD (xVar 4) (xVar 5))
abbrev wB (Z : Cs) : SE := (sSeq (sAsg (xOp fdivD (xOp addD (xVar 4) (xVar 5)) (xC (.int 2))) (gNm 6))
  (sIf (xBool (xOp leD (xFn m_sum_of_least (xaD (xF (fFn (m_rows_beside Z) (xaD (xVar 0) (xaD (xVar 6) (xaD (xVar 1) xaNil))))) (xaD (xVar 2) xaNil))) (xVar 3)))
  (sAsg (xVar 6) (gNm 5))
  (sAsg (xOp addD (xVar 6) (xC (.int 1))) (gNm 4))))
theorem sum_at {c n : Int} (ht : Tidy os) (h : Dm x e) (h0 : 0 ≤ c) (hc : c < 10 ^ 30) (hn : 0 ≤ n) (hn2 : n ≤ 10 ^ 29) {ρ : List Sl} (e0 : slD ρ[0]? = some (.str x)) (e1 : slD ρ[1]? = some (.int e)) (e2 : slD ρ[2]? = some (.int n)) (e6 : slD ρ[6]? = some (.int c)) (le : n ≤ Tt x e c) :
    xFn m_sum_of_least (xaD (xF (fFn (m_rows_beside Z) (xaD (xVar 0) (xaD (xVar 6) (xaD (xVar 1) xaNil))))) (xaD (xVar 2) xaNil)) ρ os = some (.int (Fw x e n c), os) := by
  have T := tell' (Z := Z) h h0 hc
  have e29 : (10 : Int) ^ 29 = 100000000000000000000000000000 := by decide
  have e100 : (2 : Int) ^ 300 = 2037035976334486086268445688409378161051468393665936250636140449354381299763336706183397376 := by decide
  have s := sum_ok (R := Rb x c e) (n := n) ht T.bd hn (by omega)
  rw [(rb h h0).2.2.1, if_pos le] at s
  simp -implicitDefEqProofs [e0, e1, e2, e6, T.rows os ht, s]
  rfl
theorem loop_ok {n s : Int} (ht : Tidy os) (h : Dm x e) (hn : 1 ≤ n) (hn2 : n ≤ 10 ^ 29) : ∀ (f : Nat) (lo hi r : Int) (y : Sl), cb x e n ≤ lo → hi ≤ n - 1 → bs (Fw x e n) s f lo hi = some r → ∃ hi' y', whRun wT (wB Z) f [.d (.str x), .d (.int e), .d (.int n), .d (.int s), .d (.int lo), .d (.int hi), y] os = some (.nx [.d (.str x), .d (.int e), .d (.int n), .d (.int s), .d (.int r), .d (.int hi'), y'] os)
  | 0, lo, hi, r, y, _, _, q => by cases q
  | f + 1, lo, hi, r, y, h1, h2, q => by
    obtain ⟨c0, c1, c2⟩ := cb_ok (x := x) (e := e) hn
    have t1 : wT [.d (.str x), .d (.int e), .d (.int n), .d (.int s), .d (.int lo), .d (.int hi), y] os = some (decide (lo < hi), os) := by
      simp -implicitDefEqProofs
    unfold bs at q
    unfold whRun
    by_cases z : lo < hi
    · rw [if_pos z] at q
      have e29 : (10 : Int) ^ 29 = 100000000000000000000000000000 := by decide
      have e30 : (10 : Int) ^ 30 = 1000000000000000000000000000000 := by decide
      have hf := half lo hi (by omega) (by omega)
      obtain ⟨mid, hm⟩ : ∃ m, m = (lo + hi) / 2 := ⟨_, rfl⟩
      rw [← hm] at hf q
      have m1 : lo ≤ mid := by omega
      have m2 : mid < hi := by omega
      have sv := sum_at (Z := Z) (os := os) (c := mid) (n := n) (ρ := [.d (.str x), .d (.int e), .d (.int n), .d (.int s), .d (.int lo), .d (.int hi), .d (.int mid)]) ht h (by omega) (by omega) (by omega) hn2 rfl rfl rfl rfl ((c2 mid (by omega)).mpr (by omega))
      have s1 : sAsg (xOp fdivD (xOp addD (xVar 4) (xVar 5)) (xC (.int 2))) (gNm 6) [.d (.str x), .d (.int e), .d (.int n), .d (.int s), .d (.int lo), .d (.int hi), y] os = some (.nx [.d (.str x), .d (.int e), .d (.int n), .d (.int s), .d (.int lo), .d (.int hi), .d (.int mid)] os) := by
        simp -implicitDefEqProofs [hf]
      have d1 : decide (lo < hi) = true := decide_eq_true z
      rw [t1, d1]
      by_cases w : Fw x e n mid ≤ s
      · rw [if_pos w] at q
        obtain ⟨hi', y', ih⟩ := loop_ok ht h hn hn2 f lo mid r (.d (.int mid)) h1 (by omega) q
        refine ⟨hi', y', ?_⟩
        have s2 : wB Z [.d (.str x), .d (.int e), .d (.int n), .d (.int s), .d (.int lo), .d (.int hi), y] os = some (.nx [.d (.str x), .d (.int e), .d (.int n), .d (.int s), .d (.int lo), .d (.int mid), .d (.int mid)] os) := by
          refine seq_nx s1 ?_
          have tt : xBool (xOp leD (xFn m_sum_of_least (xaD (xF (fFn (m_rows_beside Z) (xaD (xVar 0) (xaD (xVar 6) (xaD (xVar 1) xaNil))))) (xaD (xVar 2) xaNil))) (xVar 3)) [.d (.str x), .d (.int e), .d (.int n), .d (.int s), .d (.int lo), .d (.int hi), .d (.int mid)] os = some (true, os) := by
            rw [a_bool, a_op, sv]
            simp -implicitDefEqProofs [w]
          rw [a_sIf, tt]
          rfl
        simp -implicitDefEqProofs only [Option.bind_some, if_true, s2]
        exact ih
      · rw [if_neg w] at q
        obtain ⟨hi', y', ih⟩ := loop_ok ht h hn hn2 f (mid + 1) hi r (.d (.int mid)) (by omega) (by omega) q
        refine ⟨hi', y', ?_⟩
        have s2 : wB Z [.d (.str x), .d (.int e), .d (.int n), .d (.int s), .d (.int lo), .d (.int hi), y] os = some (.nx [.d (.str x), .d (.int e), .d (.int n), .d (.int s), .d (.int (mid + 1)), .d (.int hi), .d (.int mid)] os) := by
          refine seq_nx s1 ?_
          have tt : xBool (xOp leD (xFn m_sum_of_least (xaD (xF (fFn (m_rows_beside Z) (xaD (xVar 0) (xaD (xVar 6) (xaD (xVar 1) xaNil))))) (xaD (xVar 2) xaNil))) (xVar 3)) [.d (.str x), .d (.int e), .d (.int n), .d (.int s), .d (.int lo), .d (.int hi), .d (.int mid)] os = some (false, os) := by
            rw [a_bool, a_op, sv]
            simp -implicitDefEqProofs [w]
          rw [a_sIf, tt]
          rfl
        simp -implicitDefEqProofs only [Option.bind_some, if_true, s2]
        exact ih
    · rw [if_neg z] at q
      cases q
      refine ⟨hi, y, ?_⟩
      have d1 : decide (lo < hi) = false := decide_eq_false z
      simp -implicitDefEqProofs only [t1, d1, Option.bind_some, Bool.false_eq_true, if_false]
/-- what is told: the least number, none where the steps are fewer than each card needs -/
theorem within_none {n s : Int} (ht : Tidy os) (h : Col x e) (hn : 1 ≤ n) (hn2 : n ≤ 10 ^ 29) (hs : 0 ≤ s) (lt : s < 2 * n - 1) : m_cells_within Z [.d (.str x), .d (.int e), .d (.int n), .d (.int s)] os = some (.none, os) := by
  unfold m_cells_within
  rw [m_4]
  have e29 : (10 : Int) ^ 29 = 100000000000000000000000000000 := by decide
  have e100 : (2 : Int) ^ 300 = 2037035976334486086268445688409378161051468393665936250636140449354381299763336706183397376 := by decide
  have mu : mulD (.int 2) (.int n) = some (.int (2 * n)) := mul_bd (by decide) (by decide) (by omega) (by omega)
  simp -implicitDefEqProofs [b_cells_within, columns_check ht h, check_from_ok ht (show n ≥ 1 by omega), check_from_ok ht (show s ≥ 0 by omega), mu, lt, cutW_self ht]
theorem within_some {n s : Int} (ht : Tidy os) (h : Col x e) (hn : 1 ≤ n) (hn2 : n ≤ 10 ^ 29) (le : 2 * n - 1 ≤ s) : ∃ r, m_cells_within Z [.d (.str x), .d (.int e), .d (.int n), .d (.int s)] os = some (.int r, os) ∧ Ans x e n s r := by
  obtain ⟨r, q, a⟩ := bs_all h.dm hn hn2 le
  refine ⟨r, ?_, a⟩
  obtain ⟨hi', y', lo⟩ := loop_ok (Z := Z) ht h.dm hn hn2 1000000 (cb x e n) (n - 1) r .u (Int.le_refl _) (Int.le_refl _) q
  have e29 : (10 : Int) ^ 29 = 100000000000000000000000000000 := by decide
  have e100 : (2 : Int) ^ 300 = 2037035976334486086268445688409378161051468393665936250636140449354381299763336706183397376 := by decide
  have mu : mulD (.int 2) (.int n) = some (.int (2 * n)) := mul_bd (by decide) (by decide) (by omega) (by omega)
  have nlt : ¬ s < 2 * n - 1 := by omega
  have b : b_cells_within Z [.d (.str x), .d (.int e), .d (.int n), .d (.int s), .u, .u, .u] os = some (.rt (.int r) os) := by
    unfold b_cells_within
    refine seq_nx (ρ1 := [.d (.str x), .d (.int e), .d (.int n), .d (.int s), .u, .u, .u]) (os1 := os) (by simp -implicitDefEqProofs [columns_check ht h]) ?_
    refine seq_nx (ρ1 := [.d (.str x), .d (.int e), .d (.int n), .d (.int s), .u, .u, .u]) (os1 := os) (by simp -implicitDefEqProofs [check_from_ok ht (show n ≥ 1 by omega)]) ?_
    refine seq_nx (ρ1 := [.d (.str x), .d (.int e), .d (.int n), .d (.int s), .u, .u, .u]) (os1 := os) (by simp -implicitDefEqProofs [check_from_ok ht (show s ≥ 0 by omega)]) ?_
    refine seq_nx (ρ1 := [.d (.str x), .d (.int e), .d (.int n), .d (.int s), .u, .u, .u]) (os1 := os) (by simp -implicitDefEqProofs [mu, nlt]) ?_
    refine seq_nx (ρ1 := [.d (.str x), .d (.int e), .d (.int n), .d (.int s), .d (.int (cb x e n)), .d (.int (n - 1)), .u]) (os1 := os) (by simp -implicitDefEqProofs [cells_beside_ok ht h.dm hn hn2]) ?_
    refine seq_nx (ρ1 := [.d (.str x), .d (.int e), .d (.int n), .d (.int s), .d (.int r), .d (.int hi'), y']) (os1 := os) lo ?_
    simp -implicitDefEqProofs
  unfold m_cells_within
  rw [m_4]
  simp -implicitDefEqProofs only [List.reduceReplicate, Nat.reduceSub, b, Option.bind_some, outM_rt, cutW_self ht, Option.map_some]
end
end Lw

set_option Elab.async false
set_option linter.all false
set_option maxRecDepth 100000
set_option maxHeartbeats 4000000
set_option exponentiation.threshold 3000
namespace Lw
open PySem PySem.Spec PyProof.Rows L2 Evl DL
/-! cells for a run: the law's going through -/
section
variable {x : Str} {e : Int} {Z : Cs} {os : Os}
def lsA (x : Str) (e : Int) (c : Nat) : PyData := .list (encI (ex (Rb x c e)))
def okA (x : Str) (e n : Int) (s : Option Int) (c : Nat) : Prop := n ≤ Tt x e c ∧ ∀ v, s = some v → Fw x e n c ≤ v
def okB (x : Str) (e n : Int) (s : Option Int) (c : Nat) : Bool := decide (n ≤ Tt x e c) && (match s with | none => true | some v => decide (Fw x e n c ≤ v))
theorem enum_range (N : Nat) (f : Nat → PyData) : enumD ((List.range N).map f) = (List.range' 0 N).map fun i => .tuple [.int (i : Int), f i] := by
  unfold enumD
  rw [← List.range_eq_range']
  apply List.ext_getElem
  · simp
  · intro i h1 h2
    simp
theorem least_test (h : Dm x e) {n : Int} (hn : 1 ≤ n) {s : Option Int} {c : Nat} {y0 : Sl} : xAndT (xBool (xOp geD (xCall lenD (xaD (xVar 4) xaNil)) (xVar 1))) (xOrT (xBool (xOp (isD false) (xVar 2) (xC .none))) (xBool (xOp leD (xCall sumD (xaD (xF (xSl (xVar 4) oNone (oSome (xVar 1)))) xaNil)) (xVar 2)))) [y0, .d (.int n), .d (optI s), .d (.int (c : Int)), .d (lsA x e c)] os = some (okB x e n s c, os) := by
  unfold okB
  obtain ⟨b, g, t, _⟩ := rb h (show (0 : Int) ≤ c by omega)
  have el := ex_len g.pos
  have ln : lenD [lsA x e c] = some (.int (Tt x e c)) := by
    unfold lsA
    rw [lenD_list, encI_len, el, t]
  by_cases z : n ≤ Tt x e c
  · have q1 : decide (n ≤ Tt x e c) = true := decide_eq_true z
    have ge : decide (Tt x e c ≥ n) = true := decide_eq_true (by omega)
    have q2 : xBool (xOp geD (xCall lenD (xaD (xVar 4) xaNil)) (xVar 1)) [y0, .d (.int n), .d (optI s), .d (.int (c : Int)), .d (lsA x e c)] os = some (true, os) := by
      simp -implicitDefEqProofs only [a_bool, a_op, a_call, a_d, a_var, a_nil, List.getElem?_cons_succ, List.getElem?_cons_zero, slD_d, Option.map_some, Option.bind_some, datas_d, datas_nil, ln, geD_int, ge, boolOf_bool]
    rw [q1, Bool.true_and, a_andT, q2, Option.bind_some, if_pos rfl, a_orT]
    cases s with
    | none => rfl
    | some v =>
      have nn : n = ((n.toNat : Nat) : Int) := by omega
      have c1 : DL.cutD (encI (ex (Rb x c e))) none (some n) = ((ex (Rb x c e)).take n.toNat).map .int := by
        rw [nn, cut_take]
        exact List.map_take.symm
      have s1 : sumD [.list (((ex (Rb x c e)).take n.toNat).map .int)] = some (.int (Fw x e n c)) := by
        rw [sumD_ints]
        unfold Fw
        rw [sm_ex g.pos (by omega) (by omega)]
      have is : isD false (optI (some v)) .none = some (.bool false) := rfl
      have q3 : xBool (xOp (isD false) (xVar 2) (xC .none)) [y0, .d (.int n), .d (optI (some v)), .d (.int (c : Int)), .d (lsA x e c)] os = some (false, os) := rfl
      rw [q3, Option.bind_some, if_neg Bool.false_ne_true]
      unfold lsA optI
      simp -implicitDefEqProofs only [a_bool, a_op, a_call, a_d, a_F, a_sl, a_var, a_oN, a_oS, a_nil, List.getElem?_cons_succ, List.getElem?_cons_zero, slD_d, Option.map_some, Option.bind_some, listOf_list, c1, datas_d, datas_nil, s1, leD_int, boolOf_bool]
  · have q1 : decide (n ≤ Tt x e c) = false := decide_eq_false z
    have ge : decide (Tt x e c ≥ n) = false := decide_eq_false (by omega)
    have q2 : xBool (xOp geD (xCall lenD (xaD (xVar 4) xaNil)) (xVar 1)) [y0, .d (.int n), .d (optI s), .d (.int (c : Int)), .d (lsA x e c)] os = some (false, os) := by
      simp -implicitDefEqProofs only [a_bool, a_op, a_call, a_d, a_var, a_nil, List.getElem?_cons_succ, List.getElem?_cons_zero, slD_d, Option.map_some, Option.bind_some, datas_d, datas_nil, ln, geD_int, ge, boolOf_bool]
    rw [q1, Bool.false_and, a_andT, q2, Option.bind_some, if_neg Bool.false_ne_true]
abbrev lB : SE := (sIf (xAndT (xBool (xOp geD (xCall lenD (xaD (xVar 4) xaNil)) (xVar 1))) (xOrT (xBool (xOp (isD false) (xVar 2) (xC .none))) (xBool (xOp leD (xCall sumD (xaD (xF (xSl (xVar 4) oNone (oSome (xVar 1)))) xaNil)) (xVar 2)))))
  (sRet (xVar 3))
  sNext)
abbrev lR (y0 : Sl) (n : Int) (s : Option Int) (y3 y4 : Sl) : List Sl := [y0, .d (.int n), .d (optI s), y3, y4]
theorem least_step (h : Dm x e) {n : Int} (hn : 1 ≤ n) {s : Option Int} {c : Nat} {y0 : Sl} : (okA x e n s c → lB (lR y0 n s (.d (.int (c : Int))) (.d (lsA x e c))) os = some (.rt (.int (c : Int)) os)) ∧ (¬ okA x e n s c → lB (lR y0 n s (.d (.int (c : Int))) (.d (lsA x e c))) os = some (.nx (lR y0 n s (.d (.int (c : Int))) (.d (lsA x e c))) os)) := by
  have t := least_test (os := os) (x := x) (e := e) (s := s) (c := c) (y0 := y0) h hn
  have iff : okB x e n s c = true ↔ okA x e n s c := by
    unfold okA okB
    cases s with
    | none => simp
    | some v => simp
  constructor
  · intro o
    rw [iff.mpr o] at t
    show sIf _ _ _ _ _ = _
    rw [a_sIf, t]
    rfl
  · intro o
    have : okB x e n s c = false := by
      rw [← Bool.not_eq_true]
      exact fun q => o (iff.mp q)
    rw [this] at t
    show sIf _ _ _ _ _ = _
    rw [a_sIf, t]
    rfl
theorem least_run (h : Dm x e) {n : Int} (hn : 1 ≤ n) {s : Option Int} {y0 : Sl} : ∀ (m i : Nat) (y3 y4 : Sl),
    (∀ r, i ≤ r → r < i + m → okA x e n s r → (∀ c, i ≤ c → c < r → ¬ okA x e n s c) → forRun (gTp 2 (gsCons (gNm 3) (gsCons (gNm 4) gsNil))) lB ((List.range' i m).map fun j : Nat => .tuple [.int (j : Int), lsA x e j]) (lR y0 n s y3 y4) os = some (.rt (.int (r : Int)) os)) ∧
    ((∀ c, i ≤ c → c < i + m → ¬ okA x e n s c) → ∃ z3 z4, forRun (gTp 2 (gsCons (gNm 3) (gsCons (gNm 4) gsNil))) lB ((List.range' i m).map fun j : Nat => .tuple [.int (j : Int), lsA x e j]) (lR y0 n s y3 y4) os = some (.nx (lR y0 n s z3 z4) os))
  | 0, i, y3, y4 => ⟨fun r h1 h2 _ _ => by omega, fun _ => ⟨y3, y4, rfl⟩⟩
  | m + 1, i, y3, y4 => by
    have ih := least_run h hn (s := s) (y0 := y0) m (i + 1) (.d (.int (i : Int))) (.d (lsA x e i))
    have st := least_step (os := os) (x := x) (e := e) (s := s) (c := i) (y0 := y0) h hn
    have t1 : gTp 2 (gsCons (gNm 3) (gsCons (gNm 4) gsNil)) (.tuple [.int (i : Int), lsA x e i]) (lR y0 n s y3 y4) = some (lR y0 n s (.d (.int (i : Int))) (.d (lsA x e i))) := rfl
    have rs : (List.range' i (m + 1)).map (fun j : Nat => PyData.tuple [.int (j : Int), lsA x e j]) = .tuple [.int (i : Int), lsA x e i] :: (List.range' (i + 1) m).map fun j : Nat => .tuple [.int (j : Int), lsA x e j] := by
      rw [List.range'_succ, List.map_cons]
    rw [rs]
    unfold forRun
    rw [t1, Option.bind_some]
    by_cases z : okA x e n s i
    · rw [st.1 z, Option.bind_some]
      constructor
      · intro r h1 h2 h3 h4
        have : r = i := by
          by_cases w : r = i
          · exact w
          · exact absurd z (h4 i (Nat.le_refl _) (by omega))
        subst this
        rfl
      · intro q
        exact absurd z (q i (Nat.le_refl _) (by omega))
    · rw [st.2 z, Option.bind_some]
      constructor
      · intro r h1 h2 h3 h4
        have ne : r ≠ i := fun w => z (w ▸ h3)
        exact ih.1 r (by omega) (by omega) h3 fun c c1 c2 => h4 c (by omega) c2
      · intro q
        exact ih.2 fun c c1 c2 => q c (by omega) (by omega)
theorem law_least_ok (ht : Tidy os) (h : Dm x e) {n : Int} (hn : 1 ≤ n) {s r : Option Int} {N : Nat} (hr : ∀ v, r = some v → ∃ c : Nat, v = c ∧ c < N ∧ okA x e n s c ∧ ∀ d, d < c → ¬ okA x e n s d) (hr0 : r = none → ∀ c, c < N → ¬ okA x e n s c) :
    m_law_least [.d (.list ((List.range N).map (lsA x e))), .d (.int n), .d (optI s)] os = some (optI r, os) := by
  unfold m_law_least
  rw [m_3]
  have it : iEn (xaD (xVar 0) xaNil) (lR (.d (.list ((List.range N).map (lsA x e)))) n s .u .u) os = some ((List.range' 0 N).map fun j : Nat => .tuple [.int (j : Int), lsA x e j], os) := by
    unfold iEn
    simp -implicitDefEqProofs only [a_d, a_var, a_nil, List.getElem?_cons_zero, slD_d, Option.map_some, Option.bind_some, enum_range]
  have run := least_run (os := os) h hn (s := s) (y0 := .d (.list ((List.range N).map (lsA x e)))) N 0 .u .u
  have b : b_law_least (lR (.d (.list ((List.range N).map (lsA x e)))) n s .u .u) os = some (.rt (optI r) os) := by
    unfold b_law_least
    rw [a_seq, a_for, it, Option.bind_some]
    cases r with
    | some v =>
      obtain ⟨c, rfl, h1, h2, h3⟩ := hr v rfl
      simp only
      rw [run.1 c (by omega) (by omega) h2 fun d _ hd => h3 d hd]
      rfl
    | none =>
      obtain ⟨z3, z4, q⟩ := run.2 fun c _ hc => hr0 rfl c (by omega)
      simp only
      rw [q]
      rfl
  have b : b_law_least ([.d (.list ((List.range N).map (lsA x e))), .d (.int n), .d (optI s)] ++ List.replicate (5 - 3) .u) os = some (.rt (optI r) os) := b
  simp -implicitDefEqProofs only [List.cons_append, List.nil_append] at b
  simp -implicitDefEqProofs only [b, Option.bind_some, outM_rt, cutW_self ht, Option.map_some]
/-- without a bound on the steps -/
theorem least_none (ht : Tidy os) (h : Dm x e) {n : Int} (hn : 1 ≤ n) {N : Nat} (hN : n ≤ N) : m_law_least [.d (.list ((List.range N).map (lsA x e))), .d (.int n), .d .none] os = some (.int (cb x e n), os) := by
  obtain ⟨c0, c1, c2⟩ := cb_ok (x := x) (e := e) hn
  refine law_least_ok (s := none) (r := some (cb x e n)) ht h hn (fun v hv => ?_) fun q => by cases q
  cases hv
  refine ⟨(cb x e n).toNat, by omega, by omega, ⟨(c2 _ (by omega)).mpr (by omega), fun v hv => by cases hv⟩, fun d hd o => ?_⟩
  have := (c2 d (by omega)).mp o.1
  omega
theorem least_ans (ht : Tidy os) (h : Dm x e) {n s r : Int} (hn : 1 ≤ n) {N : Nat} (hN : n ≤ N) (a : Ans x e n s r) : m_law_least [.d (.list ((List.range N).map (lsA x e))), .d (.int n), .d (.int s)] os = some (.int r, os) := by
  obtain ⟨c0, c1, c2⟩ := cb_ok (x := x) (e := e) hn
  have a1 := a.lo
  have a2 := a.hi
  refine law_least_ok (s := some s) (r := some r) ht h hn (fun v hv => ?_) fun q => by cases q
  cases hv
  have er : ((r.toNat : Nat) : Int) = r := by omega
  refine ⟨r.toNat, er.symm, by omega, ⟨(c2 _ (by omega)).mpr (by omega), fun v hv => ?_⟩, fun d hd o => ?_⟩
  · cases hv
    rw [er]
    exact a.en
  · have := (a.least h hn (by omega) o.1).mp (o.2 s rfl)
    omega
theorem least_few (ht : Tidy os) (h : Dm x e) {n s : Int} (hn : 1 ≤ n) {N : Nat} (lt : s < 2 * n - 1) : m_law_least [.d (.list ((List.range N).map (lsA x e))), .d (.int n), .d (.int s)] os = some (.none, os) := by
  refine law_least_ok (s := some s) (r := none) ht h hn (fun v hv => by cases hv) fun _ c hc o => ?_
  have := Fw_low h hn (show (0 : Int) ≤ c by omega) o.1
  have := o.2 s rfl
  omega
end
end Lw

set_option Elab.async false
set_option linter.all false
set_option maxRecDepth 100000
set_option maxHeartbeats 4000000
set_option exponentiation.threshold 3000
namespace Lw
open PySem PySem.Spec PyProof.Rows L2 Evl DL
/-! cells for a run: one turn of the law -/
theorem txt_two {d : PyData} (h : Pr d 61) (hd : d.depth ≤ 0) : ∃ tx, reprD [.list [d, d]] = some (.str tx) ∧ neD (.str tx) (.str tx) = some (.bool false) := by
  have p : Pr (.list [d, d]) 200 := pr_list (B := 61) (D := 0) (fun x hx => by
    simp at hx
    subst hx
    exact h) (fun x hx => by
    simp at hx
    subst hx
    exact hd) (by decide) (by simp)
  exact ⟨_, repr_ok p (by decide), by rw [neD_str]; simp⟩
theorem for_cons {g : XG} {b : SE} {d : PyData} {r : List PyData} {ρ ρ1 ρ2 : List Sl} {os os2 : Os} (h1 : g d ρ = some ρ1) (h2 : b ρ1 os = some (.nx ρ2 os2)) : forRun g b (d :: r) ρ os = forRun g b r ρ2 os2 := by
  show (g d ρ).bind _ = _
  rw [h1, Option.bind_some, h2]
  rfl
section
variable {x : Str} {e : Int} {Z : Cs} {os : Os} {g : List PyData} {B : Int}
/-- both ways to ask for the steps are told alike, and as the law says -/
theorem both_ok (ht : Tidy os) (h : Col x e) {n s : Int} (h1 : 1 ≤ n) (h2 : n ≤ 9) (s0 : 0 ≤ s) {N : Nat} (hN : n ≤ N) : ∃ o : Option Int, m_cells_within Z [.d (.str x), .d (.int e), .d (.int n), .d (.int s)] os = some (optI o, os) ∧ m_law_least [.d (.list ((List.range N).map (lsA x e))), .d (.int n), .d (.int s)] os = some (optI o, os) ∧ Pr (optI o) 61 ∧ (o = none ↔ s < 2 * n - 1) := by
  have e29 : (10 : Int) ^ 29 = 100000000000000000000000000000 := by decide
  by_cases z : s < 2 * n - 1
  · refine ⟨none, within_none ht h h1 (by omega) s0 z, least_few ht h.dm h1 z, pr_none, by simp [z]⟩
  · obtain ⟨r, q, a⟩ := within_some (Z := Z) (os := os) ht h h1 (by omega) (show 2 * n - 1 ≤ s by omega)
    obtain ⟨c0, c1, c2⟩ := cb_ok (x := x) (e := e) h1
    have a1 := a.lo
    have a2 := a.hi
    have t60 : (10 : Nat) ^ 60 = 1000000000000000000000000000000000000000000000000000000000000 := by decide
    refine ⟨some r, q, least_ans ht h.dm h1 hN a, pr_int (by omega), by simp [z]⟩
abbrev sB (Z : Cs) : SE := (sSeq (sAsg (xFn m_law_least (xaD (xVar 2) (xaD (xVar 6) (xaD (xVar 4) xaNil)))) (gNm 3))
  (sSeq (sIf (xBool (xOp neD (xCall reprD (xaD (xCall lstD (xaD (xFn (m_cells_within Z) (xaD (xVar 1) (xaD (xVar 5) (xaD (xVar 6) (xaD (xVar 4) xaNil))))) (xaD (xFn (fun ss => (m_cells_within Z) (pmI [3, 2, 1, 0] ss)) (xaD (xVar 4) (xaD (xVar 6) (xaD (xVar 5) (xaD (xVar 1) xaNil))))) xaNil))) xaNil)) (xCall reprD (xaD (xCall lstD (xaD (xVar 3) (xaD (xVar 3) xaNil))) xaNil))))
  (sRet (xC (.bool false)))
  sNext)
  (sIf (xBool (xOp neD (xOp (isD false) (xVar 3) (xC .none)) (xOp ltD (xVar 4) (xOp subD (xOp mulD (xC (.int 2)) (xVar 6)) (xC (.int 1))))))
  (sRet (xC (.bool false)))
  sNext)))
abbrev rS (x : Str) (e n : Int) (N : Nat) (y3 y4 y7 : Sl) : List Sl := [.o 0, .d (.str x), .d (.list ((List.range N).map (lsA x e))), y3, y4, .d (.int e), .d (.int n), y7]
theorem step_r (ht : Tidy os) (h : Col x e) {n s : Int} (h1 : 1 ≤ n) (h2 : n ≤ 9) (s0 : 0 ≤ s) {N : Nat} (hN : n ≤ N) (y3 y7 : Sl) : ∃ z3, sB Z (rS x e n N y3 (.d (.int s)) y7) os = some (.nx (rS x e n N z3 (.d (.int s)) y7) os) := by
  obtain ⟨o, q1, q2, p, iff⟩ := both_ok (Z := Z) (os := os) ht h h1 h2 s0 hN
  refine ⟨.d (optI o), ?_⟩
  obtain ⟨tx, r1, r2⟩ := txt_two p dp_opt
  have kw : (fun ss => (m_cells_within Z) (pmI [3, 2, 1, 0] ss)) [.d (.int s), .d (.int n), .d (.int e), .d (.str x)] os = m_cells_within Z [.d (.str x), .d (.int e), .d (.int n), .d (.int s)] os := rfl
  rw [q1] at kw
  refine seq_nx (ρ1 := rS x e n N (.d (optI o)) (.d (.int s)) y7) (os1 := os) ?_ ?_
  · simp -implicitDefEqProofs only [a_asg, a_fn, a_d, a_var, a_nil, List.getElem?_cons_succ, List.getElem?_cons_zero, slD_d, Option.map_some, Option.bind_some, q2, a_nm, List.set_cons_succ, List.set_cons_zero]
  · refine seq_nx (ρ1 := rS x e n N (.d (optI o)) (.d (.int s)) y7) (os1 := os) ?_ ?_
    · simp -implicitDefEqProofs only [a_sIf, a_bool, a_op, a_call, a_fn, a_d, a_var, a_nil, List.getElem?_cons_succ, List.getElem?_cons_zero, slD_d, Option.map_some, Option.bind_some, q1, kw, datas_d, datas_nil, lstD_2, r1, r2, boolOf_bool, Bool.false_eq_true, if_false, a_next]
    · have is : isD false (optI o) .none = some (.bool (decide (s < 2 * n - 1))) := by
        cases o with
        | none =>
          rw [decide_eq_true (iff.mp rfl)]
          rfl
        | some v =>
          have : ¬ s < 2 * n - 1 := fun w => by
            have := iff.mpr w
            cases this
          rw [decide_eq_false this]
          rfl
      have mu : mulD (.int 2) (.int n) = some (.int (2 * n)) := mul_bd (by decide) (by decide) (by omega) (by
        have e100 : (2 : Int) ^ 300 = 2037035976334486086268445688409378161051468393665936250636140449354381299763336706183397376 := by decide
        omega)
      have nb : ∀ b : Bool, neD (.bool b) (.bool b) = some (.bool false) := fun b => by cases b <;> kernel_rfl
      simp -implicitDefEqProofs only [a_sIf, a_bool, a_op, a_c, a_var, List.getElem?_cons_succ, List.getElem?_cons_zero, slD_d, Option.map_some, Option.bind_some, is, mu, subD_int, ltD_int, nb, boolOf_bool, Bool.false_eq_true, if_false, a_next]
theorem lists_ok' (ht : Tidy os) (h : Dm x e) {n : Int} (h1 : 1 ≤ n) (h2 : n ≤ 9) {y0 y2 y3 y4 y7 : Sl} : lcD (iRg (xaD (xOp addD (xVar 6) (xC (.int 1))) xaNil)) (gNm 7) xYes (xFn m_law_prices (xaD (xVar 1) (xaD (xVar 7) (xaD (xVar 5) xaNil)))) [7] [y0, .d (.str x), y2, y3, y4, .d (.int e), .d (.int n), y7] os = some ((List.range (n + 1).toNat).map (lsA x e), os) := by
  have rg := rg1_ok (ρ := [y0, .d (.str x), y2, y3, y4, .d (.int e), .d (.int n), y7]) (os := os) (os1 := os) (ra := xaD (xOp addD (xVar 6) (xC (.int 1))) xaNil) (j := n + 1) (by simp -implicitDefEqProofs) (by omega) (by omega)
  have er : rangeD 0 (n + 1).toNat = (List.range (n + 1).toNat).map fun i : Nat => PyData.int (i : Int) := by
    unfold rangeD
    apply List.map_congr_left
    intro i _
    simp
  rw [er] at rg
  refine lcD_all (f := fun i : Nat => PyData.int (i : Int)) (h := lsA x e) rg (fun i hi => ⟨[y0, .d (.str x), y2, y3, y4, .d (.int e), .d (.int n), .d (.int (i : Int))], rfl, ?_⟩) (by rw [List.length_range, DL.sizeLine_eq]; omega)
  have hi := List.mem_range.mp hi
  obtain ⟨b, gd, _, _⟩ := rb h (show (0 : Int) ≤ i by omega)
  have lp := law_prices_ok (Z := ⟨default⟩) (os := os) ht h.k (show (0 : Int) ≤ i by omega) (by omega) h.lo h.hi b gd
  simp -implicitDefEqProofs only [a_fn, a_d, a_var, a_nil, List.getElem?_cons_succ, List.getElem?_cons_zero, slD_d, Option.map_some, Option.bind_some, lp]
  rfl
theorem right1 (hg : GenL g B) (hB : B < 2 ^ 40) : ∃ w, m_law_right Z [.o 0] [some (.l g)] = some (.bool true, w) := by
  obtain ⟨x, g1, h1, q1, hx⟩ := kind1 hg (by omega)
  obtain ⟨e, g2, h2, q2, e0, e1⟩ := cols1 (x := x) 3 q1 (by omega) (by decide) (by decide)
  obtain ⟨r, g3, h3, q3, r0, r1⟩ := rand1 9 q2 (by omega) (by decide) (by decide)
  have hlow := low01 x
  have hC : Col x e := ⟨hx, e0, by unfold mostE; split <;> omega⟩
  obtain ⟨n, hn⟩ : ∃ n, n = 1 + r := ⟨_, rfl⟩
  have n1 : 1 ≤ n := by omega
  have n9 : n ≤ 9 := by omega
  obtain ⟨m, g4, h4, q4, m0, m1⟩ := rand1 (6 * n) q3 (by omega) (by omega) (by omega)
  have e29 : (10 : Int) ^ 29 = 100000000000000000000000000000 := by decide
  obtain ⟨N, hN⟩ : ∃ N, N = (n + 1).toNat := ⟨_, rfl⟩
  have hnN : n ≤ N := by omega
  have t3 : Tidy [some (Ob.l g3)] := Tidy.one
  have t4 : Tidy [some (Ob.l g4)] := Tidy.one
  have ll := lists_ok' (os := [some (.l g3)]) t3 hC.dm n1 n9 (y0 := .o 0) (y2 := .u) (y3 := .u) (y4 := .u) (y7 := .u)
  rw [← hN] at ll
  have ln := least_none (os := [some (.l g3)]) t3 hC.dm n1 hnN
  have cf := cells_for_ok (os := [some (.l g3)]) (n := n) t3 hC n1 (by omega)
  obtain ⟨c0, c1, c2⟩ := cb_ok (x := x) (e := e) n1
  have t60 : (10 : Nat) ^ 60 = 1000000000000000000000000000000000000000000000000000000000000 := by decide
  obtain ⟨tx, r1', r2'⟩ := txt_two (d := .int (cb x e n)) (pr_int (by omega)) (by simp [PyData.depth])
  have kw : (fun ss => m_cells_for (pmI [2, 1, 0] ss)) [.d (.int n), .d (.int e), .d (.str x)] [some (.l g3)] = m_cells_for [.d (.str x), .d (.int e), .d (.int n)] [some (.l g3)] := rfl
  rw [cf] at kw
  have mu : ∀ k : Int, 0 ≤ k → k ≤ 10 → mulD (.int k) (.int n) = some (.int (k * n)) := fun k k0 k1 => mul_bd k0 (by
    have e100 : (2 : Int) ^ 100 = 1267650600228229401496703205376 := by decide
    omega) (by omega) (by
    have e100 : (2 : Int) ^ 300 = 2037035976334486086268445688409378161051468393665936250636140449354381299763336706183397376 := by decide
    omega)
  obtain ⟨a3, s1⟩ := step_r (Z := Z) (os := [some (.l g4)]) t4 hC n1 n9 m0 hnN (.d (.int (cb x e n))) .u
  obtain ⟨b3, s2⟩ := step_r (Z := Z) (os := [some (.l g4)]) t4 hC n1 n9 (show 0 ≤ 2 * n - 1 by omega) hnN a3 .u
  obtain ⟨d3, s3⟩ := step_r (Z := Z) (os := [some (.l g4)]) t4 hC n1 n9 (show 0 ≤ 2 * n - 2 by omega) hnN b3 .u
  have hb1 : b_law_right Z [.o 0, .u, .u, .u, .u, .u, .u, .u] [some (.l g)] = some (.rt (.bool true) [some (Ob.l g4)]) := by
    unfold b_law_right
    refine seq_nx (ρ1 := [.o 0, .d (.str x), .u, .u, .u, .u, .u, .u]) (os1 := [some (.l g1)]) (by simp -implicitDefEqProofs [h1]) ?_
    refine seq_nx (ρ1 := [.o 0, .d (.str x), .u, .u, .u, .d (.int e), .d (.int n), .u]) (os1 := [some (.l g3)]) ?_ ?_
    · rw [hn]
      simp -implicitDefEqProofs [DL.sTupV, h2, h3]
      rfl
    refine seq_nx (ρ1 := [.o 0, .d (.str x), .d (.list ((List.range N).map (lsA x e))), .u, .u, .d (.int e), .d (.int n), .u]) (os1 := [some (.l g3)]) ?_ ?_
    · rw [a_asg, a_F, ll]
      rfl
    refine seq_nx (ρ1 := rS x e n N (.d (.int (cb x e n))) .u .u) (os1 := [some (.l g3)]) ?_ ?_
    · simp -implicitDefEqProofs only [a_asg, a_fn, a_d, a_c, a_var, a_nil, List.getElem?_cons_succ, List.getElem?_cons_zero, slD_d, Option.map_some, Option.bind_some, ln, a_nm, List.set_cons_succ, List.set_cons_zero]
    refine seq_nx (ρ1 := rS x e n N (.d (.int (cb x e n))) .u .u) (os1 := [some (.l g3)]) ?_ ?_
    · simp -implicitDefEqProofs only [a_sIf, a_bool, a_op, a_call, a_fn, a_d, a_var, a_nil, List.getElem?_cons_succ, List.getElem?_cons_zero, slD_d, Option.map_some, Option.bind_some, cf, kw, datas_d, datas_nil, lstD_2, r1', r2', boolOf_bool, Bool.false_eq_true, if_false, a_next]
    refine seq_nx (ρ1 := rS x e n N d3 (.d (.int (2 * n - 2))) .u) (os1 := [some (.l g4)]) ?_ rfl
    have li : iLst (xCall lstD (xaD (xFn m_law_random (xaO 0 (xaD (xOp mulD (xC (.int 6)) (xVar 6)) xaNil))) (xaD (xOp subD (xOp mulD (xC (.int 2)) (xVar 6)) (xC (.int 1))) (xaD (xOp subD (xOp mulD (xC (.int 2)) (xVar 6)) (xC (.int 2))) xaNil)))) (rS x e n N (.d (.int (cb x e n))) .u .u) [some (.l g3)] = some ([.int m, .int (2 * n - 1), .int (2 * n - 2)], [some (.l g4)]) := by
      simp -implicitDefEqProofs only [a_iLst, a_op, a_c, a_fn, a_o, a_d, a_nil, a_call, a_var, List.getElem?_cons_succ, List.getElem?_cons_zero, slO_o, slD_d, Option.map_some, Option.bind_some, datas_d, datas_nil, mu 6 (by decide) (by decide), mu 2 (by decide) (by decide), h4, subD_int, lstD_3, listOf_list]
    rw [a_for, li, Option.bind_some]
    exact (for_cons rfl s1).trans ((for_cons rfl s2).trans ((for_cons rfl s3).trans rfl))
  have cw : cutW 1 [some (Ob.l g4)] = some [some (.l g4)] := cutW_self Tidy.one
  refine ⟨[some (.l g4)], ?_⟩
  unfold m_law_right
  rw [m_1]
  simp -implicitDefEqProofs only [List.reduceReplicate, Nat.reduceSub, hb1, Option.bind_some, outM_rt, List.length_cons, List.length_nil, Nat.zero_add, cw, Option.map_some]
end
end Lw

set_option Elab.async false
set_option linter.all false
set_option maxRecDepth 100000
set_option maxHeartbeats 4000000
set_option exponentiation.threshold 3000
namespace Lw
open PySem PySem.Spec PyProof.Rows L2 Evl DL
/-! cells for a run: great numbers -/
section
variable {x : Str} {e : Int} {Z : Cs} {os : Os} {g : List PyData} {B : Int}
theorem lt30 {a : Int} (h : a ≤ 10 ^ 29) : a < 10 ^ 30 ∧ a < 2 ^ 300 := by
  have e29 : (10 : Int) ^ 29 = 100000000000000000000000000000 := by decide
  have e30 : (10 : Int) ^ 30 = 1000000000000000000000000000000 := by decide
  have e100 : (2 : Int) ^ 300 = 2037035976334486086268445688409378161051468393665936250636140449354381299763336706183397376 := by decide
  omega
theorem few_yes (ht : Tidy os) (h : Dm x e) {n c : Int} (h1 : 1 ≤ n) (h2 : n ≤ 10 ^ 29) (c0 : 0 ≤ c) (c1 : c ≤ 10 ^ 29) (le : n ≤ Tt x e c) : m_fewest Z [.d (.str x), .d (.int c), .d (.int e), .d (.int n)] os = some (.int (Fw x e n c), os) := by
  have q := fewest_ok (tell' (Z := Z) h c0 (lt30 c1).1) ht h1 (lt30 h2).2
  rw [(rb h c0).2.2.1, if_pos le] at q
  exact q
theorem few_no (ht : Tidy os) (h : Dm x e) {n c : Int} (h1 : 1 ≤ n) (h2 : n ≤ 10 ^ 29) (c0 : 0 ≤ c) (c1 : c ≤ 10 ^ 29) (le : ¬ n ≤ Tt x e c) : m_fewest Z [.d (.str x), .d (.int c), .d (.int e), .d (.int n)] os = some (.none, os) := by
  have q := fewest_ok (tell' (Z := Z) h c0 (lt30 c1).1) ht h1 (lt30 h2).2
  rw [(rb h c0).2.2.1, if_neg le] at q
  exact q
abbrev rG (x : Str) (e n l s : Int) (y2 : Sl) : List Sl := [.o 0, .d (.int e), y2, .d (.str x), .d (.int n), .d (.int l), .d (.int s)]
theorem great1 (hg : GenL g B) (hB : B < 2 ^ 40) : ∃ w, m_law_great_right Z [.o 0] [some (.l g)] = some (.bool true, w) := by
  have e29 : (10 : Int) ^ 29 = 100000000000000000000000000000 := by decide
  have e100 : (2 : Nat) ^ 100 = 1267650600228229401496703205376 := by decide
  have e300 : (2 : Int) ^ 300 = 2037035976334486086268445688409378161051468393665936250636140449354381299763336706183397376 := by decide
  obtain ⟨x, g1, h1, q1, hx⟩ := kind1 hg (by omega)
  obtain ⟨r, g2, h2, q2, r0, r1⟩ := rand1 (10 ^ 29) q1 (by omega) (by decide) (by decide)
  obtain ⟨e, g3, h3, q3, e0, e1⟩ := cols1 (x := x) 4 q2 (by omega) (by decide) (by decide)
  have hlow := low01 x
  have hC : Col x e := ⟨hx, e0, by unfold mostE; split <;> omega⟩
  obtain ⟨n, hn⟩ : ∃ n, n = 1 + r := ⟨_, rfl⟩
  have n1 : 1 ≤ n := by omega
  have n9 : n ≤ 10 ^ 29 := by omega
  obtain ⟨m, g4, h4, q4, m0, m1⟩ := rand1 (3 * n) q3 (by omega) (by omega) (by omega)
  obtain ⟨s, hs⟩ : ∃ s, s = 2 * n - 1 + m := ⟨_, rfl⟩
  have t4 : Tidy [some (Ob.l g4)] := Tidy.one
  have cf := cells_for_ok (os := [some (.l g3)]) (n := n) Tidy.one hC n1 n9
  obtain ⟨c0, c1, c2⟩ := cb_ok (x := x) (e := e) n1
  obtain ⟨t, w1, a⟩ := within_some (Z := Z) (os := [some (.l g4)]) t4 hC n1 n9 (show 2 * n - 1 ≤ s by omega)
  have w0 := within_none (Z := Z) (os := [some (.l g4)]) (s := 2 * n - 2) t4 hC n1 n9 (by omega) (by omega)
  have a1 := a.lo
  have a2 := a.hi
  have f1 := few_yes (Z := Z) (os := [some (.l g4)]) (c := cb x e n) t4 hC.dm n1 n9 c0 (by omega) ((c2 _ c0).mpr (Int.le_refl _))
  have f2 := few_yes (Z := Z) (os := [some (.l g4)]) (c := t) t4 hC.dm n1 n9 (by omega) (by omega) ((c2 t (by omega)).mpr a1)
  have mu : ∀ k : Int, 0 ≤ k → k ≤ 10 → mulD (.int k) (.int n) = some (.int (k * n)) := fun k k0 k1 => mul_bd k0 (by
    have e100 : (2 : Int) ^ 100 = 1267650600228229401496703205376 := by decide
    omega) (by omega) (by omega)
  have po : powD (.int 10) (.int 29) = some (.int (10 ^ 29)) := (powD_ok (p := 40) (by decide) (by decide) (by decide)).trans (some_int (by decide))
  have i1 : ∀ v : Int, isD false (.int v) .none = some (.bool false) := fun v => rfl
  have i2 : isD true .none .none = some (.bool false) := rfl
  have s4 : sIf (xOrT (xBool (xOp (isD false) (xFn (m_fewest Z) (xaD (xVar 3) (xaD (xVar 5) (xaD (xVar 1) (xaD (xVar 4) xaNil))))) (xC .none))) (xAndT (xBool (xOp gtD (xVar 5) (xC (.int 0)))) (xBool (xOp (isD true) (xFn (m_fewest Z) (xaD (xVar 3) (xaD (xOp subD (xVar 5) (xC (.int 1))) (xaD (xVar 1) (xaD (xVar 4) xaNil))))) (xC .none)))))
      (sRet (xC (.bool false))) sNext (rG x e n (cb x e n) s .u) [some (.l g4)] = some (.nx (rG x e n (cb x e n) s .u) [some (.l g4)]) := by
    by_cases z : cb x e n > 0
    · have nl : ¬ n ≤ Tt x e (cb x e n - 1) := fun q => by
        have := (c2 _ (by omega)).mp q
        omega
      have f3 := few_no (Z := Z) (os := [some (.l g4)]) (c := cb x e n - 1) t4 hC.dm n1 n9 (by omega) (by omega) nl
      simp -implicitDefEqProofs only [a_sIf, a_orT, a_andT, a_bool, a_op, a_fn, a_d, a_c, a_var, a_nil, List.getElem?_cons_succ, List.getElem?_cons_zero, slD_d, Option.map_some, Option.bind_some, f1, i1, boolOf_bool, Bool.false_eq_true, if_false, gtD_int, z, decide_true, if_true, subD_int, f3, i2, a_next]
    · simp -implicitDefEqProofs only [a_sIf, a_orT, a_andT, a_bool, a_op, a_fn, a_d, a_c, a_var, a_nil, List.getElem?_cons_succ, List.getElem?_cons_zero, slD_d, Option.map_some, Option.bind_some, f1, i1, boolOf_bool, Bool.false_eq_true, if_false, gtD_int, z, decide_false, a_next]
  have s6 : sIf (xOrT (xBool (xOp ltD (xVar 2) (xVar 5))) (xOrT (xBool (xOp gtD (xFn (m_fewest Z) (xaD (xVar 3) (xaD (xVar 2) (xaD (xVar 1) (xaD (xVar 4) xaNil))))) (xVar 6))) (xBool (xOp (isD true) (xFn (m_cells_within Z) (xaD (xVar 3) (xaD (xVar 1) (xaD (xVar 4) (xaD (xOp subD (xOp mulD (xC (.int 2)) (xVar 4)) (xC (.int 2))) xaNil))))) (xC .none)))))
      (sRet (xC (.bool false))) sNext (rG x e n (cb x e n) s (.d (.int t))) [some (.l g4)] = some (.nx (rG x e n (cb x e n) s (.d (.int t))) [some (.l g4)]) := by
    have z1 : ¬ t < cb x e n := by omega
    have z2 : ¬ Fw x e n t > s := by
      have := a.en
      omega
    simp -implicitDefEqProofs only [a_sIf, a_orT, a_bool, a_op, a_fn, a_d, a_c, a_var, a_nil, List.getElem?_cons_succ, List.getElem?_cons_zero, slD_d, Option.map_some, Option.bind_some, ltD_int, z1, decide_false, boolOf_bool, Bool.false_eq_true, if_false, f2, gtD_int, z2, mu 2 (by decide) (by decide), subD_int, w0, i2, a_next]
  have s7 : sRet (xOrV (xOp eqD (xVar 2) (xVar 5)) (xOp gtD (xFn (m_fewest Z) (xaD (xVar 3) (xaD (xOp subD (xVar 2) (xC (.int 1))) (xaD (xVar 1) (xaD (xVar 4) xaNil))))) (xVar 6))) (rG x e n (cb x e n) s (.d (.int t))) [some (.l g4)] = some (.rt (.bool true) [some (.l g4)]) := by
    have eq : eqD (.int t) (.int (cb x e n)) = some (.bool (decide (t = cb x e n))) := DL.eqD_int
    by_cases z : t = cb x e n
    · rw [decide_eq_true z] at eq
      simp -implicitDefEqProofs only [a_ret, xOrV, a_op, a_fn, a_d, a_c, a_var, a_nil, List.getElem?_cons_succ, List.getElem?_cons_zero, slD_d, Option.map_some, Option.bind_some, eq]
    · rw [decide_eq_false z] at eq
      have f3 := few_yes (Z := Z) (os := [some (.l g4)]) (c := t - 1) t4 hC.dm n1 n9 (by omega) (by omega) ((c2 _ (by omega)).mpr (by omega))
      have z2 : Fw x e n (t - 1) > s := a.no (by omega)
      simp -implicitDefEqProofs only [a_ret, xOrV, a_op, a_fn, a_d, a_c, a_var, a_nil, List.getElem?_cons_succ, List.getElem?_cons_zero, slD_d, Option.map_some, Option.bind_some, eq, subD_int, f3, gtD_int, z2, decide_true]
  have hb1 : b_law_great_right Z [.o 0, .u, .u, .u, .u, .u, .u] [some (.l g)] = some (.rt (.bool true) [some (Ob.l g4)]) := by
    unfold b_law_great_right
    refine seq_nx (ρ1 := [.o 0, .u, .u, .d (.str x), .d (.int n), .u, .u]) (os1 := [some (.l g2)]) ?_ ?_
    · rw [hn]
      simp -implicitDefEqProofs only [a_par, a_fn, a_o, a_d, a_nil, a_op, a_c, List.getElem?_cons_zero, slO_o, Option.map_some, Option.bind_some, h1, po, h2, addD_int, List.set_cons_succ, List.set_cons_zero]
    refine seq_nx (ρ1 := [.o 0, .d (.int e), .u, .d (.str x), .d (.int n), .u, .u]) (os1 := [some (.l g3)]) ?_ ?_
    · simp -implicitDefEqProofs only [a_asg, a_fn, a_o, a_d, a_nil, a_c, a_var, List.getElem?_cons_succ, List.getElem?_cons_zero, slO_o, slD_d, Option.map_some, Option.bind_some, h3, a_nm, List.set_cons_succ, List.set_cons_zero]
    refine seq_nx (ρ1 := rG x e n (cb x e n) s .u) (os1 := [some (.l g4)]) ?_ ?_
    · rw [hs]
      simp -implicitDefEqProofs only [a_par, a_fn, a_o, a_d, a_nil, a_op, a_c, a_var, List.getElem?_cons_succ, List.getElem?_cons_zero, slO_o, slD_d, Option.map_some, Option.bind_some, cf, mu 2 (by decide) (by decide), mu 3 (by decide) (by decide), subD_int, h4, addD_int, List.set_cons_succ, List.set_cons_zero]
    refine seq_nx s4 ?_
    refine seq_nx (ρ1 := rG x e n (cb x e n) s (.d (.int t))) (os1 := [some (.l g4)]) ?_ ?_
    · simp -implicitDefEqProofs only [a_asg, a_fn, a_d, a_nil, a_var, List.getElem?_cons_succ, List.getElem?_cons_zero, slD_d, Option.map_some, Option.bind_some, w1, a_nm, List.set_cons_succ, List.set_cons_zero]
    exact seq_nx s6 s7
  have cw : cutW 1 [some (Ob.l g4)] = some [some (.l g4)] := cutW_self Tidy.one
  refine ⟨[some (.l g4)], ?_⟩
  unfold m_law_great_right
  rw [m_1]
  simp -implicitDefEqProofs only [List.reduceReplicate, Nat.reduceSub, hb1, Option.bind_some, outM_rt, List.length_cons, List.length_nil, Nat.zero_add, cw, Option.map_some]
/-! closed cases -/
theorem low_o : low "over" = 0 := by unfold low; rw [if_neg n_oi]
theorem low_i : low "into" = 1 := by unfold low; rw [if_pos rfl]
theorem col_o {e : Int} (h0 : 0 ≤ e) (h1 : e ≤ 7) : Col "over" e := ⟨.inl rfl, by rw [low_o]; exact h0, by unfold mostE; rw [if_neg n_ow]; exact h1⟩
theorem col_i {e : Int} (h0 : 1 ≤ e) (h1 : e ≤ 7) : Col "into" e := ⟨.inr (.inl rfl), by rw [low_i]; exact h0, by unfold mostE; rw [if_neg n_iw]; exact h1⟩
theorem fw_c {x : Str} {e c n v : Int} (h : (beside x c e).map (fun R => sm R n) = some v) : Fw x e n c = v := by
  unfold Fw Rb
  cases hb : beside x c e with
  | none =>
    rw [hb] at h
    cases h
  | some R =>
    rw [hb] at h
    exact Option.some.inj h
/-- a told number of cells, closed -/
theorem ans_c (h : Col x e) {n s r v u : Int} (h1 : 1 ≤ n) (h2 : n ≤ 1000) (hs : 2 * n - 1 ≤ s) (lo : cb x e n ≤ r) (hi : r ≤ n - 1) (f1 : (beside x r e).map (fun R => sm R n) = some v) (z1 : v ≤ s) (f2 : cb x e n < r → (beside x (r - 1) e).map (fun R => sm R n) = some u ∧ s < u) : ∀ os : Os, Tidy os → m_cells_within Z [.d (.str x), .d (.int e), .d (.int n), .d (.int s)] os = some (.int r, os) := fun os ht => by
  have e29 : (10 : Int) ^ 29 = 100000000000000000000000000000 := by decide
  obtain ⟨t, q, a⟩ := within_some (Z := Z) (os := os) ht h h1 (by omega) hs
  have b : Ans x e n s r := ⟨lo, hi, by rw [fw_c f1]; exact z1, fun z => by
    obtain ⟨g1, g2⟩ := f2 z
    rw [fw_c g1]
    exact g2⟩
  rw [a.uniq h.dm h1 b] at q
  exact q
theorem cb_o {e n : Int} : cb "over" e n = (n - 1) / 2 ^ e.toNat := by
  unfold cb kk
  rw [low_o, Int.sub_zero]
theorem cb_i {e n : Int} : cb "into" e n = (n - 1) / 2 ^ (e - 1).toNat := by
  unfold cb kk
  rw [low_i]
theorem k1 : (beside "over" 1 5).map (fun R => sm R 10) = some 25 := by kernel_rfl
theorem k2 : (beside "over" 0 5).map (fun R => sm R 10) = some 27 := by kernel_rfl
theorem k3 : (beside "over" 3 6).map (fun R => sm R 20) = some 59 := by kernel_rfl
theorem k4 : (beside "over" 2 6).map (fun R => sm R 20) = some 61 := by kernel_rfl
theorem k5 : (beside "into" 1 7).map (fun R => sm R 30) = some 105 := by kernel_rfl
theorem k6 : (beside "into" 0 7).map (fun R => sm R 30) = some 129 := by kernel_rfl
theorem k7 : (beside "over" 4 2).map (fun R => sm R 20) = some 81 := by kernel_rfl
theorem k8 : (beside "over" 5 2).map (fun R => sm R 20) = some 67 := by kernel_rfl
theorem k9 : (beside "over" 17 2).map (fun R => sm R 20) = some 39 := by kernel_rfl
theorem k10 : (beside "over" 16 2).map (fun R => sm R 20) = some 41 := by kernel_rfl
end
end Lw

set_option Elab.async false
set_option linter.all false
set_option maxRecDepth 100000
set_option maxHeartbeats 4000000
set_option exponentiation.threshold 3000
namespace Lw
open PySem PySem.Spec PyProof.Rows L2 Evl DL
/-! cells for a run: the law -/
theorem law_true (Z : Cs) (ns : List Int) (hl : ns.length ≤ 63) : ∃ w', m_law Z [.d (.list (ns.map PyData.int))] [] = some (.bool true, w') := by
  have gen : ∀ i : Nat, i < 100 → ∀ os : Os, Tidy os → ∃ g, m_law_generator [.d (.list (ns.map .int)), .d (.int i)] os = some (g, os) ∧ GenL g 100000 := fun i hi os ho => generator_ok ns i os ho hi
  have c0 : ∀ w : Os, cutW 0 w = some [] := fun w => by
    unfold cutW
    simp
  have e29 : (10 : Int) ^ 29 = 100000000000000000000000000000 := by decide
  have r1 := ans_c (Z := Z) (x := "over") (e := 5) (n := 10) (s := 25) (r := 1) (col_o (by decide) (by decide)) (by decide) (by decide) (by decide) (by rw [cb_o]; decide) (by decide) k1 (by decide) (fun _ => ⟨k2, by decide⟩) [] Tidy.nil
  have r2 := ans_c (Z := Z) (x := "over") (e := 5) (n := 10) (s := 27) (r := 0) (u := 0) (col_o (by decide) (by decide)) (by decide) (by decide) (by decide) (by rw [cb_o]; decide) (by decide) k2 (by decide) (fun z => by rw [cb_o] at z; exact absurd z (by decide)) [] Tidy.nil
  have r3 := ans_c (Z := Z) (x := "over") (e := 5) (n := 10) (s := 26) (r := 1) (col_o (by decide) (by decide)) (by decide) (by decide) (by decide) (by rw [cb_o]; decide) (by decide) k1 (by decide) (fun _ => ⟨k2, by decide⟩) [] Tidy.nil
  have r4 := ans_c (Z := Z) (x := "over") (e := 6) (n := 20) (s := 60) (r := 3) (col_o (by decide) (by decide)) (by decide) (by decide) (by decide) (by rw [cb_o]; decide) (by decide) k3 (by decide) (fun _ => ⟨k4, by decide⟩) [] Tidy.nil
  have r5 := ans_c (Z := Z) (x := "into") (e := 7) (n := 30) (s := 120) (r := 1) (col_i (by decide) (by decide)) (by decide) (by decide) (by decide) (by rw [cb_i]; decide) (by decide) k5 (by decide) (fun _ => ⟨k6, by decide⟩) [] Tidy.nil
  have r6 := ans_c (Z := Z) (x := "over") (e := 2) (n := 20) (s := 81) (r := 4) (u := 0) (col_o (by decide) (by decide)) (by decide) (by decide) (by decide) (by rw [cb_o]; decide) (by decide) k7 (by decide) (fun z => by rw [cb_o] at z; exact absurd z (by decide)) [] Tidy.nil
  have r7 := ans_c (Z := Z) (x := "over") (e := 2) (n := 20) (s := 80) (r := 5) (col_o (by decide) (by decide)) (by decide) (by decide) (by decide) (by rw [cb_o]; decide) (by decide) k8 (by decide) (fun _ => ⟨k7, by decide⟩) [] Tidy.nil
  have r8 := within_none (Z := Z) (os := []) (x := "over") (e := 2) (n := 20) (s := 38) Tidy.nil (col_o (by decide) (by decide)) (by decide) (by decide) (by decide) (by decide)
  have r9 := ans_c (Z := Z) (x := "over") (e := 2) (n := 20) (s := 39) (r := 17) (col_o (by decide) (by decide)) (by decide) (by decide) (by decide) (by rw [cb_o]; decide) (by decide) k9 (by decide) (fun _ => ⟨k10, by decide⟩) [] Tidy.nil
  have cbt : cb "over" 0 100000000000000000000000000000 = 99999999999999999999999999999 := by
    rw [cb_o]
    decide
  have r10 : m_cells_within Z [.d (.str "over"), .d (.int 0), .d (.int (10 ^ 29)), .d (.int (2 * 10 ^ 29))] [] = some (.int (10 ^ 29 - 1), []) := by
    obtain ⟨t, q, a⟩ := within_some (Z := Z) (os := []) (x := "over") (e := 0) (n := 10 ^ 29) (s := 2 * 10 ^ 29) Tidy.nil (col_o (by decide) (by decide)) (by decide) (by decide) (by decide)
    have a1 := a.lo
    have a2 := a.hi
    rw [e29, cbt] at a1
    have : t = 10 ^ 29 - 1 := by omega
    rw [this] at q
    exact q
  have f1 := cells_for_ok (os := []) (x := "over") (e := 2) (n := 20) Tidy.nil (col_o (by decide) (by decide)) (by decide) (by decide)
  have f2 := cells_for_ok (os := []) (x := "into") (e := 1) (n := 7) Tidy.nil (col_i (by decide) (by decide)) (by decide) (by decide)
  have f3 := cells_for_ok (os := []) (x := "over") (e := 3) (n := 1) Tidy.nil (col_o (by decide) (by decide)) (by decide) (by decide)
  rw [cb_o] at f1 f3
  rw [cb_i] at f2
  have v1 : (20 - 1) / 2 ^ (2 : Int).toNat = (4 : Int) := by decide
  have v2 : (7 - 1) / 2 ^ ((1 : Int) - 1).toNat = (6 : Int) := by decide
  have v3 : (1 - 1) / 2 ^ (3 : Int).toNat = (0 : Int) := by decide
  rw [v1] at f1
  rw [v2] at f2
  rw [v3] at f3
  have po : powD (.int 10) (.int 29) = some (.int (10 ^ 29)) := (powD_ok (p := 40) (by decide) (by decide) (by decide)).trans (some_int (by decide))
  have mu : mulD (.int 2) (.int (10 ^ 29)) = some (.int (2 * 10 ^ 29)) := mul_bd (by decide) (by decide) (by decide) (by decide)
  have turn : ∀ i : Int, (∃ n : Nat, n < 3 ∧ i = n) → ∀ y2 : Sl, sIf (xNotT (xTruth (xFnN (m_law_right Z) (fFn m_law_generator (xaD (xVar 0) (xaD (xVar 1) xaNil))) xaNil))) (sRet (xC (.bool false))) sNext [.d (.list (ns.map .int)), .d (.int i), y2] [] = some (.nx [.d (.list (ns.map .int)), .d (.int i), y2] []) := fun i hi y2 => by
    obtain ⟨n, hn, rfl⟩ := hi
    obtain ⟨g, e1, e2⟩ := gen n (by omega) [] Tidy.nil
    obtain ⟨w, e3⟩ := right1 (Z := Z) e2 (by decide)
    simp -implicitDefEqProofs [e1, e3, c0]
  have s1 : sFor (iRg (xaD (xC (.int 3)) xaNil)) (gNm 1) (sIf (xNotT (xTruth (xFnN (m_law_right Z) (fFn m_law_generator (xaD (xVar 0) (xaD (xVar 1) xaNil))) xaNil))) (sRet (xC (.bool false))) sNext) [.d (.list (ns.map .int)), .u, .u] [] = some (.nx [.d (.list (ns.map .int)), .d (.int 2), .u] []) := by
    have r0 : iRg (xaD (xC (.int 3)) xaNil) [.d (.list (ns.map .int)), .u, .u] [] = some ([.int 0, .int 1, .int 2], []) := by
      rw [rg1_ok (j := 3) rfl (by decide) (by decide)]
      rfl
    have t0 := turn 0 ⟨0, by decide, rfl⟩ .u
    have t1 := turn 1 ⟨1, by decide, rfl⟩ .u
    have t2 := turn 2 ⟨2, by decide, rfl⟩ .u
    simp -implicitDefEqProofs only [a_for, r0, Option.bind_some, forRun, a_nm, List.set_cons_succ, List.set_cons_zero, t0, t1, t2]
  have prL : ∀ D : List PyData, D.length ≤ 20 → (∀ d ∈ D, d = .none ∨ ∃ i : Int, d = .int i ∧ i.natAbs < 10 ^ 60) → ∃ tx, reprD [.list D] = some (.str tx) ∧ eqD (.str tx) (.str tx) = some (.bool true) ∧ neD (.str tx) (.str tx) = some (.bool false) := fun D hl hD => by
    have p : Pr (.list D) 2000 := by
      refine pr_list (B := 61) (D := 0) (fun d hd => ?_) (fun d hd => ?_) (by decide) (by omega)
      · rcases hD d hd with rfl | ⟨i, rfl, hi⟩
        · exact pr_none
        · exact pr_int hi
      · rcases hD d hd with rfl | ⟨i, rfl, hi⟩ <;> simp [PyData.depth]
    exact ⟨_, repr_ok p (by decide), by rw [eqD_str]; simp, by rw [neD_str]; simp⟩
  obtain ⟨ta, p1, p2, p3⟩ := prL [.int 1, .int 0, .int 1, .int 3, .int 1] (by decide) (by
    intro d hd
    simp only [List.mem_cons, List.not_mem_nil, or_false] at hd
    rcases hd with rfl | rfl | rfl | rfl | rfl <;> exact .inr ⟨_, rfl, by decide⟩)
  obtain ⟨tb, p4, p5, p6⟩ := prL [.int 4, .int 6, .int 0, .int 4, .int 5, .none, .int 17, .int (10 ^ 29 - 1)] (by decide) (by
    intro d hd
    simp only [List.mem_cons, List.not_mem_nil, or_false] at hd
    rcases hd with rfl | rfl | rfl | rfl | rfl | rfl | rfl | rfl
    · exact .inr ⟨_, rfl, by decide⟩
    · exact .inr ⟨_, rfl, by decide⟩
    · exact .inr ⟨_, rfl, by decide⟩
    · exact .inr ⟨_, rfl, by decide⟩
    · exact .inr ⟨_, rfl, by decide⟩
    · exact .inl rfl
    · exact .inr ⟨_, rfl, by decide⟩
    · exact .inr ⟨_, rfl, by decide⟩)
  have l5 : ∀ a b c d e : PyData, lstD [a, b, c, d, e] = some (.list [a, b, c, d, e]) := fun a b c d e => lstD_ok (by simp [sizeLine])
  have l8 : lstD [.int 4, .int 6, .int 0, .int 4, .int 5, .none, .int 17, .int (10 ^ 29 - 1)] = some (.list [.int 4, .int 6, .int 0, .int 4, .int 5, .none, .int 17, .int (10 ^ 29 - 1)]) := lstD_ok (by simp [sizeLine])
  have ad : addD (.list [.int 4, .int 6, .int 0, .int 4, .int 5]) (.list [.none, .int 17, .int (10 ^ 29 - 1)]) = some (.list [.int 4, .int 6, .int 0, .int 4, .int 5, .none, .int 17, .int (10 ^ 29 - 1)]) := addD_list (by simp [sizeLine])
  obtain ⟨g3, e1, e2⟩ := gen 3 (by decide) [] Tidy.nil
  obtain ⟨w, e3⟩ := great1 (Z := Z) e2 (by decide)
  have i3 : m_law_generator [.d (.list (ns.map .int)), .d (.int 3)] [] = some (g3, []) := e1
  obtain ⟨T, hT⟩ : ∃ T, T = (10 : Int) ^ 29 := ⟨_, rfl⟩
  rw [← hT] at po mu r10 p4 l8 ad
  have b : b_law Z [.d (.list (ns.map .int)), .u, .u] [] = some (.rt (.bool true) []) := by
    unfold b_law
    refine seq_nx s1 ?_
    refine seq_nx (ρ1 := [.d (.list (ns.map .int)), .d (.int 2), .d (.list [.int 1, .int 0, .int 1, .int 3, .int 1])]) (os1 := []) ?_ ?_
    · simp -implicitDefEqProofs only [a_asg, a_call, a_d, a_fn, a_c, a_nil, r1, r2, r3, r4, r5, Option.map_some, Option.bind_some, datas_d, datas_nil, l5, a_nm, List.set_cons_succ, List.set_cons_zero]
    refine seq_nx (ρ1 := [.d (.list (ns.map .int)), .d (.int 2), .d (.list [.int 1, .int 0, .int 1, .int 3, .int 1])]) (os1 := []) ?_ ?_
    · simp -implicitDefEqProofs only [a_sIf, a_bool, a_op, a_call, a_d, a_c, a_var, a_nil, List.getElem?_cons_succ, List.getElem?_cons_zero, slD_d, Option.map_some, Option.bind_some, datas_d, datas_nil, l5, p1, p3, boolOf_bool, Bool.false_eq_true, if_false, a_next]
    refine seq_nx (ρ1 := [.d (.list (ns.map .int)), .d (.int 2), .d (.list [.int 4, .int 6, .int 0, .int 4, .int 5])]) (os1 := []) ?_ ?_
    · simp -implicitDefEqProofs only [a_asg, a_call, a_d, a_fn, a_c, a_nil, f1, f2, f3, r6, r7, Option.map_some, Option.bind_some, datas_d, datas_nil, l5, a_nm, List.set_cons_succ, List.set_cons_zero]
    refine seq_nx (ρ1 := [.d (.list (ns.map .int)), .d (.int 2), .d (.list [.int 4, .int 6, .int 0, .int 4, .int 5, .none, .int 17, .int (T - 1)])]) (os1 := []) ?_ ?_
    · simp -implicitDefEqProofs only [a_asg, a_op, a_call, a_d, a_fn, a_c, a_var, a_nil, List.getElem?_cons_succ, List.getElem?_cons_zero, slD_d, po, mu, r8, r9, r10, Option.map_some, Option.bind_some, datas_d, datas_nil, lstD_3, ad, a_nm, List.set_cons_succ, List.set_cons_zero]
    simp -implicitDefEqProofs [l8, p4, p5, po, i3, e3, c0]
  unfold m_law
  rw [m_1]
  refine ⟨[], ?_⟩
  simp -implicitDefEqProofs only [List.reduceReplicate, Nat.reduceSub, b, Option.bind_some, outM_rt, List.length_nil, c0, Option.map_some]
end Lw

open PySem PySem.W PyProof.Rows
set_option maxRecDepth 100000 in
set_option maxHeartbeats 0 in
theorem PySem.Challenge.cw_supermoves_k74_whole_cells_for_a_run_holds : PySem.Challenge.rw_supermoves_k74_whole_cells_for_a_run.Holds := by
  w_on; o_law; k_head; (case hw => w_witness2)
  k_fill
  refine DL.walk_gz (l := PySem.Challenge.rw_supermoves_k74_whole_cells_for_a_run) (n := 63) (k := 9) (x := "script") (M := Lw.m_law) rfl (by decide) rfl ⟨⟨rfl, by decide, by decide⟩, rfl⟩ (fun w h Y => PySem.W.kIn_of Y) ?F Lw.law_true
  case F =>
    intro w mg fa h KX G hmg
    refine' Lw.all_mk KX G hmg ?aC0 ?pg0 ?hd0 ?po0 ?sa0 ?mk0 ?kc0 ?na0_rows ?na0_at ?na0_passed ?a0 ?l0 ?c0 ?k0 ?a1 ?l1 ?c1 ?k1 ?a2 ?l2 ?c2 ?k2 ?a3 ?l3 ?c3 ?k3 ?a4 ?l4 ?c4 ?k4 ?a5 ?l5 ?c5 ?k5 ?a6 ?l6 ?c6 ?k6 ?a7 ?l7 ?c7 ?k7 ?a8 ?l8 ?c8 ?k8 ?a9 ?i9 ?l9 ?c9 ?k9 ?a10 ?i10 ?l10 ?c10 ?k10 ?a11 ?i11 ?l11 ?c11 ?k11 ?a12 ?i12 ?l12 ?c12 ?k12 ?a13 ?i13 ?l13 ?c13 ?k13 ?a14 ?l14 ?c14 ?k14 ?a15 ?l15 ?c15 ?k15 ?a16 ?l16 ?c16 ?k16 ?a17 ?l17 ?c17 ?k17 ?a18 ?l18 ?c18 ?k18 ?a19 ?l19 ?c19 ?k19 ?a20 ?l20 ?c20 ?k20 ?a21 ?l21 ?c21 ?k21 ?a22 ?l22 ?c22 ?k22 ?a23 ?l23 ?c23 ?k23 ?a24 ?l24 ?c24 ?k24 ?a25 ?l25 ?c25 ?k25 ?a26 ?l26 ?c26 ?k26 ?a27 ?l27 ?c27 ?k27 ?a28 ?l28 ?c28 ?k28 ?a29 ?l29 ?c29 ?k29 ?a30 ?l30 ?c30 ?k30 ?a31 ?l31 ?c31 ?k31 ?a32 ?l32 ?c32 ?k32 ?a33 ?l33 ?c33 ?k33 ?a34 ?l34 ?c34 ?k34 ?a35 ?l35 ?c35 ?k35 ?a36 ?l36 ?c36 ?k36 ?a37 ?l37 ?c37 ?k37 ?a38 ?l38 ?c38 ?k38 ?z_any ?z_bool ?z_enumerate ?z_int ?z_isinstance ?z_len ?z_max ?z_min ?z_range ?z_repr ?z_sorted ?z_sum ?g_KINDS ?o_KINDS ?g_MOST_EMPTY
    (case aC0 => k_is)
    (case pg0 => k_is)
    (case hd0 => k_is)
    (case po0 => k_is)
    (case sa0 => k_is)
    (case mk0 => k_is)
    (case kc0 => k_is)
    (case na0_rows => k_is)
    (case na0_at => k_is)
    (case na0_passed => k_is)
    (case a0 => k_is)
    (case l0 => k_is)
    (case c0 => k_is)
    (case k0 => k_is)
    (case a1 => k_is)
    (case l1 => k_is)
    (case c1 => k_is)
    (case k1 => k_is)
    (case a2 => k_is)
    (case l2 => k_is)
    (case c2 => k_is)
    (case k2 => k_is)
    (case a3 => k_is)
    (case l3 => k_is)
    (case c3 => k_is)
    (case k3 => k_is)
    (case a4 => k_is)
    (case l4 => k_is)
    (case c4 => k_is)
    (case k4 => k_is)
    (case a5 => k_is)
    (case l5 => k_is)
    (case c5 => k_is)
    (case k5 => k_is)
    (case a6 => k_is)
    (case l6 => k_is)
    (case c6 => k_is)
    (case k6 => k_is)
    (case a7 => k_is)
    (case l7 => k_is)
    (case c7 => k_is)
    (case k7 => k_is)
    (case a8 => k_is)
    (case l8 => k_is)
    (case c8 => k_is)
    (case k8 => k_is)
    (case a9 => k_is)
    (case i9 => k_is)
    (case l9 => k_is)
    (case c9 => k_is)
    (case k9 => k_is)
    (case a10 => k_is)
    (case i10 => k_is)
    (case l10 => k_is)
    (case c10 => k_is)
    (case k10 => k_is)
    (case a11 => k_is)
    (case i11 => k_is)
    (case l11 => k_is)
    (case c11 => k_is)
    (case k11 => k_is)
    (case a12 => k_is)
    (case i12 => k_is)
    (case l12 => k_is)
    (case c12 => k_is)
    (case k12 => k_is)
    (case a13 => k_is)
    (case i13 => k_is)
    (case l13 => k_is)
    (case c13 => k_is)
    (case k13 => k_is)
    (case a14 => k_is)
    (case l14 => k_is)
    (case c14 => k_is)
    (case k14 => k_is)
    (case a15 => k_is)
    (case l15 => k_is)
    (case c15 => k_is)
    (case k15 => k_is)
    (case a16 => k_is)
    (case l16 => k_is)
    (case c16 => k_is)
    (case k16 => k_is)
    (case a17 => k_is)
    (case l17 => k_is)
    (case c17 => k_is)
    (case k17 => k_is)
    (case a18 => k_is)
    (case l18 => k_is)
    (case c18 => k_is)
    (case k18 => k_is)
    (case a19 => k_is)
    (case l19 => k_is)
    (case c19 => k_is)
    (case k19 => k_is)
    (case a20 => k_is)
    (case l20 => k_is)
    (case c20 => k_is)
    (case k20 => k_is)
    (case a21 => k_is)
    (case l21 => k_is)
    (case c21 => k_is)
    (case k21 => k_is)
    (case a22 => k_is)
    (case l22 => k_is)
    (case c22 => k_is)
    (case k22 => k_is)
    (case a23 => k_is)
    (case l23 => k_is)
    (case c23 => k_is)
    (case k23 => k_is)
    (case a24 => k_is)
    (case l24 => k_is)
    (case c24 => k_is)
    (case k24 => k_is)
    (case a25 => k_is)
    (case l25 => k_is)
    (case c25 => k_is)
    (case k25 => k_is)
    (case a26 => k_is)
    (case l26 => k_is)
    (case c26 => k_is)
    (case k26 => k_is)
    (case a27 => k_is)
    (case l27 => k_is)
    (case c27 => k_is)
    (case k27 => k_is)
    (case a28 => k_is)
    (case l28 => k_is)
    (case c28 => k_is)
    (case k28 => k_is)
    (case a29 => k_is)
    (case l29 => k_is)
    (case c29 => k_is)
    (case k29 => k_is)
    (case a30 => k_is)
    (case l30 => k_is)
    (case c30 => k_is)
    (case k30 => k_is)
    (case a31 => k_is)
    (case l31 => k_is)
    (case c31 => k_is)
    (case k31 => k_is)
    (case a32 => k_is)
    (case l32 => k_is)
    (case c32 => k_is)
    (case k32 => k_is)
    (case a33 => k_is)
    (case l33 => k_is)
    (case c33 => k_is)
    (case k33 => k_is)
    (case a34 => k_is)
    (case l34 => k_is)
    (case c34 => k_is)
    (case k34 => k_is)
    (case a35 => k_is)
    (case l35 => k_is)
    (case c35 => k_is)
    (case k35 => k_is)
    (case a36 => k_is)
    (case l36 => k_is)
    (case c36 => k_is)
    (case k36 => k_is)
    (case a37 => k_is)
    (case l37 => k_is)
    (case c37 => k_is)
    (case k37 => k_is)
    (case a38 => k_is)
    (case l38 => k_is)
    (case c38 => k_is)
    (case k38 => k_is)
    (case z_any => k_is)
    (case z_bool => k_is)
    (case z_enumerate => k_is)
    (case z_int => k_is)
    (case z_isinstance => k_is)
    (case z_len => k_is)
    (case z_max => k_is)
    (case z_min => k_is)
    (case z_range => k_is)
    (case z_repr => k_is)
    (case z_sorted => k_is)
    (case z_sum => k_is)
    (case g_KINDS => k_is)
    (case o_KINDS => k_is)
    (case g_MOST_EMPTY => k_is)

