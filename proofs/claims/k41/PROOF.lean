import PyProof.Rows.All
import Wide.All
import OpenK.AllK
import Wide.FinOn
import HandS.ForMost
import HandS.Evl
import HandS.IsInst
import HandS.WideBits
import HandS.Style
import HandS.Deep
import HandS.Sort
import HandS.SortInts
import HandS.RevRange
import HandS.Zip
import PyProof.ReprRoads
import HandS.Walk
import HandS.Dict
import HandS.Exc
import HandS.WordsExc
import HandS.Conv
import HandS.Comp
import HandS.SortKw
import PyProof.MinMaxWalk
import PyProof.WalkInts
import HandS.DictTup
import HandS.SortRule
import HandS.Keys
import HandS.SetFor
import PyProof.Rows.SetFrom
import HandS.Strs
import HandS.Text
import HandS.TryOnly
import HandS.More
import HandS.Gcd
import KE.KMathGC
import KE.DataMinMax
import KE.SortData
import PyProof.Rows.SortWalk
import PyProof.Rows.CountFlat
import KE.DataFind
import PySem.Challenge.RW_supermoves_k41_whole_rooms_of_supermoves
set_option Elab.async false
set_option linter.all false
set_option maxRecDepth 100000
set_option maxHeartbeats 4000000
namespace DL
open PySem PySem.Spec PyProof.Rows L2 Evl

/-! ### plain data as it stands in the tracked heap -/
mutual
inductive Da (K : PySem.W.Frag) (H : Hp) : V → PyData → Prop
  | non : Da K H .non .none
  | bl (b : Bool) : Da K H (.bl b) (.bool b)
  | int (i : Int) : Da K H (.int i) (.int i)
  | str (x : Str) : Da K H (.str x) (.str x)
  | lst {a : Addr} {xs : List V} {ds : List PyData} : SqL K H a xs → DaAll K H xs ds → Da K H (.ref a) (.list ds)
  | tup {a : Addr} {xs : List V} {ds : List PyData} : H a = some (.tup xs) → DaAll K H xs ds → Da K H (.ref a) (.tuple ds)
  | dct {a : Addr} : H a = some (.dK []) → Da K H (.ref a) (.dict [])
inductive DaAll (K : PySem.W.Frag) (H : Hp) : List V → List PyData → Prop
  | nil : DaAll K H [] []
  | cons {v : V} {vs : List V} {d : PyData} {ds : List PyData} : Da K H v d → DaAll K H vs ds → DaAll K H (v :: vs) (d :: ds)
end
section
variable {K : PySem.W.Frag} {H H' : Hp}
mutual
theorem Da.mono (e : Ex H H') : ∀ (d : PyData) (v : V), Da K H v d → Da K H' v d
  | .none, _, h => by cases h; exact .non
  | .bool _, _, h => by cases h; exact .bl _
  | .int _, _, h => by cases h; exact .int _
  | .str _, _, h => by cases h; exact .str _
  | .list ds, _, h => by
    cases h with
    | lst hs ha => exact .lst (ex_l e hs) (DaAll.mono e ds _ ha)
  | .tuple ds, _, h => by
    cases h with
    | tup hs ha => exact .tup (e _ _ hs) (DaAll.mono e ds _ ha)
  | .dict _, _, h => by
    cases h with
    | dct hs => exact .dct (e _ _ hs)
theorem DaAll.mono (e : Ex H H') : ∀ (ds : List PyData) (vs : List V), DaAll K H vs ds → DaAll K H' vs ds
  | [], _, h => by cases h; exact .nil
  | d :: ds, _, h => by
    cases h with
    | cons h1 h2 => exact .cons (Da.mono e d _ h1) (DaAll.mono e ds _ h2)
end
theorem DaAll.len : ∀ {vs : List V} {ds : List PyData}, DaAll K H vs ds → vs.length = ds.length
  | _, _, .nil => rfl
  | _, _, .cons _ t => by rw [List.length_cons, List.length_cons, DaAll.len t]
theorem DaAll.at_ : ∀ {vs : List V} {ds : List PyData} {i : Nat} {d : PyData}, DaAll K H vs ds → ds[i]? = some d → ∃ v, vs[i]? = some v ∧ Da K H v d
  | _, _, _, _, .nil, h => by simp at h
  | _, _, 0, _, .cons h _, e => by
    simp at e
    subst e
    exact ⟨_, rfl, h⟩
  | _, _, i + 1, _, .cons _ t, e => by
    obtain ⟨v, h1, h2⟩ := DaAll.at_ (i := i) t (by simpa using e)
    exact ⟨v, by simpa using h1, h2⟩
theorem DaAll.atV : ∀ {vs : List V} {ds : List PyData} {i : Nat} {v : V}, DaAll K H vs ds → vs[i]? = some v → ∃ d, ds[i]? = some d ∧ Da K H v d
  | _, _, _, _, .nil, h => by simp at h
  | _, _, 0, _, .cons h _, e => by
    simp at e
    subst e
    exact ⟨_, rfl, h⟩
  | _, _, i + 1, _, .cons _ t, e => by
    obtain ⟨d, h1, h2⟩ := DaAll.atV (i := i) t (by simpa using e)
    exact ⟨d, by simpa using h1, h2⟩
theorem DaAll.app : ∀ {vs ws : List V} {ds es : List PyData}, DaAll K H vs ds → DaAll K H ws es → DaAll K H (vs ++ ws) (ds ++ es)
  | _, _, _, _, .nil, h => h
  | _, _, _, _, .cons a t, h => .cons a (DaAll.app t h)
theorem DaAll.take : ∀ {vs : List V} {ds : List PyData} (n : Nat), DaAll K H vs ds → DaAll K H (vs.take n) (ds.take n)
  | _, _, 0, _ => .nil
  | _, _, _ + 1, .nil => .nil
  | _, _, n + 1, .cons a t => .cons a (DaAll.take n t)
theorem DaAll.drop : ∀ {vs : List V} {ds : List PyData} (n : Nat), DaAll K H vs ds → DaAll K H (vs.drop n) (ds.drop n)
  | _, _, 0, h => h
  | _, _, _ + 1, .nil => .nil
  | _, _, n + 1, .cons _ t => DaAll.drop n t
theorem DaAll.set : ∀ {vs : List V} {ds : List PyData} {v : V} {d : PyData} (n : Nat), DaAll K H vs ds → Da K H v d → DaAll K H (vs.set n v) (ds.set n d)
  | _, _, _, _, _, .nil, _ => .nil
  | _, _, _, _, 0, .cons _ t, h => .cons h t
  | _, _, _, _, n + 1, .cons a t, h => .cons a (DaAll.set n t h)
theorem DaAll.ints : ∀ {vs : List V} {ns : List Int}, DaAll K H vs (ns.map PyData.int) → vs = ns.map V.int
  | _, [], h => by cases h; rfl
  | _, n :: ns, h => by
    cases h with
    | cons a t =>
      cases a
      rw [DaAll.ints t]
      rfl
theorem DaAll.bools : ∀ {vs : List V} {ns : List Bool}, DaAll K H vs (ns.map PyData.bool) → vs = ns.map V.bl
  | _, [], h => by cases h; rfl
  | _, n :: ns, h => by
    cases h with
    | cons a t =>
      cases a
      rw [DaAll.bools t]
      rfl
theorem DaAll.of_ints : ∀ (ns : List Int), DaAll K H (ns.map V.int) (ns.map PyData.int)
  | [] => .nil
  | n :: ns => .cons (.int n) (DaAll.of_ints ns)
end
/-! what the machine reads there -/
section
variable {X : Cx} {pins : List (Addr × Obj)} {σ : L2.St} {s : Shared} {H : Hp}
theorem rd_list (I : Inv X pins σ H s) {a : Addr} {xs : List V} (h : SqL X.K H a xs) : ∃ (its : List Value) (n : Nat) (dd : Option Addr) (sl : Array (Option Value)), Vals xs its ∧ xs.length ≤ sizeLine ∧ s.heap.get? a = some { cls := .type "list", dict := dd, data := .seq its.toArray n, slots := sl } := by
  obtain ⟨its, r, ⟨⟨cls, dd, dt, sl⟩, n, e, h1, h2, h3⟩, z⟩ := I.list h
  simp only at h1 h3
  subst h1 h3
  exact ⟨its, n, dd, sl, r, z, e⟩
theorem rd_dict (I : Inv X pins σ H s) {a : Addr} (hs : H a = some (.dK [])) : Reads s.heap (.ref a) (.dict []) [a] ∧ a ≠ sysModules := by
  obtain ⟨_, y, vs, kv, o, es, ep, ho, hx, hd, _, hp, _⟩ := (show ObjOk X.prog X.w H s.heap a (.dK []) from I.hok _ _ hs)
  have e0 : vs = [] := by cases kv; rfl
  subst e0
  have e1 : es.toList = [] := by
    generalize es.toList = l at hp
    cases hp
    rfl
  refine ⟨Reads.dict (kvs := []) (as := []) (bs := []) ho hx.1 hd (by rw [e1]; exact .nil) (by rw [e1]; exact .nil), ?_⟩
  intro e
  rw [e] at y
  simp at y
mutual
theorem Da.reads (I : Inv X pins σ H s) : ∀ (d : PyData) (v : V) (u : Value), Da X.K H v d → RelV v u → ∃ as, Reads s.heap u d as
  | .none, _, _, h, r => by
    cases h
    cases r
    exact ⟨_, Reads.none⟩
  | .bool b, _, _, h, r => by
    cases h
    cases r
    exact ⟨_, Reads.bool b⟩
  | .int i, _, _, h, r => by
    cases h
    obtain ⟨t, rfl⟩ := r
    exact ⟨_, Reads.int i t⟩
  | .str x, _, _, h, r => by
    cases h
    obtain ⟨t, rfl⟩ := r
    exact ⟨_, Reads.str x t⟩
  | .list ds, _, _, h, r => by
    cases h with
    | lst hs ha =>
      cases r
      obtain ⟨its, n, dd, sl, rv, _, e⟩ := rd_list I hs
      obtain ⟨as, hr⟩ := DaAll.reads I ds _ its ha rv
      exact ⟨_, Reads.list e rfl rfl hr⟩
  | .tuple ds, _, _, h, r => by
    cases h with
    | tup hs ha =>
      cases r
      obtain ⟨its, rv, ⟨o, ho, hc, n, hd⟩, _⟩ := I.tuple (SqT.of hs)
      obtain ⟨as, hr⟩ := DaAll.reads I ds _ its ha rv
      exact ⟨_, Reads.tuple ho hc hd hr⟩
  | .dict _, _, _, h, r => by
    cases h with
    | dct hs =>
      cases r
      exact ⟨_, (rd_dict I hs).1⟩
theorem DaAll.reads (I : Inv X pins σ H s) : ∀ (ds : List PyData) (vs : List V) (us : List Value), DaAll X.K H vs ds → Vals vs us → ∃ as, ReadsAll s.heap us ds as
  | [], _, _, h, r => by
    cases h
    cases r
    exact ⟨_, ReadsAll.nil⟩
  | d :: ds, _, _, h, r => by
    cases h with
    | cons h1 h2 =>
      cases r with
      | cons r1 r2 =>
        obtain ⟨as, q1⟩ := Da.reads I d _ _ h1 r1
        obtain ⟨bs, q2⟩ := DaAll.reads I ds _ _ h2 r2
        exact ⟨_, ReadsAll.cons q1 q2⟩
end
end

/-! ### how the heaps grow -/
/-- H0: the known part that stays for good; as: what may change by itself -/
structure Gr (as : List Addr) (H0 H H0' H' : Hp) : Prop where
  e0 : Ex H0 H0'
  e1 : ∀ a o, a ∉ as → H a = some o → H' a = some o
  nw : ∀ a o, a ∉ as → H0' a = some o → H a ≠ none → H0 a = some o
  kp : ∀ a, H a ≠ none → H' a ≠ none
  sub : Ex H0' H'
theorem Gr.refl {as : List Addr} {H0 H : Hp} (h : Ex H0 H) : Gr as H0 H H0 H := ⟨Ex.refl _, fun _ _ _ e => e, fun _ _ _ e _ => e, fun _ h => h, h⟩
theorem Gr.trans {as bs : List Addr} {H0 H H1 H1' H2 H2' : Hp} (p : Gr as H0 H H1 H1') (q : Gr bs H1 H1' H2 H2') (h : ∀ a ∈ bs, a ∈ as ∨ H a = none) : Gr as H0 H H2 H2' where
  e0 := p.e0.trans q.e0
  e1 := fun a o n e => q.e1 a o (fun hb => by
    rcases h a hb with z | z
    · exact n z
    · rw [e] at z; cases z) (p.e1 a o n e)
  nw := fun a o m e n => p.nw a o m (q.nw a o (fun hb => (h a hb).elim m n) e (p.kp a n)) n
  kp := fun a n => q.kp a (p.kp a n)
  sub := q.sub
theorem Gr.mono {as bs : List Addr} {H0 H H1 H1' : Hp} (p : Gr bs H0 H H1 H1') (h : ∀ a ∈ bs, a ∈ as) : Gr as H0 H H1 H1' :=
  ⟨p.e0, fun a o n e => p.e1 a o (fun z => n (h a z)) e, fun a o n e => p.nw a o (fun z => n (h a z)) e, p.kp, p.sub⟩
theorem Gr.tr {as : List Addr} {H0 H H1 H1' H2 H2' : Hp} (p : Gr as H0 H H1 H1') (q : Gr as H1 H1' H2 H2') : Gr as H0 H H2 H2' := p.trans q fun _ h => .inl h
theorem Gr.tr0 {as : List Addr} {H0 H H1 H1' H2 H2' : Hp} (p : Gr as H0 H H1 H1') (q : Gr [] H1 H1' H2 H2') : Gr as H0 H H2 H2' := p.trans q fun _ h => absurd h (by simp)
/-- a new object that stays -/
theorem Gr.new {H0 H : Hp} {p : Addr} {o : HO} (s : Ex H0 H) (h : H p = none) : Gr [] H0 H (upd H0 p o) (upd H p o) where
  e0 := Ex.new (fresh_back s h)
  e1 := fun a u _ e => Ex.new h a u e
  nw := fun a u _ e n => by
    rw [upd_ne (fun z => n (by rw [z]; exact h))] at e
    exact e
  kp := fun a n => by
    rw [upd_ne (fun z => n (by rw [z]; exact h))]
    exact n
  sub := fun a u e => by
    by_cases z : a = p
    · subst z
      rw [upd_same] at e ⊢
      exact e
    · rw [upd_ne z] at e ⊢
      exact s a u e

/-! ### what the names hold: nothing known, data, an object of one's own (by its number), a caught error -/
inductive Sl where
  | u
  | d (x : PyData)
  | o (k : Nat)
/-- an object of one's own: a list of data, a list of anything, dicts from keys to data, an instance -/
inductive Ob where
  | l (ds : List PyData)
  | r (xs : List Sl)
  | k (ps : List (Key × PyData))
  | T (ps : List (List Key × PyData))
  | i (C : Addr) (fs : List (Str × Sl))
  | g (lo hi : Int)
  | t (xs : List Sl)
abbrev Os := List (Option Ob)
def ArgOk (K : PySem.W.Frag) (as : List Addr) (H0 : Hp) (v : V) : Sl → Prop
  | .u => False
  | .d x => Da K H0 v x
  | .o k => ∃ a, as[k]? = some a ∧ v = .ref a
def ArgsOk (K : PySem.W.Frag) (as : List Addr) (H0 : Hp) : List V → List Sl → Prop
  | [], [] => True
  | v :: vs, s :: ss => ArgOk K as H0 v s ∧ ArgsOk K as H0 vs ss
  | _, _ => False
/-- attributes, one by one -/
def FsOk (K : PySem.W.Frag) (as : List Addr) (H0 : Hp) : List (Str × V) → List (Str × Sl) → Prop
  | [], [] => True
  | p :: gs, q :: fs => p.1 = q.1 ∧ ArgOk K as H0 p.2 q.2 ∧ FsOk K as H0 gs fs
  | _, _ => False
/-- a dict's pairs -/
def PsOk {κ : Type} (K : PySem.W.Frag) (H0 : Hp) : List (κ × V) → List (κ × PyData) → Prop
  | [], [] => True
  | p :: kvs, q :: ps => p.1 = q.1 ∧ Da K H0 p.2 q.2 ∧ PsOk K H0 kvs ps
  | _, _ => False
def Cont (K : PySem.W.Frag) (as : List Addr) (H0 : Hp) : HO → Ob → Prop
  | .lst vs, .l ds => DaAll K H0 vs ds
  | .lst vs, .r xs => ArgsOk K as H0 vs xs
  | .dK kvs, .k ps => PsOk K H0 kvs ps
  | .dT kvs, .T ps => PsOk K H0 kvs ps
  | .ins C _ gs, .i C' fs => C = C' ∧ FsOk K as H0 gs fs
  | .rng lo hi, .g a b => lo = a ∧ hi = b
  | .tup vs, .t xs => ArgsOk K as H0 vs xs
  | _, _ => False
section
variable {K : PySem.W.Frag} {as bs : List Addr} {H0 H0' : Hp}
theorem ArgOk.mono {v : V} {s : Sl} (e : Ex H0 H0') (h : ArgOk K as H0 v s) : ArgOk K as H0' v s := by
  cases s with
  | u => exact h
  | d x => exact Da.mono e x v h
  | o k => exact h
theorem ArgOk.app {v : V} {s : Sl} (h : ArgOk K as H0 v s) : ArgOk K (as ++ bs) H0 v s := by
  cases s with
  | u => exact h
  | d x => exact h
  | o k =>
    obtain ⟨a, h1, h2⟩ := h
    exact ⟨a, by rw [List.getElem?_append_left (List.getElem?_eq_some_iff.mp h1).1]; exact h1, h2⟩
theorem ArgsOk.mono : ∀ {vs : List V} {ss : List Sl}, Ex H0 H0' → ArgsOk K as H0 vs ss → ArgsOk K as H0' vs ss
  | [], [], _, h => h
  | _ :: _, _ :: _, e, h => ⟨h.1.mono e, ArgsOk.mono e h.2⟩
  | [], _ :: _, _, h => h.elim
  | _ :: _, [], _, h => h.elim
theorem ArgsOk.app : ∀ {vs : List V} {ss : List Sl}, ArgsOk K as H0 vs ss → ArgsOk K (as ++ bs) H0 vs ss
  | [], [], h => h
  | _ :: _, _ :: _, h => ⟨h.1.app, ArgsOk.app h.2⟩
  | [], _ :: _, h => h.elim
  | _ :: _, [], h => h.elim
theorem FsOk.mono : ∀ {vs : List (Str × V)} {ss : List (Str × Sl)}, Ex H0 H0' → FsOk K as H0 vs ss → FsOk K as H0' vs ss
  | [], [], _, h => h
  | _ :: _, _ :: _, e, h => ⟨h.1, h.2.1.mono e, FsOk.mono e h.2.2⟩
  | [], _ :: _, _, h => h.elim
  | _ :: _, [], _, h => h.elim
theorem FsOk.app : ∀ {vs : List (Str × V)} {ss : List (Str × Sl)}, FsOk K as H0 vs ss → FsOk K (as ++ bs) H0 vs ss
  | [], [], h => h
  | _ :: _, _ :: _, h => ⟨h.1, h.2.1.app, FsOk.app h.2.2⟩
  | [], _ :: _, h => h.elim
  | _ :: _, [], h => h.elim
theorem PsOk.mono {κ : Type} : ∀ {vs : List (κ × V)} {ss : List (κ × PyData)}, Ex H0 H0' → PsOk K H0 vs ss → PsOk K H0' vs ss
  | [], [], _, h => h
  | _ :: _, _ :: _, e, h => ⟨h.1, Da.mono e _ _ h.2.1, PsOk.mono e h.2.2⟩
  | [], _ :: _, _, h => h.elim
  | _ :: _, [], _, h => h.elim
theorem Cont.l_of {o : HO} {ds : List PyData} (h : Cont K as H0 o (.l ds)) : ∃ vs, o = .lst vs ∧ DaAll K H0 vs ds := by
  cases o <;> first | exact ⟨_, rfl, h⟩ | exact h.elim
theorem Cont.r_of {o : HO} {xs : List Sl} (h : Cont K as H0 o (.r xs)) : ∃ vs, o = .lst vs ∧ ArgsOk K as H0 vs xs := by
  cases o <;> first | exact ⟨_, rfl, h⟩ | exact h.elim
theorem Cont.k_of {o : HO} {ps : List (Key × PyData)} (h : Cont K as H0 o (.k ps)) : ∃ kvs, o = .dK kvs ∧ PsOk K H0 kvs ps := by
  cases o <;> first | exact ⟨_, rfl, h⟩ | exact h.elim
theorem Cont.T_of {o : HO} {ps : List (List Key × PyData)} (h : Cont K as H0 o (.T ps)) : ∃ kvs, o = .dT kvs ∧ PsOk K H0 kvs ps := by
  cases o <;> first | exact ⟨_, rfl, h⟩ | exact h.elim
theorem Cont.i_of {o : HO} {C : Addr} {fs : List (Str × Sl)} (h : Cont K as H0 o (.i C fs)) : ∃ dx gs, o = .ins C dx gs ∧ FsOk K as H0 gs fs := by
  cases o <;> first | exact h.elim | skip
  obtain ⟨rfl, h⟩ := h
  exact ⟨_, _, rfl, h⟩
theorem Cont.g_of {o : HO} {a b : Int} (h : Cont K as H0 o (.g a b)) : o = .rng a b := by
  cases o <;> first | exact h.elim | skip
  obtain ⟨rfl, rfl⟩ := h
  rfl
theorem Cont.t_of {o : HO} {xs : List Sl} (h : Cont K as H0 o (.t xs)) : ∃ vs, o = .tup vs ∧ ArgsOk K as H0 vs xs := by
  cases o <;> first | exact ⟨_, rfl, h⟩ | exact h.elim
theorem Cont.mono {o : HO} {b : Ob} (e : Ex H0 H0') (h : Cont K as H0 o b) : Cont K as H0' o b := by
  cases b with
  | l ds => obtain ⟨vs, rfl, r⟩ := h.l_of; exact DaAll.mono e _ _ r
  | r xs => obtain ⟨vs, rfl, r⟩ := h.r_of; exact ArgsOk.mono e r
  | k ps => obtain ⟨vs, rfl, r⟩ := h.k_of; exact PsOk.mono e r
  | T ps => obtain ⟨vs, rfl, r⟩ := h.T_of; exact PsOk.mono e r
  | i C fs => obtain ⟨dx, gs, rfl, r⟩ := h.i_of; exact ⟨rfl, FsOk.mono e r⟩
  | g a b => obtain rfl := h.g_of; exact ⟨rfl, rfl⟩
  | t xs => obtain ⟨vs, rfl, r⟩ := h.t_of; exact ArgsOk.mono e r
theorem Cont.app {o : HO} {b : Ob} (h : Cont K as H0 o b) : Cont K (as ++ bs) H0 o b := by
  cases b with
  | l ds => obtain ⟨vs, rfl, r⟩ := h.l_of; exact r
  | r xs => obtain ⟨vs, rfl, r⟩ := h.r_of; exact ArgsOk.app r
  | k ps => obtain ⟨vs, rfl, r⟩ := h.k_of; exact r
  | T ps => obtain ⟨vs, rfl, r⟩ := h.T_of; exact r
  | i C fs => obtain ⟨dx, gs, rfl, r⟩ := h.i_of; exact ⟨rfl, FsOk.app r⟩
  | g a b => obtain rfl := h.g_of; exact ⟨rfl, rfl⟩
  | t xs => obtain ⟨vs, rfl, r⟩ := h.t_of; exact ArgsOk.app r
end
/-- the objects of one's own -/
structure Own (K : PySem.W.Frag) (as : List Addr) (os : Os) (H0 H : Hp) : Prop where
  nd : as.Nodup
  len : as.length = os.length
  trk : ∀ a ∈ as, H a ≠ none
  at_ : ∀ (k : Nat) (a : Addr) (ob : Ob), as[k]? = some a → os[k]? = some (some ob) → H0 a = none ∧ ∃ o, H a = some o ∧ Cont K as H0 o ob
theorem Own.l {K : PySem.W.Frag} {as : List Addr} {os : Os} {H0 H : Hp} (w : Own K as os H0 H) (k : Nat) (a : Addr) (ds : List PyData) (h1 : as[k]? = some a) (h2 : os[k]? = some (some (.l ds))) : H0 a = none ∧ ∃ vs, H a = some (.lst vs) ∧ DaAll K H0 vs ds := by
  obtain ⟨q1, o, q2, q3⟩ := w.at_ k a _ h1 h2
  obtain ⟨vs, rfl, r⟩ := q3.l_of
  exact ⟨q1, vs, q2, r⟩
structure En (K : PySem.W.Frag) (as : List Addr) (ρ : List Sl) (os : Os) (σ : L2.St) (H0 H : Hp) : Prop where
  sub : Ex H0 H
  len : σ.length = ρ.length
  dat : ∀ (i : Nat) (x : PyData), ρ[i]? = some (.d x) → ∃ v, σ[i]? = some (some v) ∧ Da K H0 v x
  ref : ∀ (i k : Nat), ρ[i]? = some (.o k) → ∃ a, as[k]? = some a ∧ σ[i]? = some (some (.ref a))
  ow : Own K as os H0 H
section
variable {K : PySem.W.Frag} {as : List Addr} {ρ : List Sl} {os : Os} {σ : L2.St} {H0 H H0' H' : Hp}
theorem Own.grow (w : Own K as os H0 H) (g : Gr [] H0 H H0' H') : Own K as os H0' H' := ⟨w.nd, w.len, fun a h => g.kp a (w.trk a h), fun k a ds h1 h2 => by
  obtain ⟨n, vs, e, r⟩ := w.at_ k a ds h1 h2
  refine ⟨?_, vs, g.e1 a _ (by simp) e, r.mono g.e0⟩
  cases q : H0' a with
  | none => rfl
  | some o =>
    have := g.nw a o (by simp) q (by rw [e]; simp)
    rw [n] at this
    cases this⟩
theorem En.grow (n : En K as ρ os σ H0 H) (g : Gr [] H0 H H0' H') : En K as ρ os σ H0' H' :=
  ⟨g.sub, n.len, fun i x h => by
    obtain ⟨v, e, r⟩ := n.dat i x h
    exact ⟨v, e, Da.mono g.e0 _ _ r⟩, n.ref, n.ow.grow g⟩
/-- a name's value -/
theorem En.val (n : En K as ρ os σ H0 H) {i : Nat} {s : Sl} (h : ρ[i]? = some s) (hs : s ≠ .u) : ∃ v, σ[i]? = some (some v) ∧ ArgOk K as H0 v s := by
  cases s with
  | u => exact absurd rfl hs
  | d x => exact n.dat i x h
  | o k =>
    obtain ⟨a, h1, h2⟩ := n.ref i k h
    exact ⟨_, h2, a, h1, rfl⟩
end
end DL

set_option Elab.async false
set_option linter.all false
set_option maxRecDepth 100000
set_option maxHeartbeats 4000000
namespace DL
open PySem PySem.Spec PyProof.Rows L2 Evl

/-! ### operations on data -/
abbrev bitsOf (i : Int) : Int := (Builtin.Int.intBits i : Int)
def addD : PyData → PyData → Option PyData
  | .int a, .int b => some (.int (a + b))
  | .str a, .str b => if a.length + b.length ≤ sizeLine then some (.str (a ++ b)) else none
  | .list a, .list b => if a.length + b.length ≤ sizeLine then some (.list (a ++ b)) else none
  | _, _ => none
def subD : PyData → PyData → Option PyData
  | .int a, .int b => some (.int (a - b))
  | _, _ => none
def mulD : PyData → PyData → Option PyData
  | .int a, .int b => if bitsOf a + bitsOf b ≤ 134217728 then some (.int (a * b)) else none
  | _, _ => none
def modD : PyData → PyData → Option PyData
  | .int a, .int b => if 0 < b then some (.int (a % b)) else none
  | _, _ => none
def fdivD : PyData → PyData → Option PyData
  | .int a, .int b => if 0 < b ∧ Builtin.Int.intBits a ≤ Builtin.Int.intBits b + 4000 then some (.int (a / b)) else none
  | _, _ => none
def shlD : PyData → PyData → Option PyData
  | .int a, .int b => if 0 ≤ b ∧ bitsOf a + b ≤ 134217728 then some (.int (a * 2 ^ b.toNat)) else none
  | _, _ => none
def powD : PyData → PyData → Option PyData
  | .int a, .int b => if 0 ≤ b ∧ bitsOf a * b ≤ 134217728 then some (.int (a ^ b.toNat)) else none
  | _, _ => none
def cmpD (f : Int → Int → Bool) : PyData → PyData → Option PyData
  | .int a, .int b => some (.bool (f a b))
  | _, _ => none
def eqD : PyData → PyData → Option PyData
  | .str a, .str b => some (.bool (decide (a = b)))
  | x, y => if SeqAt.shaped x = true ∧ SeqAt.shaped y = true then some (.bool (PyData.eqv x y)) else none
def neD : PyData → PyData → Option PyData
  | .str a, .str b => some (.bool (!decide (a = b)))
  | x, y => if SeqAt.shaped x = true ∧ SeqAt.shaped y = true then some (.bool (!PyData.eqv x y)) else none
def strsOf : List PyData → Option (List Str)
  | [] => some []
  | .str x :: r => (strsOf r).map (x :: ·)
  | _ => none
theorem strsOf_map : ∀ ns : List Str, strsOf (ns.map PyData.str) = some ns
  | [] => rfl
  | n :: r => by
    show (strsOf (r.map PyData.str)).map (n :: ·) = _
    rw [strsOf_map r]
    rfl
theorem strsOf_eq : ∀ {ds : List PyData} {ns : List Str}, strsOf ds = some ns → ds = ns.map PyData.str
  | [], _, h => by cases h; rfl
  | d :: r, ns, h => by
    cases d with
    | str i =>
      simp only [strsOf] at h
      cases q : strsOf r with
      | none => rw [q] at h; cases h
      | some ms =>
        rw [q] at h
        cases h
        rw [strsOf_eq q]
        rfl
    | _ => cases h
/-- a text among texts -/
def inS (neg : Bool) (x c : PyData) : Option PyData := match x, c with
  | .str a, .list c => (strsOf c).map fun cs => .bool (if neg then !decide (a ∈ cs) else decide (a ∈ cs))
  | .str a, .tuple c => (strsOf c).map fun cs => .bool (if neg then !decide (a ∈ cs) else decide (a ∈ cs))
  | _, _ => none
def inG (neg : Bool) (x : PyData) : PyData → Option PyData
  | .list c => if SeqAt.shaped x = true ∧ PyData.canLayAll0 c = true then some (.bool (if neg then !(c.any fun y => PyData.eqv y x) else c.any fun y => PyData.eqv y x)) else none
  | .tuple c => if SeqAt.shaped x = true ∧ PyData.canLayAll0 c = true then some (.bool (if neg then !(c.any fun y => PyData.eqv y x) else c.any fun y => PyData.eqv y x)) else none
  | _ => none
def inD (neg : Bool) (x c : PyData) : Option PyData := match inS neg x c with
  | some z => some z
  | none => inG neg x c
def noneD : PyData → Bool
  | .none => true
  | _ => false
def isD (neg : Bool) : PyData → PyData → Option PyData
  | x, .none => some (.bool (if neg then !noneD x else noneD x))
  | .bool a, .bool b => some (.bool (if neg then !decide (a = b) else decide (a = b)))
  | _, _ => none
def negD : PyData → Option PyData
  | .int a => some (.int (-a))
  | _ => none
def truthD : PyData → Option Bool
  | .none => some false
  | .bool b => some b
  | .int i => some (i != 0)
  | .str x => if x.length ≤ sizeLine then some ((x.length : Int) != 0) else none
  | .list c => some !c.isEmpty
  | .tuple c => some !c.isEmpty
  | .dict _ => some false

/-! ### how they are done on values -/
def rD (K : PySem.W.Frag) (f : PyData → PyData → Option PyData) : R2 := fun u v H Q => ∃ H0 d e z, Ex H0 H ∧ Da K H0 u d ∧ Da K H0 v e ∧ f d e = some z ∧ ∀ w H0' H', Gr [] H0 H H0' H' → Da K H0' w z → Q w H'
def rU1 (K : PySem.W.Frag) (f : PyData → Option PyData) : V → Hp → VK → Prop := fun u H Q => ∃ H0 d z, Ex H0 H ∧ Da K H0 u d ∧ f d = some z ∧ ∀ w H0' H', Gr [] H0 H H0' H' → Da K H0' w z → Q w H'
def rC (K : PySem.W.Frag) (f : List PyData → Option PyData) : List V → Hp → VK → Prop := fun us H Q => ∃ H0 ds z, Ex H0 H ∧ DaAll K H0 us ds ∧ f ds = some z ∧ ∀ w H0' H', Gr [] H0 H H0' H' → Da K H0' w z → Q w H'
section
variable {X : Cx}
theorem da_intI {K : PySem.W.Frag} {H : Hp} {v : V} {i : Int} (h : Da K H v (.int i)) : v = .int i := by cases h; rfl
theorem opd {f : Value → Value → Sem Value} {g : PyData → PyData → Option PyData}
    (h : ∀ (pins : List (Addr × Obj)) (s : Shared) (σ : L2.St) (H H0 : Hp) (x y : V) (v u : Value) (Q : VK) (d e z : PyData), Inv X pins σ H s → RelV x v → RelV y u → Ex H0 H → Da X.K H0 x d → Da X.K H0 y e → g d e = some z → (∀ w H0' H', Gr [] H0 H H0' H' → Da X.K H0' w z → Q w H') →
      wpAny (model X.prog X.w) X.A (f v u) (EP X pins σ Q) X.xe s) : OpR X f (rD X.K g) := by
  intro pins s σ H x y v u Q I rx ry q
  obtain ⟨H0, d, e, z, h1, h2, h3, h4, h5⟩ := q
  exact h pins s σ H H0 x y v u Q d e z I rx ry h1 h2 h3 h4 h5
theorem opI2 {f : Value → Value → Sem Value} {g : PyData → PyData → Option PyData} (hg : ∀ d e z, g d e = some z → ∃ i j, d = .int i ∧ e = .int j)
    (h : ∀ (i j : Int) (z : PyData), g (.int i) (.int j) = some z → ∃ z', (∀ (K : PySem.W.Frag) H, Da K H z' z) ∧ OpR X f (fun x y H Q => x = .int i ∧ y = .int j ∧ Q z' H)) : OpR X f (rD X.K g) :=
  opd fun pins s σ H H0 x y v u Q d e z I rx ry s0 hd he hf q => by
    obtain ⟨i, j, rfl, rfl⟩ := hg d e z hf
    obtain ⟨z', hz, r⟩ := h i j z hf
    exact r pins s σ H x y v u Q I rx ry ⟨da_intI hd, da_intI he, q z' H0 H (Gr.refl s0) (hz _ _)⟩
theorem op_addD : OpR X (binaryOp .Add) (rD X.K addD) := opd fun pins s σ H H0 x y v u Q d e z I rx ry s0 hd he hf q => by
  cases hd with
  | int i =>
    cases he with
    | int j =>
      cases hf
      exact op_add pins s σ H _ _ v u Q I rx ry ⟨i, j, rfl, rfl, q _ H0 H (Gr.refl s0) (.int _)⟩
    | _ => cases hf
  | str i =>
    cases he with
    | str j =>
      simp only [addD] at hf
      split at hf
      · cases hf
        exact op_add_str pins s σ H _ _ v u Q I rx ry ⟨i, j, rfl, rfl, by assumption, q _ H0 H (Gr.refl s0) (.str _)⟩
      · cases hf
    | _ => cases hf
  | @lst l xs ds h1 h2 =>
    cases he with
    | @lst b ys es h3 h4 =>
      simp only [addD] at hf
      split at hf
      · rename_i hz
        cases hf
        cases rx
        cases ry
        obtain ⟨its, n, dd, sl, r, hl, e⟩ := rd_list I (ex_l s0 h1)
        obtain ⟨its2, n2, dd2, sl2, r2, hl2, e2⟩ := rd_list I (ex_l s0 h3)
        have l1 := h2.len
        have l2 := h4.len
        have l3 := r.length
        have l4 := r2.length
        have ea : its.toArray ++ its2.toArray = (its ++ its2).toArray := by simp
        refine concat_meets ⟨_, e, rfl⟩ ⟨_, e2, rfl⟩ noFill_list_add seq_list_add PySem.F.slot_list_add PySem.F.entry_list_add (PySem.F.args_list_add_2 _ _) (list_addW l b its.toArray its2.toArray n n2 dd dd2 sl sl2 (by rw [List.size_toArray, List.size_toArray]; omega)) ⟨e, e2, ?_⟩
        rw [ea]
        exact ⟨.ref _, _, I.lnew (t' := s.toks) (r.append r2) (by rw [List.length_append]; omega), rfl, q _ _ _ (Gr.new s0 I.fresh) (.lst (SqL.of upd_same) ((DaAll.app h2 h4).mono (Ex.new (fresh_back s0 I.fresh))))⟩
      · cases hf
    | _ => cases hf
  | _ => cases hf
theorem op_subD : OpR X (binaryOp .Sub) (rD X.K subD) := opI2 (fun d e z h => by cases d <;> cases e <;> first | (cases h; done) | exact ⟨_, _, rfl, rfl⟩) fun i j z h => by
  cases h
  exact ⟨.int (i - j), fun _ _ => .int _, fun pins s σ H x y v u Q I rx ry q => op_sub pins s σ H x y v u Q I rx ry ⟨i, j, q⟩⟩
theorem op_modD : OpR X (binaryOp .Mod) (rD X.K modD) := opI2 (fun d e z h => by cases d <;> cases e <;> first | (cases h; done) | exact ⟨_, _, rfl, rfl⟩) fun i j z h => by
  simp only [modD] at h
  split at h
  · cases h
    exact ⟨.int (i % j), fun _ _ => .int _, fun pins s σ H x y v u Q I rx ry q => op_mod pins s σ H x y v u Q I rx ry ⟨i, j, q.1, q.2.1, by assumption, q.2.2⟩⟩
  · cases h
theorem op_fdivD : OpR X (binaryOp .FloorDiv) (rD X.K fdivD) := opI2 (fun d e z h => by cases d <;> cases e <;> first | (cases h; done) | exact ⟨_, _, rfl, rfl⟩) fun i j z h => by
  simp only [fdivD] at h
  split at h
  · rename_i hc
    cases h
    refine ⟨.int (i / j), fun _ _ => .int _, fun pins s σ H x y v u Q I rx ry q => ?_⟩
    obtain ⟨rfl, rfl, q⟩ := q
    obtain ⟨t, rfl⟩ := rx
    obtain ⟨t', rfl⟩ := ry
    refine floordiv_int (by omega) ?_ (.inl (divp_ok hc.1 hc.2).2)
    rw [Int.fdiv_eq_ediv_of_nonneg _ (by omega)]
    exact ⟨.int _, H, I.tok _, ⟨_, rfl⟩, q⟩
  · cases h
theorem op_shlD : OpR X (binaryOp .LShift) (rD X.K shlD) := opI2 (fun d e z h => by cases d <;> cases e <;> first | (cases h; done) | exact ⟨_, _, rfl, rfl⟩) fun i j z h => by
  simp only [shlD] at h
  split at h
  · rename_i hc
    cases h
    have e27 : (2 : Int) ^ 27 = 134217728 := by decide
    exact ⟨_, fun _ _ => .int _, fun pins s σ H x y v u Q I rx ry q => op_shlW pins s σ H x y v u Q I rx ry ⟨i, j, q.1, q.2.1, ⟨hc.1, by rw [e27]; exact hc.2⟩, q.2.2⟩⟩
  · cases h
theorem op_powD : OpR X (binaryOp .Pow) (rD X.K powD) := opI2 (fun d e z h => by cases d <;> cases e <;> first | (cases h; done) | exact ⟨_, _, rfl, rfl⟩) fun i j z h => by
  simp only [powD] at h
  split at h
  · rename_i hc
    cases h
    have e27 : (2 : Int) ^ 27 = 134217728 := by decide
    refine ⟨_, fun _ _ => .int _, fun pins s σ H x y v u Q I rx ry q => ?_⟩
    obtain ⟨rfl, rfl, q⟩ := q
    obtain ⟨t, rfl⟩ := rx
    obtain ⟨t', rfl⟩ := ry
    exact pow_int hc.1 (by rw [e27]; exact hc.2) ⟨.int _, H, I.tok _, ⟨_, rfl⟩, q⟩
  · cases h
theorem op_mulD : OpR X (binaryOp .Mult) (rD X.K mulD) := opd fun pins s σ H H0 x y v u Q d e z I rx ry s0 hd he hf q => by
  cases hd with
  | int i =>
    cases he with
    | int j =>
      simp only [mulD] at hf
      split at hf
      · cases hf
        exact op_mulX pins s σ H _ _ v u Q I rx ry ⟨i, j, rfl, rfl, by assumption, q _ H0 H (Gr.refl s0) (.int _)⟩
      · cases hf
    | _ => cases hf
  | _ => cases he <;> cases hf
theorem cmp_ok {op : CmpOp} {f : Int → Int → Bool} (h : OpR X (compareOp op) (rI0 fun i j => .bl (f i j))) : OpR X (compareOp op) (rD X.K (cmpD f)) := opI2 (fun d e z h => by cases d <;> cases e <;> first | (cases h; done) | exact ⟨_, _, rfl, rfl⟩) fun i j z hz => by
  cases hz
  exact ⟨.bl (f i j), fun _ _ => .bl _, fun pins s σ H x y v u Q I rx ry q => h pins s σ H x y v u Q I rx ry ⟨i, j, q⟩⟩
theorem op_ltD : OpR X (compareOp .Lt) (rD X.K (cmpD fun i j => decide (i < j))) := cmp_ok op_lt
theorem op_leD : OpR X (compareOp .LtE) (rD X.K (cmpD fun i j => decide (i ≤ j))) := cmp_ok op_le
theorem op_gtD : OpR X (compareOp .Gt) (rD X.K (cmpD fun i j => decide (j < i))) := cmp_ok op_gt
theorem op_geD : OpR X (compareOp .GtE) (rD X.K (cmpD fun i j => decide (j ≤ i))) := cmp_ok op_ge
theorem op_eqDD (hu : X.A.units + 64 < cLine) : OpR X (compareOp .Eq) (rD X.K eqD) := opd fun pins s σ H H0 x y v u Q d e z I rx ry s0 hd he hf q => by
  unfold eqD at hf
  split at hf
  · cases hf
    cases hd
    cases he
    rename_i a b
    refine op_eq pins s σ H _ _ v u Q I rx ry ⟨rfl, ?_⟩
    have e : decide (V.str a = V.str b) = decide (a = b) := by simp
    rw [e]
    exact q _ H0 H (Gr.refl s0) (.bl _)
  split at hf
  · rename_i hc
    cases hf
    obtain ⟨as, r1⟩ := Da.reads I d x v (hd.mono s0) rx
    obtain ⟨bs, r2⟩ := Da.reads I e y u (he.mono s0) ry
    exact SeqAt.compareEq_shaped r1 r2 hc.1 hc.2 hu ⟨.bl _, H, I, rfl, q _ H0 H (Gr.refl s0) (.bl _)⟩
  · cases hf
theorem op_neDD (hu : X.A.units + 64 < cLine) : OpR X (compareOp .NotEq) (rD X.K neD) := opd fun pins s σ H H0 x y v u Q d e z I rx ry s0 hd he hf q => by
  unfold neD at hf
  split at hf
  · cases hf
    cases hd
    cases he
    rename_i a b
    refine op_ne pins s σ H _ _ v u Q I rx ry ⟨rfl, ?_⟩
    have e : decide (V.str a = V.str b) = decide (a = b) := by simp
    rw [e]
    exact q _ H0 H (Gr.refl s0) (.bl _)
  split at hf
  · rename_i hc
    cases hf
    obtain ⟨as, r1⟩ := Da.reads I d x v (hd.mono s0) rx
    obtain ⟨bs, r2⟩ := Da.reads I e y u (he.mono s0) ry
    exact SeqAt.compareNe_shaped r1 r2 hc.1 hc.2 hu ⟨.bl _, H, I, rfl, q _ H0 H (Gr.refl s0) (.bl _)⟩
  · cases hf
theorem op_inGG (hu : X.A.units + 65 < cLine) : OpR X (compareOp .In) (rD X.K (inG false)) := opd fun pins s σ H H0 x y v u Q d e z I rx ry s0 hd he hf q => by
  obtain ⟨as, r1⟩ := Da.reads I d x v (hd.mono s0) rx
  obtain ⟨bs, r2⟩ := Da.reads I e y u (he.mono s0) ry
  cases e with
  | list c =>
    simp only [inG] at hf
    split at hf
    · rename_i hc
      cases hf
      exact SeqAt.in_list_reads r2 r1 hc.2 (SeqAt.canLay_of_shaped hc.1) (room_in_shaped hc.1 hu) ⟨.bl _, H, I, rfl, q _ H0 H (Gr.refl s0) (.bl _)⟩
    · cases hf
  | tuple c =>
    simp only [inG] at hf
    split at hf
    · rename_i hc
      cases hf
      exact SeqAt.in_tuple_reads r2 r1 hc.2 (SeqAt.canLay_of_shaped hc.1) (room_in_shaped hc.1 hu) ⟨.bl _, H, I, rfl, q _ H0 H (Gr.refl s0) (.bl _)⟩
    · cases hf
  | _ => cases hf
theorem op_niGG (hu : X.A.units + 65 < cLine) : OpR X (compareOp .NotIn) (rD X.K (inG true)) := opd fun pins s σ H H0 x y v u Q d e z I rx ry s0 hd he hf q => by
  obtain ⟨as, r1⟩ := Da.reads I d x v (hd.mono s0) rx
  obtain ⟨bs, r2⟩ := Da.reads I e y u (he.mono s0) ry
  cases e with
  | list c =>
    simp only [inG] at hf
    split at hf
    · rename_i hc
      cases hf
      exact SeqAt.notIn_list_reads r2 r1 hc.2 (SeqAt.canLay_of_shaped hc.1) (room_in_shaped hc.1 hu) ⟨.bl _, H, I, rfl, q _ H0 H (Gr.refl s0) (.bl _)⟩
    · cases hf
  | tuple c =>
    simp only [inG] at hf
    split at hf
    · rename_i hc
      cases hf
      exact SeqAt.notIn_tuple_reads r2 r1 hc.2 (SeqAt.canLay_of_shaped hc.1) (room_in_shaped hc.1 hu) ⟨.bl _, H, I, rfl, q _ H0 H (Gr.refl s0) (.bl _)⟩
    · cases hf
  | _ => cases hf
theorem daS {K : PySem.W.Frag} {H : Hp} : ∀ {vs : List V} {ns : List Str}, DaAll K H vs (ns.map PyData.str) → vs = ns.map V.str
  | _, [], h => by cases h; rfl
  | _, n :: ns, h => by
    cases h with
    | cons a t =>
      cases a
      rw [daS t]
      rfl
theorem inV_str (a : Str) : ∀ ns : List Str, inV (.str a) (ns.map V.str) = decide (a ∈ ns)
  | [] => by simp [inV]
  | n :: ns => by
    have ih := inV_str a ns
    unfold inV at ih ⊢
    rw [List.map_cons, List.any_cons, ih]
    show ((n == a) || decide (a ∈ ns)) = decide (a ∈ n :: ns)
    by_cases h : n = a
    · subst h
      simp
    · have h2 : ¬ a = n := fun e => h e.symm
      have h3 : (n == a) = false := by simpa using h
      rw [h3]
      simp [h2]
theorem flat_strs (ns : List Str) : (ns.map V.str).all flatV = true := by
  rw [List.all_eq_true]
  intro x hx
  obtain ⟨y, _, rfl⟩ := List.mem_map.mp hx
  rfl
theorem inS_ok {neg : Bool} {op : CmpOp} (ho : OpR X (compareOp op) (rIn X.K neg)) : OpR X (compareOp op) (rD X.K (inS neg)) := opd fun pins s σ H H0 x y v u Q d e z I rx ry s0 hd he hf q => by
  unfold inS at hf
  split at hf
  · rename_i a c
    cases h1 : strsOf c with
    | none => rw [h1] at hf; cases hf
    | some cs =>
      rw [h1] at hf
      cases hf
      have e1 := strsOf_eq h1
      subst e1
      cases hd
      cases he with
      | lst h2 h3 =>
        have e2 := daS h3
        subst e2
        refine ho pins s σ H _ _ v u Q I rx ry ⟨_, _, rfl, .inl (ex_l s0 h2), rfl, flat_strs cs, ?_⟩
        rw [inV_str]
        exact q _ H0 H (Gr.refl s0) (.bl _)
  · rename_i a c
    cases h1 : strsOf c with
    | none => rw [h1] at hf; cases hf
    | some cs =>
      rw [h1] at hf
      cases hf
      have e1 := strsOf_eq h1
      subst e1
      cases hd
      cases he with
      | tup h2 h3 =>
        have e2 := daS h3
        subst e2
        refine ho pins s σ H _ _ v u Q I rx ry ⟨_, _, rfl, .inr (SqT.of (s0 _ _ h2)), rfl, flat_strs cs, ?_⟩
        rw [inV_str]
        exact q _ H0 H (Gr.refl s0) (.bl _)
  · cases hf
theorem in_or {neg : Bool} {op : CmpOp} (h1 : OpR X (compareOp op) (rD X.K (inS neg))) (h2 : OpR X (compareOp op) (rD X.K (inG neg))) : OpR X (compareOp op) (rD X.K (inD neg)) := by
  intro pins s σ H x y v u Q I rx ry q
  obtain ⟨H0, d, e, z, s0, hd, he, hf, q⟩ := q
  unfold inD at hf
  split at hf
  · rename_i z' hz
    cases hf
    exact h1 pins s σ H x y v u Q I rx ry ⟨H0, d, e, z, s0, hd, he, hz, q⟩
  · exact h2 pins s σ H x y v u Q I rx ry ⟨H0, d, e, z, s0, hd, he, hf, q⟩
theorem op_inDD (hu : X.A.units + 65 < cLine) : OpR X (compareOp .In) (rD X.K (inD false)) := in_or (inS_ok op_in_seq) (op_inGG hu)
theorem op_niDD (hu : X.A.units + 65 < cLine) : OpR X (compareOp .NotIn) (rD X.K (inD true)) := in_or (inS_ok op_notIn_seq) (op_niGG hu)
theorem da_none {K : PySem.W.Frag} {H : Hp} {v : V} {d : PyData} (h : Da K H v d) : decide (v = .non) = noneD d := by cases h <;> rfl
theorem op_isD : OpR X (compareOp .Is) (rD X.K (isD false)) := opd fun pins s σ H H0 x y v u Q d e z I rx ry s0 hd he hf q => by
  cases he with
  | non =>
    have hz : z = .bool (noneD d) := by
      cases d <;> (cases hf; rfl)
    subst hz
    refine op_isN pins s σ H _ _ v u Q I rx ry ⟨rfl, ?_⟩
    rw [da_none hd]
    exact q _ H0 H (Gr.refl s0) (.bl _)
  | bl b =>
    cases hd with
    | bl a =>
      cases hf
      exact op_isBl pins s σ H _ _ v u Q I rx ry ⟨a, b, rfl, rfl, q _ H0 H (Gr.refl s0) (.bl _)⟩
    | _ => cases hf
  | _ => cases hd <;> cases hf
theorem op_isntD : OpR X (compareOp .IsNot) (rD X.K (isD true)) := opd fun pins s σ H H0 x y v u Q d e z I rx ry s0 hd he hf q => by
  cases he with
  | non =>
    have hz : z = .bool (!noneD d) := by
      cases d <;> (cases hf; rfl)
    subst hz
    refine op_notN pins s σ H _ _ v u Q I rx ry ⟨rfl, ?_⟩
    rw [da_none hd]
    exact q _ H0 H (Gr.refl s0) (.bl _)
  | bl b =>
    cases hd with
    | bl a =>
      cases hf
      exact op_notBl pins s σ H _ _ v u Q I rx ry ⟨a, b, rfl, rfl, q _ H0 H (Gr.refl s0) (.bl _)⟩
    | _ => cases hf
  | _ => cases hd <;> cases hf
theorem un_negD : UnR X (unaryOp .USub) (rU1 X.K negD) := by
  intro pins s σ H x v Q I rx h
  obtain ⟨H0, d, z, s0, hd, hf, q⟩ := h
  cases hd with
  | int i =>
    cases hf
    exact un_neg pins s σ H _ v Q I rx ⟨i, rfl, q _ H0 H (Gr.refl s0) (.int _)⟩
  | _ => cases hf
end
end DL

set_option Elab.async false
set_option linter.all false
set_option maxRecDepth 100000
set_option maxHeartbeats 4000000
namespace DL
open PySem PySem.Spec PyProof.Rows L2 Evl

/-! ### expressions by what they give -/
abbrev XE := List Sl → Os → Option (PyData × Os)
abbrev XT := List Sl → Os → Option (Bool × Os)
abbrev XA := List Sl → Os → Option (List Sl × Os)
def teO (K : PySem.W.Frag) (x : XE) : TE := fun σ H Q => ∃ as ρ os H0 d os', En K as ρ os σ H0 H ∧ x ρ os = some (d, os') ∧ ∀ v H0' H', En K as ρ os' σ H0' H' → Gr as H0 H H0' H' → Da K H0' v d → Q v H'
def ttO (K : PySem.W.Frag) (x : XT) : TT := fun σ H Q => ∃ as ρ os H0 b os', En K as ρ os σ H0 H ∧ x ρ os = some (b, os') ∧ ∀ H0' H', En K as ρ os' σ H0' H' → Gr as H0 H H0' H' → Q b H'
def taO (K : PySem.W.Frag) (x : XA) : TA := fun σ H Q => ∃ as ρ os H0 ss os', En K as ρ os σ H0 H ∧ x ρ os = some (ss, os') ∧ ∀ vs H0' H', En K as ρ os' σ H0' H' → Gr as H0 H H0' H' → ArgsOk K as H0' vs ss → Q vs H'
abbrev PX (X : Cx) (e : Expr) (x : XE) : Prop := PE X e (teO X.K x)
abbrev PXT (X : Cx) (e : Expr) (x : XT) : Prop := PT X e (ttO X.K x)
abbrev PXW (X : Cx) (e : Expr) (x : XT) : Prop := L2.PW X e (ttO X.K x)
abbrev PXA (X : Cx) (es : List Expr) (x : XA) : Prop := PA X es (taO X.K x)

section
variable {X : Cx} {a b c e : Expr} {es rest : List Expr} {xa xb xc : XE} {ta tb : XT} {pos : Pos}
theorem pe_imp {t t' : TE} (h : PE X e t) (k : ∀ σ H Q, t' σ H Q → t σ H Q) : PE X e t' := ⟨fun pins s σ H Q I q => h.run pins s σ H Q I (k _ _ _ q)⟩
theorem pt_imp {t t' : TT} (h : PT X e t) (k : ∀ σ H Q, t' σ H Q → t σ H Q) : PT X e t' := ⟨fun pins s σ H Q I q => h.run pins s σ H Q I (k _ _ _ q)⟩
theorem pw_imp {t t' : TT} (h : L2.PW X e t) (k : ∀ σ H Q, t' σ H Q → t σ H Q) : L2.PW X e t' := ⟨fun whole pins s σ H Q I q => h.run whole pins s σ H Q I (k _ _ _ q)⟩
theorem pa_imp {t t' : TA} (h : PA X es t) (k : ∀ σ H Q, t' σ H Q → t σ H Q) : PA X es t' := ⟨fun pos pins s σ H Q I q => h.run pos pins s σ H Q I (k _ _ _ q)⟩

/-! names, constants -/
def xVar (i : Nat) : XE := fun ρ os => match ρ[i]? with
  | some (.d x) => some (x, os)
  | _ => none
def xC (d : PyData) : XE := fun _ os => some (d, os)
theorem px_var {i : Nat} (h : PE X e (tVar i)) : PX X e (xVar i) := pe_imp h fun σ H Q q => by
  obtain ⟨as, ρ, os, H0, d, os', n, hx, k⟩ := q
  unfold xVar at hx
  split at hx
  · rename_i x hi
    cases hx
    obtain ⟨v, hv, r⟩ := n.dat i _ hi
    exact ⟨v, hv, k v H0 H n (Gr.refl n.sub) r⟩
  · cases hx
theorem px_c {v : V} {d : PyData} (h : PE X e (tC v)) (r : ∀ (K : PySem.W.Frag) H, Da K H v d) : PX X e (xC d) := pe_imp h fun σ H Q q => by
  obtain ⟨as, ρ, os, H0, d', os', n, hx, k⟩ := q
  cases hx
  exact k v H0 H n (Gr.refl n.sub) (r _ _)
theorem px_int {i j} : PX X (.Constant (.int i) j pos) (xC (.int i)) := px_c pe_int fun _ _ => .int i
theorem px_bl {b j} : PX X (.Constant (.bool b) j pos) (xC (.bool b)) := px_c pe_bl fun _ _ => .bl b
theorem px_non {j} : PX X (.Constant .none j pos) (xC .none) := px_c pe_non fun _ _ => .non
theorem px_str {x j} : PX X (.Constant (.str x) j pos) (xC (.str x)) := px_c pe_str fun _ _ => .str x
/-- a module's tuple of texts, a module's text -/
theorem px_globs {x : Str} {v : Str} {u : Value} (hg : Gl X x) (hm : X.mg x = some u) (r : RelV (.str v) u) (hd : (x == ("__debug__" : Str)) = false := by decide) : PX X (.Name x pos) (xC (.str v)) :=
  px_c (pe_glob hg hm r hd) fun _ _ => .str v
/-- e in a module's tuple -/
def inT (neg : Bool) (c : List PyData) (d : PyData) : Option PyData := inD neg d (.tuple c)
def rInT (K : PySem.W.Frag) (neg : Bool) (c : List PyData) : R2 := fun u v H Q => ∃ H0 p vs d z, Ex H0 H ∧ v = .ref p ∧ SqT K H p vs ∧ DaAll K H vs c ∧ Da K H0 u d ∧ inT neg c d = some z ∧ ∀ w H0' H', Gr [] H0 H H0' H' → Da K H0' w z → Q w H'
theorem reads_t {pins : List (Addr × Obj)} {σ : L2.St} {s : Shared} {H : Hp} (I : Inv X pins σ H s) {p : Addr} {vs : List V} {c : List PyData} (h : SqT X.K H p vs) (ha : DaAll X.K H vs c) : ∃ as, Reads s.heap (.ref p) (.tuple c) as := by
  obtain ⟨its, rv, ⟨o, ho, hc, n, hd⟩, _⟩ := I.tuple h
  obtain ⟨as, hr⟩ := DaAll.reads I c _ its ha rv
  exact ⟨_, Reads.tuple ho hc hd hr⟩
theorem op_inT {c : List PyData} (hu : X.A.units + 65 < cLine) : OpR X (compareOp .In) (rInT X.K false c) := by
  intro pins s σ H x y v u Q I rx ry q
  obtain ⟨H0, p, vs, d, z, s0, rfl, ht, ha, hd, hf, q⟩ := q
  cases ry
  unfold inT inD at hf
  split at hf
  · rename_i z' hz
    cases hf
    unfold inS at hz
    split at hz
    · rename_i e
      cases e
    · rename_i a c2 ec
      cases ec
      cases h1 : strsOf c with
      | none => rw [h1] at hz; cases hz
      | some cs =>
        rw [h1] at hz
        cases hz
        have e1 := strsOf_eq h1
        subst e1
        cases hd
        have e2 := daS ha
        subst e2
        refine op_in_seq pins s σ H _ (.ref p) v _ Q I rx rfl ⟨_, _, rfl, .inr ht, rfl, flat_strs cs, ?_⟩
        rw [inV_str]
        exact q _ H0 H (Gr.refl s0) (.bl _)
    · cases hz
  · obtain ⟨as, r1⟩ := Da.reads I d x v (hd.mono s0) rx
    obtain ⟨bs, r2⟩ := reads_t I ht ha
    simp only [inG] at hf
    split at hf
    · rename_i hc
      cases hf
      exact SeqAt.in_tuple_reads r2 r1 hc.2 (SeqAt.canLay_of_shaped hc.1) (room_in_shaped hc.1 hu) ⟨.bl _, H, I, rfl, q _ H0 H (Gr.refl s0) (.bl _)⟩
    · cases hf
def xInT (c : List PyData) (xa : XE) : XE := fun ρ os => (xa ρ os).bind fun p => (inT false c p.1).map fun z => (z, p.2)
theorem px_inT {x : Str} {p : Addr} {vs : List V} {ds : List PyData} {p1 : Pos} (hu : X.A.units + 65 < cLine) (ha : PX X a xa) (hg : Gl X x) (hm : X.mg x = some (.ref p)) (ht : ∀ H, SqT X.K H p vs) (hd : ∀ H, DaAll X.K H vs ds) (hdb : (x == ("__debug__" : Str)) = false := by decide) : PX X (.Compare a [.In] [.Name x p1] pos) (xInT ds xa) :=
  pe_imp (pe_cmpR (op_inT (c := ds) hu) ha (pe_glob hg hm (v := .ref p) rfl hdb) (by rfl)) fun σ H Q q => by
    obtain ⟨as, ρ, os, H0, d', os', n, hx, k⟩ := q
    unfold xInT at hx
    cases h1 : xa ρ os with
    | none => rw [h1] at hx; cases hx
    | some p1 =>
      obtain ⟨d, os1⟩ := p1
      rw [h1, Option.bind_some] at hx
      simp only at hx
      cases h2 : inT false ds d with
      | none => rw [h2] at hx; cases hx
      | some z =>
        rw [h2] at hx
        cases hx
        exact ⟨as, ρ, os, H0, d, _, n, h1, fun v H0' H' n1 g1 r1 => ⟨H0', p, vs, d, _, n1.sub, rfl, ht _, hd _, r1, h2, fun w H3 H3' g3 r3 => k w H3 H3' (n1.grow g3) (g1.tr0 g3) r3⟩⟩

/-! operators -/
def xOp (f : PyData → PyData → Option PyData) (xa xb : XE) : XE := fun ρ os => (xa ρ os).bind fun p => (xb ρ p.2).bind fun q => (f p.1 q.1).map fun z => (z, q.2)
theorem xOp_some {f : PyData → PyData → Option PyData} {ρ : List Sl} {os os' : Os} {z : PyData} (h : xOp f xa xb ρ os = some (z, os')) : ∃ x os1 y, xa ρ os = some (x, os1) ∧ xb ρ os1 = some (y, os') ∧ f x y = some z := by
  unfold xOp at h
  cases h1 : xa ρ os with
  | none => rw [h1] at h; cases h
  | some p =>
    rw [h1] at h
    cases h2 : xb ρ p.2 with
    | none => rw [Option.bind_some, h2] at h; cases h
    | some q =>
      rw [Option.bind_some, h2, Option.bind_some] at h
      cases h3 : f p.1 q.1 with
      | none => rw [h3] at h; cases h
      | some w =>
        rw [h3] at h
        cases h
        exact ⟨p.1, p.2, q.1, rfl, h2, h3⟩
theorem to_op {K : PySem.W.Frag} {f : PyData → PyData → Option PyData} {σ : L2.St} {H : Hp} {Q : VK} (q : teO K (xOp f xa xb) σ H Q) : tOp (rD K f) (teO K xa) (teO K xb) σ H Q := by
  obtain ⟨as, ρ, os, H0, d, os', n, hx, k⟩ := q
  obtain ⟨x, os1, y, h1, h2, h3⟩ := xOp_some hx
  refine ⟨as, ρ, os, H0, x, os1, n, h1, fun v H0' H' n1 g1 r1 => ⟨as, ρ, os1, H0', y, os', n1, h2, fun u H0'' H'' n2 g2 r2 => ?_⟩⟩
  exact ⟨H0'', x, y, d, n2.sub, r1.mono g2.e0, r2, h3, fun w H3 H3' g3 r3 => k w H3 H3' (n2.grow g3) ((g1.tr g2).tr0 g3) r3⟩
theorem px_op {op : Operator} {f : PyData → PyData → Option PyData} (ho : OpR X (binaryOp op) (rD X.K f)) (ha : PX X a xa) (hb : PX X b xb) : PX X (.BinOp a op b pos) (xOp f xa xb) := pe_imp (pe_op ho ha hb) fun _ _ _ q => to_op q
theorem px_cmp {op : CmpOp} {f : PyData → PyData → Option PyData} (ho : OpR X (compareOp op) (rD X.K f)) (ha : PX X a xa) (hb : PX X b xb) (hm : behindInMarks op b = false) : PX X (.Compare a [op] [b] pos) (xOp f xa xb) := pe_imp (pe_cmpR ho ha hb hm) fun _ _ _ q => to_op q
def xUn (f : PyData → Option PyData) (xa : XE) : XE := fun ρ os => (xa ρ os).bind fun p => (f p.1).map fun z => (z, p.2)
theorem xUn_some {f : PyData → Option PyData} {ρ : List Sl} {os os' : Os} {z : PyData} (h : xUn f xa ρ os = some (z, os')) : ∃ x, xa ρ os = some (x, os') ∧ f x = some z := by
  unfold xUn at h
  cases h1 : xa ρ os with
  | none => rw [h1] at h; cases h
  | some p =>
    rw [h1, Option.bind_some] at h
    cases h3 : f p.1 with
    | none => rw [h3] at h; cases h
    | some w =>
      rw [h3] at h
      cases h
      exact ⟨p.1, rfl, h3⟩
theorem to_un {K : PySem.W.Frag} {f : PyData → Option PyData} {σ : L2.St} {H : Hp} {Q : VK} (q : teO K (xUn f xa) σ H Q) : tUn (rU1 K f) (teO K xa) σ H Q := by
  obtain ⟨as, ρ, os, H0, d, os', n, hx, k⟩ := q
  obtain ⟨x, h1, h3⟩ := xUn_some hx
  exact ⟨as, ρ, os, H0, x, os', n, h1, fun v H0' H' n1 g1 r1 => ⟨H0', x, d, n1.sub, r1, h3, fun w H3 H3' g3 r3 => k w H3 H3' (n1.grow g3) (g1.tr0 g3) r3⟩⟩
theorem px_un {op : UnaryOp} {f : PyData → Option PyData} (ho : UnR X (unaryOp op) (rU1 X.K f)) (ha : PX X a xa) : PX X (.UnaryOp op a pos) (xUn f xa) := pe_imp (pe_un ho ha) fun _ _ _ q => to_un q

/-! tests -/
/-- a value that is True or False -/
def xBool (xa : XE) : XT := fun ρ os => (xa ρ os).bind fun p => match p.1 with
  | .bool b => some (b, p.2)
  | _ => none
theorem pxt_val (ha : PX X a xa) (he : ∀ whole, isTrue a X.env whole = (do let v ← whole; standAt a.pos; holding [v] (truthy v)) := by intro _; rfl) : PXT X a (xBool xa) := pt_imp (pt_val ha he) fun σ H Q q => by
  obtain ⟨as, ρ, os, H0, d, os', n, hx, k⟩ := q
  unfold xBool at hx
  cases h1 : xa ρ os with
  | none => rw [h1] at hx; cases hx
  | some p =>
    obtain ⟨x, os1⟩ := p
    rw [h1, Option.bind_some] at hx
    cases x with
    | bool b =>
      cases hx
      refine ⟨as, ρ, os, H0, _, _, n, h1, fun v H0' H' n1 g1 r1 => ?_⟩
      cases r1
      exact ⟨_, rfl, k H0' H' n1 g1⟩
    | _ => cases hx
/-- by its truth -/
def xTruth (xa : XE) : XT := fun ρ os => (xa ρ os).bind fun p => (truthD p.1).map fun b => (b, p.2)
theorem da_truth {K : PySem.W.Frag} {H0 H : Hp} {v : V} {d : PyData} {b : Bool} (s : Ex H0 H) (h : Da K H0 v d) (e : truthD d = some b) : TruV K v H b := by
  cases h with
  | non => cases e; rfl
  | bl _ => cases e; rfl
  | int _ => cases e; rfl
  | str x =>
    simp only [truthD] at e
    split at e
    · cases e; exact ⟨by assumption, rfl⟩
    · cases e
  | lst h1 h2 =>
    cases e
    refine .inl ⟨_, ex_l s h1, ?_⟩
    cases h2 <;> rfl
  | tup h1 h2 =>
    cases e
    refine .inr (.inl ⟨_, SqT.of (s _ _ h1), ?_⟩)
    cases h2 <;> rfl
  | dct h1 =>
    cases e
    exact .inr (.inr ⟨[], s _ _ h1, rfl⟩)
theorem pxt_truth (ha : PX X a xa) (he : ∀ whole, isTrue a X.env whole = (do let v ← whole; standAt a.pos; holding [v] (truthy v)) := by intro _; rfl) : PXT X a (xTruth xa) := pt_imp (pt_truth ha he) fun σ H Q q => by
  obtain ⟨as, ρ, os, H0, d, os', n, hx, k⟩ := q
  unfold xTruth at hx
  cases h1 : xa ρ os with
  | none => rw [h1] at hx; cases hx
  | some p =>
    obtain ⟨x, os1⟩ := p
    rw [h1, Option.bind_some] at hx
    cases h2 : truthD x with
    | none => rw [h2] at hx; cases hx
    | some b =>
      rw [h2] at hx
      cases hx
      exact ⟨as, ρ, os, H0, _, _, n, h1, fun v H0' H' n1 g1 r1 => ⟨_, da_truth n1.sub r1 h2, k H0' H' n1 g1⟩⟩
def xNotT (ta : XT) : XT := fun ρ os => (ta ρ os).map fun p => (!p.1, p.2)
theorem pxt_not (ha : PXT X a ta) : PXT X (.UnaryOp .Not a pos) (xNotT ta) := pt_imp (pt_not ha) fun σ H Q q => by
  obtain ⟨as, ρ, os, H0, d, os', n, hx, k⟩ := q
  unfold xNotT at hx
  cases h1 : ta ρ os with
  | none => rw [h1] at hx; cases hx
  | some p =>
    rw [h1] at hx
    cases hx
    exact ⟨as, ρ, os, H0, _, _, n, h1, fun H0' H' n1 g1 => k H0' H' n1 g1⟩
def xAndT (ta tb : XT) : XT := fun ρ os => (ta ρ os).bind fun p => if p.1 = true then tb ρ p.2 else some (false, p.2)
def xOrT (ta tb : XT) : XT := fun ρ os => (ta ρ os).bind fun p => if p.1 = true then some (true, p.2) else tb ρ p.2
theorem to_and {K : PySem.W.Frag} {σ : L2.St} {H : Hp} {Q : Bool → Hp → Prop} (q : ttO K (xAndT ta tb) σ H Q) : tAnd (ttO K ta) (ttO K tb) σ H Q := by
  obtain ⟨as, ρ, os, H0, d, os', n, hx, k⟩ := q
  unfold xAndT at hx
  cases h1 : ta ρ os with
  | none => rw [h1] at hx; cases hx
  | some p =>
    obtain ⟨b, os1⟩ := p
    rw [h1, Option.bind_some] at hx
    refine ⟨as, ρ, os, H0, b, os1, n, h1, fun H0' H' n1 g1 => ?_⟩
    cases b with
    | true => exact ⟨as, ρ, os1, H0', d, os', n1, by simpa using hx, fun H2 H2' n2 g2 => k H2 H2' n2 (g1.tr g2)⟩
    | false =>
      cases hx
      exact k H0' H' n1 g1
theorem to_or {K : PySem.W.Frag} {σ : L2.St} {H : Hp} {Q : Bool → Hp → Prop} (q : ttO K (xOrT ta tb) σ H Q) : tOr (ttO K ta) (ttO K tb) σ H Q := by
  obtain ⟨as, ρ, os, H0, d, os', n, hx, k⟩ := q
  unfold xOrT at hx
  cases h1 : ta ρ os with
  | none => rw [h1] at hx; cases hx
  | some p =>
    obtain ⟨b, os1⟩ := p
    rw [h1, Option.bind_some] at hx
    refine ⟨as, ρ, os, H0, b, os1, n, h1, fun H0' H' n1 g1 => ?_⟩
    cases b with
    | false => exact ⟨as, ρ, os1, H0', d, os', n1, by simpa using hx, fun H2 H2' n2 g2 => k H2 H2' n2 (g1.tr g2)⟩
    | true =>
      cases hx
      exact k H0' H' n1 g1
theorem pxw_and1 (ha : PXT X a ta) : PXW X (.BoolOp .And [a] pos) ta := pw_and1 ha
theorem pxw_or1 (ha : PXT X a ta) : PXW X (.BoolOp .Or [a] pos) ta := pw_or1 ha
theorem pxw_and (ha : PXT X a ta) (hb : PXW X (.BoolOp .And (b :: rest) pos) tb) : PXW X (.BoolOp .And (a :: b :: rest) pos) (xAndT ta tb) := pw_imp (pw_and ha hb) fun _ _ _ q => to_and q
theorem pxw_or (ha : PXT X a ta) (hb : PXW X (.BoolOp .Or (b :: rest) pos) tb) : PXW X (.BoolOp .Or (a :: b :: rest) pos) (xOrT ta tb) := pw_imp (pw_or ha hb) fun _ _ _ q => to_or q
theorem pxw_t (h : PXW X a ta) : PXT X a ta := h.pt

/-! and, or, not as values: of truth values -/
def xAndV (xa xb : XE) : XE := fun ρ os => (xa ρ os).bind fun p => match p.1 with
  | .bool true => xb ρ p.2
  | .bool false => some (.bool false, p.2)
  | _ => none
def xOrV (xa xb : XE) : XE := fun ρ os => (xa ρ os).bind fun p => match p.1 with
  | .bool false => xb ρ p.2
  | .bool true => some (.bool true, p.2)
  | _ => none
def notD : PyData → Option PyData
  | .bool b => some (.bool (!b))
  | _ => none
theorem px_one {op} (h : PX X a xa) : PX X (.BoolOp op [a] pos) xa := pe_one h
theorem px_and (ha : PX X a xa) (hb : PX X (.BoolOp .And (b :: rest) pos) xb) : PX X (.BoolOp .And (a :: b :: rest) pos) (xAndV xa xb) := pe_imp (pe_and ha hb) fun σ H Q q => by
  obtain ⟨as, ρ, os, H0, d, os', n, hx, k⟩ := q
  unfold xAndV at hx
  cases h1 : xa ρ os with
  | none => rw [h1] at hx; cases hx
  | some p =>
    obtain ⟨x, os1⟩ := p
    rw [h1, Option.bind_some] at hx
    cases x with
    | bool c =>
      refine ⟨as, ρ, os, H0, _, os1, n, h1, fun v H0' H' n1 g1 r1 => ?_⟩
      cases r1
      refine ⟨c, rfl, ?_⟩
      cases c with
      | true => exact ⟨as, ρ, os1, H0', d, os', n1, hx, fun w H2 H2' n2 g2 r2 => k w H2 H2' n2 (g1.tr g2) r2⟩
      | false =>
        cases hx
        exact k _ H0' H' n1 g1 (.bl _)
    | _ => cases hx
theorem px_or (ha : PX X a xa) (hb : PX X (.BoolOp .Or (b :: rest) pos) xb) : PX X (.BoolOp .Or (a :: b :: rest) pos) (xOrV xa xb) := pe_imp (pe_or ha hb) fun σ H Q q => by
  obtain ⟨as, ρ, os, H0, d, os', n, hx, k⟩ := q
  unfold xOrV at hx
  cases h1 : xa ρ os with
  | none => rw [h1] at hx; cases hx
  | some p =>
    obtain ⟨x, os1⟩ := p
    rw [h1, Option.bind_some] at hx
    cases x with
    | bool c =>
      refine ⟨as, ρ, os, H0, _, os1, n, h1, fun v H0' H' n1 g1 r1 => ?_⟩
      cases r1
      refine ⟨c, rfl, ?_⟩
      cases c with
      | false => exact ⟨as, ρ, os1, H0', d, os', n1, hx, fun w H2 H2' n2 g2 r2 => k w H2 H2' n2 (g1.tr g2) r2⟩
      | true =>
        cases hx
        exact k _ H0' H' n1 g1 (.bl _)
    | _ => cases hx
theorem px_not (ha : PX X a xa) : PX X (.UnaryOp .Not a pos) (xUn notD xa) := pe_imp (pe_not ha) fun σ H Q q => by
  obtain ⟨as, ρ, os, H0, d, os', n, hx, k⟩ := q
  obtain ⟨x, h1, h3⟩ := xUn_some hx
  refine ⟨as, ρ, os, H0, x, os', n, h1, fun v H0' H' n1 g1 r1 => ?_⟩
  cases r1 with
  | bl c =>
    cases h3
    exact ⟨c, rfl, k _ H0' H' n1 g1 (.bl _)⟩
  | _ => cases h3
def xIf (t : XT) (xa xb : XE) : XE := fun ρ os => (t ρ os).bind fun p => if p.1 = true then xa ρ p.2 else xb ρ p.2
theorem px_if (hc : PXT X c ta) (ha : PX X a xa) (hb : PX X b xb) : PX X (.IfExp c a b pos) (xIf ta xa xb) := pe_imp (pe_ifExp hc ha hb) fun σ H Q q => by
  obtain ⟨as, ρ, os, H0, d, os', n, hx, k⟩ := q
  unfold xIf at hx
  cases h1 : ta ρ os with
  | none => rw [h1] at hx; cases hx
  | some p =>
    obtain ⟨c, os1⟩ := p
    rw [h1, Option.bind_some] at hx
    refine ⟨as, ρ, os, H0, c, os1, n, h1, fun H0' H' n1 g1 => ?_⟩
    cases c with
    | true => exact ⟨as, ρ, os1, H0', d, os', n1, by simpa using hx, fun w H2 H2' n2 g2 r2 => k w H2 H2' n2 (g1.tr g2) r2⟩
    | false => exact ⟨as, ρ, os1, H0', d, os', n1, by simpa using hx, fun w H2 H2' n2 g2 r2 => k w H2 H2' n2 (g1.tr g2) r2⟩

/-! arguments -/
def xaNil : XA := fun _ os => some ([], os)
def xaD (xa : XE) (r : XA) : XA := fun ρ os => (xa ρ os).bind fun p => (r ρ p.2).map fun q => (.d p.1 :: q.1, q.2)
/-- a list of one's own, handed on as it is -/
def xaO (i : Nat) (r : XA) : XA := fun ρ os => match ρ[i]? with
  | some (.o k) => (r ρ os).map fun q => (.o k :: q.1, q.2)
  | _ => none
theorem pxa_nil : PXA X [] xaNil := pa_imp pa_nil fun σ H Q q => by
  obtain ⟨as, ρ, os, H0, d, os', n, hx, k⟩ := q
  cases hx
  exact k [] H0 H n (Gr.refl n.sub) True.intro
variable {ra : XA}
theorem pxa_d (ha : PX X e xa) (hr : PXA X es ra) (hs : starEach (e :: es) X.env = (false, eval e X.env) :: starEach es X.env := by rfl) : PXA X (e :: es) (xaD xa ra) := pa_imp (pa_cons ha hr hs) fun σ H Q q => by
  obtain ⟨as, ρ, os, H0, d, os', n, hx, k⟩ := q
  unfold xaD at hx
  cases h1 : xa ρ os with
  | none => rw [h1] at hx; cases hx
  | some p =>
    rw [h1, Option.bind_some] at hx
    cases h2 : ra ρ p.2 with
    | none => rw [h2] at hx; cases hx
    | some q =>
      rw [h2] at hx
      cases hx
      refine ⟨as, ρ, os, H0, p.1, p.2, n, h1, fun v H0' H' n1 g1 r1 => ⟨as, ρ, p.2, H0', q.1, q.2, n1, h2, fun vs H2 H2' n2 g2 r2 => ?_⟩⟩
      exact k (v :: vs) H2 H2' n2 (g1.tr g2) ⟨Da.mono g2.e0 _ _ r1, r2⟩
theorem pxa_o {i : Nat} (ha : PE X e (tVar i)) (hr : PXA X es ra) (hs : starEach (e :: es) X.env = (false, eval e X.env) :: starEach es X.env := by rfl) : PXA X (e :: es) (xaO i ra) := pa_imp (pa_cons ha hr hs) fun σ H Q q => by
  obtain ⟨as, ρ, os, H0, d, os', n, hx, k⟩ := q
  unfold xaO at hx
  split at hx
  · rename_i j hi
    obtain ⟨a, ea, es⟩ := n.ref i j hi
    cases h2 : ra ρ os with
    | none => rw [h2] at hx; cases hx
    | some q =>
      rw [h2] at hx
      cases hx
      exact ⟨_, es, as, ρ, os, H0, q.1, q.2, n, h2, fun vs H2 H2' n2 g2 r2 => k _ H2 H2' n2 g2 ⟨⟨a, ea, rfl⟩, r2⟩⟩
  · cases hx
/-- all are data -/
def datas : List Sl → Option (List PyData)
  | [] => some []
  | .d x :: r => (datas r).map (x :: ·)
  | _ => none
theorem args_datas {K : PySem.W.Frag} {as : List Addr} {H0 : Hp} : ∀ {ss : List Sl} {vs : List V} {ds : List PyData}, ArgsOk K as H0 vs ss → datas ss = some ds → DaAll K H0 vs ds
  | [], [], _, _, e => by cases e; exact .nil
  | [], _ :: _, _, h, _ => h.elim
  | _ :: _, [], _, h, _ => by cases h
  | .d x :: r, v :: vs, ds, h, e => by
    simp only [datas] at e
    cases h2 : datas r with
    | none => rw [h2] at e; cases e
    | some q =>
      rw [h2] at e
      cases e
      exact .cons h.1 (args_datas h.2 h2)
  | .u :: _, _ :: _, _, _, e => by cases e
  | .o _ :: _, _ :: _, _, _, e => by cases e
/-- a built-in of the arguments' data -/
def xCall (f : List PyData → Option PyData) (ra : XA) : XE := fun ρ os => (ra ρ os).bind fun p => (datas p.1).bind fun ds => (f ds).map fun z => (z, p.2)
theorem xCall_some {f : List PyData → Option PyData} {ρ : List Sl} {os os' : Os} {z : PyData} (h : xCall f ra ρ os = some (z, os')) : ∃ ss ds, ra ρ os = some (ss, os') ∧ datas ss = some ds ∧ f ds = some z := by
  unfold xCall at h
  cases h1 : ra ρ os with
  | none => rw [h1] at h; cases h
  | some p =>
    rw [h1, Option.bind_some] at h
    cases h2 : datas p.1 with
    | none => rw [h2] at h; cases h
    | some ds =>
      rw [h2, Option.bind_some] at h
      cases h3 : f ds with
      | none => rw [h3] at h; cases h
      | some w =>
        rw [h3] at h
        cases h
        exact ⟨p.1, ds, rfl, h2, h3⟩
theorem to_call {K : PySem.W.Frag} {f : List PyData → Option PyData} {σ : L2.St} {H : Hp} {Q : VK} (q : teO K (xCall f ra) σ H Q) : tCB (rC K f) (taO K ra) σ H Q := by
  obtain ⟨as, ρ, os, H0, d, os', n, hx, k⟩ := q
  obtain ⟨ss, ds, h1, h2, h3⟩ := xCall_some hx
  exact ⟨as, ρ, os, H0, ss, os', n, h1, fun vs H1 H1' n1 g1 r1 => ⟨H1, ds, d, n1.sub, args_datas r1 h2, h3, fun w H3 H3' g3 r3 => k w H3 H3' (n1.grow g3) (g1.tr0 g3) r3⟩⟩

/-! displays -/
def tupD (ds : List PyData) : Option PyData := if ds.length ≤ sizeLine then some (.tuple ds) else none
def lstD (ds : List PyData) : Option PyData := if ds.length ≤ sizeLine then some (.list ds) else none
theorem px_tup {x1} (h : PXA X es ra) : PX X (.Tuple es x1 pos) (xCall tupD ra) := pe_imp (pe_tup h) fun σ H Q q => by
  obtain ⟨as, ρ, os, H0, d, os', n, hx, k⟩ := q
  obtain ⟨ss, ds, h1, h2, h3⟩ := xCall_some hx
  unfold tupD at h3
  split at h3
  · rename_i hz
    cases h3
    refine ⟨as, ρ, os, H0, ss, os', n, h1, fun vs H1 H1' n1 g1 r1 => ⟨by rw [(args_datas r1 h2).len]; exact hz, fun p hp => ?_⟩⟩
    exact k _ _ _ (n1.grow (Gr.new n1.sub hp)) (g1.tr0 (Gr.new n1.sub hp)) (.tup upd_same ((args_datas r1 h2).mono (Ex.new (fresh_back n1.sub hp))))
  · cases h3
theorem px_lst (h : PXA X es ra) : PX X (.List es pos) (xCall lstD ra) := pe_imp (pe_lst h) fun σ H Q q => by
  obtain ⟨as, ρ, os, H0, d, os', n, hx, k⟩ := q
  obtain ⟨ss, ds, h1, h2, h3⟩ := xCall_some hx
  unfold lstD at h3
  split at h3
  · rename_i hz
    cases h3
    refine ⟨as, ρ, os, H0, ss, os', n, h1, fun vs H1 H1' n1 g1 r1 => ⟨by rw [(args_datas r1 h2).len]; exact hz, fun p hp => ?_⟩⟩
    exact k _ _ _ (n1.grow (Gr.new n1.sub hp)) (g1.tr0 (Gr.new n1.sub hp)) (.lst (SqL.of upd_same) ((args_datas r1 h2).mono (Ex.new (fresh_back n1.sub hp))))
  · cases h3
end
end DL

set_option Elab.async false
set_option linter.all false
set_option maxRecDepth 100000
set_option maxHeartbeats 4000000
namespace DL
open PySem PySem.Spec PyProof.Rows L2 Evl

/-! ### targets: a name, a tuple of targets -/
abbrev XG := PyData → List Sl → Option (List Sl)
def gO (K : PySem.W.Frag) (xg : XG) (js : List Nat) : TG := fun v σ H Q => ∃ as ρ os H0 d ρ', En K as ρ os σ H0 H ∧ Da K H0 v d ∧ xg d ρ = some ρ' ∧ ∀ σ', En K as ρ' os σ' H0 H → (∀ vs, (∀ j ∈ js, j ∈ vs) → wipe σ' vs = wipe σ vs) → Q σ' H
def gsO (K : PySem.W.Frag) (xg : List PyData → List Sl → Option (List Sl)) (js : List Nat) : TGs := fun v σ H Q => ∃ as ρ os H0 d ρ', En K as ρ os σ H0 H ∧ DaAll K H0 v d ∧ xg d ρ = some ρ' ∧ ∀ σ', En K as ρ' os σ' H0 H → (∀ vs, (∀ j ∈ js, j ∈ vs) → wipe σ' vs = wipe σ vs) → Q σ' H
theorem En.set {K : PySem.W.Frag} {as : List Addr} {ρ : List Sl} {os : Os} {σ : L2.St} {H0 H : Hp} {v : V} {d : PyData} (n : En K as ρ os σ H0 H) (i : Nat) (r : Da K H0 v d) : En K as (ρ.set i (.d d)) os (σ.set i (some v)) H0 H := by
  refine ⟨n.sub, by rw [List.length_set, List.length_set]; exact n.len, fun j x h => ?_, fun j k h => ?_, n.ow⟩
  · by_cases e : i = j
    · subst e
      by_cases hl : i < ρ.length
      · rw [List.getElem?_set_self hl] at h
        cases h
        exact ⟨v, List.getElem?_set_self (by rw [n.len]; exact hl), r⟩
      · rw [List.getElem?_eq_none_iff.mpr (by rw [List.length_set]; omega)] at h
        cases h
    · rw [List.getElem?_set_ne e] at h ⊢
      exact n.dat j x h
  · by_cases e : i = j
    · subst e
      by_cases hl : i < ρ.length
      · rw [List.getElem?_set_self hl] at h
        cases h
      · rw [List.getElem?_eq_none_iff.mpr (by rw [List.length_set]; omega)] at h
        cases h
    · rw [List.getElem?_set_ne e] at h ⊢
      exact n.ref j k h
theorem wipe_get : ∀ (vs : List Nat) (σ : L2.St) (i : Nat), (wipe σ vs)[i]? = if i ∈ vs then (if i < σ.length then some none else none) else σ[i]?
  | [], σ, i => by simp [wipe]
  | v :: vs, σ, i => by
    unfold wipe
    by_cases e : v = i
    · subst e
      have hl : (wipe σ vs).length = σ.length := wipe_length σ vs
      by_cases h2 : v < σ.length
      · rw [List.getElem?_set_self (by rw [hl]; exact h2)]
        simp [h2]
      · rw [List.getElem?_eq_none_iff.mpr (by rw [List.length_set, hl]; omega)]
        simp [h2]
    · rw [List.getElem?_set_ne e, wipe_get vs σ i]
      by_cases hm : i ∈ vs
      · simp [hm]
      · have : ¬ i ∈ v :: vs := fun z => by
          rcases List.mem_cons.mp z with z | z
          · exact e z.symm
          · exact hm z
        rw [if_neg hm, if_neg this]
theorem wipe_set {σ : L2.St} {x : Option V} {i : Nat} {vs : List Nat} (h : i ∈ vs) : wipe (σ.set i x) vs = wipe σ vs := by
  refine List.ext_getElem? fun j => ?_
  rw [wipe_get, wipe_get, List.length_set]
  by_cases hj : j ∈ vs
  · rw [if_pos hj, if_pos hj]
  · rw [if_neg hj, if_neg hj, List.getElem?_set_ne (fun e => hj (by rw [← e]; exact h))]
theorem wipe_wipe {σ : L2.St} {vs : List Nat} : wipe (wipe σ vs) vs = wipe σ vs := by
  refine List.ext_getElem? fun j => ?_
  rw [wipe_get, wipe_get, wipe_length]
  by_cases hj : j ∈ vs
  · rw [if_pos hj, if_pos hj]
  · rw [if_neg hj]
def wipeR (ρ : List Sl) : List Nat → List Sl
  | [] => ρ
  | v :: vs => (wipeR ρ vs).set v .u
theorem En.unset {K : PySem.W.Frag} {as : List Addr} {ρ : List Sl} {os : Os} {σ : L2.St} {H0 H : Hp} (n : En K as ρ os σ H0 H) (i : Nat) (x : Option V) : En K as (ρ.set i .u) os (σ.set i x) H0 H := by
  refine ⟨n.sub, by rw [List.length_set, List.length_set]; exact n.len, fun j y h => ?_, fun j k h => ?_, n.ow⟩
  · by_cases e : i = j
    · subst e
      by_cases hl : i < ρ.length
      · rw [List.getElem?_set_self hl] at h
        cases h
      · rw [List.getElem?_eq_none_iff.mpr (by rw [List.length_set]; omega)] at h
        cases h
    · rw [List.getElem?_set_ne e] at h ⊢
      exact n.dat j y h
  · by_cases e : i = j
    · subst e
      by_cases hl : i < ρ.length
      · rw [List.getElem?_set_self hl] at h
        cases h
      · rw [List.getElem?_eq_none_iff.mpr (by rw [List.length_set]; omega)] at h
        cases h
    · rw [List.getElem?_set_ne e] at h ⊢
      exact n.ref j k h
theorem En.wipe {K : PySem.W.Frag} {as : List Addr} {ρ : List Sl} {os : Os} {σ : L2.St} {H0 H : Hp} (n : En K as ρ os σ H0 H) : ∀ vs : List Nat, En K as (wipeR ρ vs) os (L2.wipe σ vs) H0 H
  | [] => n
  | v :: vs => (En.wipe n vs).unset v none
def gNm (i : Nat) : XG := fun d ρ => some (ρ.set i (.d d))
def gTp (n : Nat) (xs : List PyData → List Sl → Option (List Sl)) : XG := fun d ρ => match d with
  | .tuple ds => if ds.length = n then xs ds ρ else none
  | _ => none
def gsNil : List PyData → List Sl → Option (List Sl) := fun ds ρ => match ds with
  | [] => some ρ
  | _ => none
def gsCons (g : XG) (r : List PyData → List Sl → Option (List Sl)) : List PyData → List Sl → Option (List Sl) := fun ds ρ => match ds with
  | d :: ds => (g d ρ).bind (r ds)
  | _ => none
section
variable {X : Cx} {tg e : Expr} {es : List Expr} {pos : Pos}
abbrev PXG (X : Cx) (tg : Expr) (xg : XG) (js : List Nat) : Prop := PG X tg (gO X.K xg js)
abbrev PXGs (X : Cx) (ts : List Expr) (xg : List PyData → List Sl → Option (List Sl)) (js : List Nat) : Prop := PGs X ts (gsO X.K xg js)
theorem pg_imp {t t' : TG} (h : PG X tg t) (k : ∀ v σ H Q, t' v σ H Q → t v σ H Q) : PG X tg t' := ⟨fun pins s σ H v u Q I r q => h.run pins s σ H v u Q I r (k _ _ _ _ q)⟩
theorem pgs_imp {t t' : TGs} (h : PGs X es t) (k : ∀ v σ H Q, t' v σ H Q → t v σ H Q) : PGs X es t' := ⟨fun pins s σ H v u Q I r q => h.run pins s σ H v u Q I r (k _ _ _ _ q)⟩
theorem pxg_nm {i : Nat} (h : PG X tg (gName i)) : PXG X tg (gNm i) [i] := pg_imp h fun v σ H Q q => by
  obtain ⟨as, ρ, os, H0, d, ρ', n, r, hx, k⟩ := q
  cases hx
  exact k _ (n.set i r) fun vs hv => wipe_set (hv i (by simp))
theorem pxgs_nil : PXGs X [] gsNil [] := pgs_imp pgs_nil fun v σ H Q q => by
  obtain ⟨as, ρ, os, H0, d, ρ', n, r, hx, k⟩ := q
  cases r with
  | nil =>
    cases hx
    exact ⟨rfl, k σ n fun _ _ => rfl⟩
  | cons _ _ => cases hx
theorem pxgs_cons {g : XG} {r : List PyData → List Sl → Option (List Sl)} {js ks : List Nat} (h1 : PXG X e g js) (h2 : PXGs X es r ks) (hs : (assignEach (e :: es) X.env).map (·.2) = assign e X.env :: (assignEach es X.env).map (·.2) := by rfl) : PXGs X (e :: es) (gsCons g r) (js ++ ks) :=
  pgs_imp (pgs_cons h1 h2 hs) fun v σ H Q q => by
    obtain ⟨as, ρ, os, H0, d, ρ', n, r, hx, k⟩ := q
    cases r with
    | nil => cases hx
    | cons r1 r2 =>
      unfold gsCons at hx
      rename_i v1 vs1 d1 ds1
      simp only at hx
      cases h3 : g d1 ρ with
      | none => rw [h3] at hx; cases hx
      | some ρ1 =>
        rw [h3, Option.bind_some] at hx
        exact ⟨v1, vs1, rfl, as, ρ, os, H0, d1, ρ1, n, r1, h3, fun σ1 n1 w1 => ⟨as, ρ1, os, H0, ds1, ρ', n1, r2, hx, fun σ2 n2 w2 => k σ2 n2 fun vs hv => (w2 vs fun j hj => hv j (by simp [hj])).trans (w1 vs fun j hj => hv j (by simp [hj]))⟩⟩
theorem pxg_tup {kk : Nat} {xs : List PyData → List Sl → Option (List Sl)} {js : List Nat} {n : Nat} (hc : X.calm = true) (h : PXGs X es xs js) (hn : (assignEach es X.env).length = n := by rfl) (hst : (assignEach es X.env).findIdx? (·.1) = none := by rfl) :
    PXG X (.Tuple es kk pos) (gTp n xs) js := pg_imp (pg_tup hc h hn hst) fun v σ H Q q => by
  obtain ⟨as, ρ, os, H0, d, ρ', en, r, hx, k⟩ := q
  cases r with
  | @tup a vs ds r1 r2 =>
    simp only [gTp] at hx
    split at hx
    · rename_i hl
      exact ⟨a, vs, rfl, SqT.of (en.sub _ _ r1), by rw [r2.len]; exact hl, as, ρ, os, H0, ds, ρ', en, r2, hx, k⟩
    · cases hx
  | _ => cases hx
end

/-! ### what is walked -/
structure WalkD (K : PySem.W.Frag) (J : It) (items : List PyData) (H0 : Hp) : Prop where
  goes : ∀ (i : Nat) (H : Hp), i < items.length → Ex H0 H → J.go i H
  stops : ∀ H, Ex H0 H → J.stop items.length H
  yields : ∀ (i : Nat) (H : Hp) (x : V) (H' H1 : Hp), i < items.length → Ex H0 H1 → Ex H1 H → J.yld i H x H' → ∃ H1' d, Gr [] H1 H H1' H' ∧ items[i]? = some d ∧ Da K H1' x d
abbrev XI := List Sl → Os → Option (List PyData × Os)
def tiO (K : PySem.W.Frag) (xi : XI) : TI := fun σ H R => ∃ as ρ os H0 items os', En K as ρ os σ H0 H ∧ xi ρ os = some (items, os') ∧ ∀ J H0' H', En K as ρ os' σ H0' H' → Gr as H0 H H0' H' → WalkD K J items H0' → R J H'
abbrev PXI (X : Cx) (tg iter : Expr) (xi : XI) : Prop := PI X tg iter (tiO X.K xi)
section
variable {X : Cx} {tg iter l : Expr} {xl : XE} {pos p : Pos} {ra : XA}
theorem pi_imp {t t' : TI} (h : PI X tg iter t) (k : ∀ σ H R, t' σ H R → t σ H R) : PI X tg iter t' := ⟨fun pins s σ H R I q => h.run pins s σ H R I (k _ _ _ q)⟩
def iLst (xl : XE) : XI := fun ρ os => (xl ρ os).bind fun p => match p.1 with
  | .list ds => some (ds, p.2)
  | _ => none
def iTpl (xl : XE) : XI := fun ρ os => (xl ρ os).bind fun p => match p.1 with
  | .tuple ds => some (ds, p.2)
  | _ => none
theorem pxi_list (hl : PX X l xl) : PXI X tg l (iLst xl) := pi_imp (pi_list hl) fun σ H R q => by
  obtain ⟨as, ρ, os, H0, items, os', n, hx, k⟩ := q
  unfold iLst at hx
  cases h1 : xl ρ os with
  | none => rw [h1] at hx; cases hx
  | some p =>
    obtain ⟨x, os1⟩ := p
    rw [h1, Option.bind_some] at hx
    cases x with
    | list ds =>
      cases hx
      refine ⟨as, ρ, os, H0, _, _, n, h1, fun v H0' H' n1 g1 r1 => ?_⟩
      cases r1 with
      | @lst a vs _ ha hs =>
        have hl := hs.len
        refine ⟨a, rfl, ⟨vs, ex_l n1.sub ha⟩, k _ H0' H' n1 g1 ⟨fun i H hi e => ?_, fun H e => ?_, fun i H x H' H1 hi e e1 y => ?_⟩⟩
        · exact walk_list.goes i H (by omega) (ex_l e ha)
        · rw [← hl]
          exact walk_list.stops H (ex_l e ha)
        · obtain ⟨e2, e3⟩ := walk_list.yields i H x H' (by omega) (ex_l (e.trans e1) ha) y
          subst e2
          obtain ⟨d, hd, r⟩ := hs.atV e3
          exact ⟨H1, d, Gr.refl e1, hd, Da.mono e _ _ r⟩
    | _ => cases hx
theorem pxi_tuple (hl : PX X l xl) : PXI X tg l (iTpl xl) := pi_imp (pi_tup hl) fun σ H R q => by
  obtain ⟨as, ρ, os, H0, items, os', n, hx, k⟩ := q
  unfold iTpl at hx
  cases h1 : xl ρ os with
  | none => rw [h1] at hx; cases hx
  | some p =>
    obtain ⟨x, os1⟩ := p
    rw [h1, Option.bind_some] at hx
    cases x with
    | tuple ds =>
      cases hx
      refine ⟨as, ρ, os, H0, _, _, n, h1, fun v H0' H' n1 g1 r1 => ?_⟩
      cases r1 with
      | @tup a vs _ ha0 hs =>
        have ha : SqT X.K H0' a vs := SqT.of ha0
        have hl := hs.len
        refine ⟨a, rfl, ⟨vs, ex_t n1.sub ha⟩, k _ H0' H' n1 g1 ⟨fun i H hi e => ?_, fun H e => ?_, fun i H x H' H1 hi e e1 y => ?_⟩⟩
        · exact walk_tup.goes i H (by omega) (ex_t e ha)
        · rw [← hl]
          exact walk_tup.stops H (ex_t e ha)
        · obtain ⟨e2, e3⟩ := walk_tup.yields i H x H' (by omega) (ex_t (e.trans e1) ha) y
          subst e2
          obtain ⟨d, hd, r⟩ := hs.atV e3
          exact ⟨H1, d, Gr.refl e1, hd, Da.mono e _ _ r⟩
    | _ => cases hx
def rangeD (lo : Int) (n : Nat) : List PyData := (List.range n).map fun (i : Nat) => PyData.int (lo + (i : Int))
theorem walkD_range {K : PySem.W.Frag} {H0 : Hp} {lo : Int} {n : Nat} : WalkD K (Itr lo n) (rangeD lo n) H0 := by
  have hl : (rangeD lo n).length = n := by simp [rangeD]
  refine ⟨fun i H hi _ => ?_, fun H _ => ?_, fun i H x H' H1 hi e e1 y => ?_⟩
  · rw [hl] at hi
    exact hi
  · rw [hl]
    exact Nat.le_refl _
  · obtain ⟨e2, e3⟩ := (show H' = H ∧ x = .int (lo + i) from y)
    subst e2 e3
    rw [hl] at hi
    exact ⟨H1, .int (lo + i), Gr.refl e1, by simp [rangeD, hi], .int _⟩
def iRg (ra : XA) : XI := fun ρ os => (ra ρ os).bind fun p => match p.1 with
  | [.d (.int j)] => if -(2 ^ 62) ≤ j ∧ j < 2 ^ 62 then some (rangeD 0 j.toNat, p.2) else none
  | [.d (.int i), .d (.int j)] => if -(2 ^ 62) ≤ i ∧ i < 2 ^ 62 ∧ -(2 ^ 62) ≤ j ∧ j < 2 ^ 62 then some (rangeD i (j - i).toNat, p.2) else none
  | _ => none
theorem pxi_range1 {a : Expr} (hg : Gl X "range") (hm : X.mg "range" = none) (ha : PXA X [a] ra) (hs : starEach [a] X.env = [(false, eval a X.env)] := by rfl) (h1 : ∀ ρ os ss os', ra ρ os = some (ss, os') → ss.length = 1) : PXI X tg (.Call (.Name "range" p) [a] [] pos) (iRg ra) :=
  pi_imp (pi_range1 hg hm ha hs) fun σ H R q => by
    obtain ⟨as, ρ, os, H0, items, os', n, hx, k⟩ := q
    unfold iRg at hx
    cases h2 : ra ρ os with
    | none => rw [h2] at hx; cases hx
    | some q =>
      obtain ⟨ss, os1⟩ := q
      have hl := h1 _ _ _ _ h2
      rw [h2, Option.bind_some] at hx
      simp only at hx
      split at hx
      · rename_i j
        split at hx
        · rename_i hc
          cases hx
          refine ⟨as, ρ, os, H0, _, _, n, h2, fun vs H1 H1' n1 g1 r1 => ?_⟩
          match vs, r1 with
          | [v], r1 =>
            have e := da_intI r1.1
            subst e
            exact ⟨j, rfl, hc.1, hc.2, k _ H1 H1' n1 g1 walkD_range⟩
        · cases hx
      · cases hl
      · cases hx
theorem pxi_range2 {a b : Expr} (hg : Gl X "range") (hm : X.mg "range" = none) (ha : PXA X [a, b] ra) (hs : starEach [a, b] X.env = [(false, eval a X.env), (false, eval b X.env)] := by rfl) (hs2 : starEach [b] X.env = [(false, eval b X.env)] := by rfl)
    (h1 : ∀ ρ os ss os', ra ρ os = some (ss, os') → ss.length = 2) : PXI X tg (.Call (.Name "range" p) [a, b] [] pos) (iRg ra) :=
  pi_imp (pi_range2 hg hm ha hs hs2) fun σ H R q => by
    obtain ⟨as, ρ, os, H0, items, os', n, hx, k⟩ := q
    unfold iRg at hx
    cases h2 : ra ρ os with
    | none => rw [h2] at hx; cases hx
    | some q =>
      obtain ⟨ss, os1⟩ := q
      have hl := h1 _ _ _ _ h2
      rw [h2, Option.bind_some] at hx
      simp only at hx
      split at hx
      · cases hl
      · rename_i i j
        split at hx
        · rename_i hc
          cases hx
          refine ⟨as, ρ, os, H0, _, _, n, h2, fun vs H1 H1' n1 g1 r1 => ?_⟩
          match vs, r1 with
          | [v, w], r1 =>
            have e := da_intI r1.1
            have e2 := da_intI r1.2.1
            subst e e2
            exact ⟨i, j, rfl, hc, k _ H1 H1' n1 g1 walkD_range⟩
        · cases hx
      · cases hx
def zipD (xs ys : List PyData) : List PyData := (xs.zip ys).map fun p => .tuple [p.1, p.2]
theorem walkD_pair {K : PySem.W.Frag} {H0 : Hp} {J : It} {n : Nat} {G : Hp → Prop} {fx fy : Nat → Option V} {items : List PyData} (w : Walk J n G (YPair fx fy)) (hG : ∀ H, Ex H0 H → G H) (hl : items.length = n)
    (hd : ∀ i x y, i < n → fx i = some x → fy i = some y → ∃ d e, items[i]? = some (.tuple [d, e]) ∧ Da K H0 x d ∧ Da K H0 y e) : WalkD K J items H0 := by
  refine ⟨fun i H hi e => w.goes i H (by omega) (hG H e), fun H e => by rw [hl]; exact w.stops H (hG H e), fun i H v H' H1 hi e e1 y => ?_⟩
  obtain ⟨T, x, z, rfl, hT, rfl, h1, h2⟩ := w.yields i H v H' (by omega) (hG H (e.trans e1)) y
  obtain ⟨d, d2, h3, h4, h5⟩ := hd i x z (by omega) h1 h2
  have e2 := e.trans (Gr.new e1 hT (o := .tup [x, z])).e0
  exact ⟨_, _, Gr.new e1 hT, h3, .tup upd_same (.cons (h4.mono e2) (.cons (h5.mono e2) .nil))⟩
def iZp (ra : XA) : XI := fun ρ os => (ra ρ os).bind fun p => match p.1 with
  | [.d (.list xs), .d (.list ys)] => some (zipD xs ys, p.2)
  | _ => none
theorem pxi_zip {a b : Expr} {elts : List Expr} {kk : Nat} {tpos : Pos} (hg : Gl X "zip") (hm : X.mg "zip" = none) (ha : PXA X [a, b] ra) (hs : starEach [a, b] X.env = (false, eval a X.env) :: starEach [b] X.env := by rfl) (hpl : (backTo pos (starEach [b] X.env)).any (·.1) = false := by rfl) :
    PXI X (.Tuple elts kk tpos) (.Call (.Name "zip" p) [a, b] [] pos) (iZp ra) := pi_imp (pi_zip hg hm ha hs hpl) fun σ H R q => by
  obtain ⟨as, ρ, os, H0, items, os', n, hx, k⟩ := q
  unfold iZp at hx
  cases h2 : ra ρ os with
  | none => rw [h2] at hx; cases hx
  | some q =>
    obtain ⟨ss, os1⟩ := q
    rw [h2, Option.bind_some] at hx
    simp only at hx
    split at hx
    · rename_i xs ys
      cases hx
      refine ⟨as, ρ, os, H0, _, _, n, h2, fun vs H1 H1' n1 g1 r1 => ?_⟩
      match vs, r1 with
      | [v, w], r1 =>
        have q1 : Da X.K H1 v (.list xs) := r1.1
        have q2 : Da X.K H1 w (.list ys) := r1.2.1
        cases q1 with
        | @lst a1 us _ a2 a3 =>
          cases q2 with
          | @lst b1 ws _ b2 b3 =>
            refine ⟨a1, b1, us, ws, rfl, ex_l n1.sub a2, ex_l n1.sub b2, k _ H1 H1' n1 g1 (walkD_pair (walk_zip rfl) (fun H e => ⟨ex_l e a2, ex_l e b2⟩) ?_ fun i x y hi e1 e2 => ?_)⟩
            · rw [a3.len, b3.len]
              simp [zipD]
            · obtain ⟨d, h3, h4⟩ := a3.atV e1
              obtain ⟨e, h5, h6⟩ := b3.atV e2
              exact ⟨d, e, by simp [zipD, List.getElem?_zip_eq_some, h3, h5], h4, h6⟩
    · cases hx
def enumD (xs : List PyData) : List PyData := xs.zipIdx.map fun p => .tuple [.int (p.2 : Int), p.1]
def iEn (ra : XA) : XI := fun ρ os => (ra ρ os).bind fun p => match p.1 with
  | [.d (.list xs)] => some (enumD xs, p.2)
  | _ => none
theorem pxi_enum {a : Expr} {elts : List Expr} {kk : Nat} {tpos : Pos} (hg : Gl X "enumerate") (hm : X.mg "enumerate" = none) (ha : PXA X [a] ra) (hs : starEach [a] X.env = [(false, eval a X.env)] := by rfl) :
    PXI X (.Tuple elts kk tpos) (.Call (.Name "enumerate" p) [a] [] pos) (iEn ra) := pi_imp (pi_enum hg hm ha hs) fun σ H R q => by
  obtain ⟨as, ρ, os, H0, items, os', n, hx, k⟩ := q
  unfold iEn at hx
  cases h2 : ra ρ os with
  | none => rw [h2] at hx; cases hx
  | some q =>
    obtain ⟨ss, os1⟩ := q
    rw [h2, Option.bind_some] at hx
    simp only at hx
    split at hx
    · rename_i xs
      cases hx
      refine ⟨as, ρ, os, H0, _, _, n, h2, fun vs H1 H1' n1 g1 r1 => ?_⟩
      match vs, r1 with
      | [v], r1 =>
        have q1 : Da X.K H1 v (.list xs) := r1.1
        cases q1 with
        | @lst a1 us _ a2 a3 =>
          refine ⟨a1, us, rfl, ex_l n1.sub a2, k _ H1 H1' n1 g1 (walkD_pair walk_enum (fun H e => ex_l e a2) ?_ fun i x y hi e1 e2 => ?_)⟩
          · rw [a3.len]
            simp [enumD]
          · obtain ⟨d, h3, h4⟩ := a3.atV e2
            cases e1
            exact ⟨.int (i : Nat), d, by simp [enumD, List.getElem?_map, List.getElem?_zipIdx, h3], .int _, h4⟩
    · cases hx
end

/-! ### comprehensions of one for -/
abbrev PXTs (X : Cx) (ifs : List Expr) (t : XT) : Prop := PTs X ifs (ttO X.K t)
def xYes : XT := fun _ os => some (true, os)
def lcRun (xg : XG) (tt : XT) (te : XE) (ρ : List Sl) : List PyData → List PyData → Os → Option (List PyData × Os)
  | [], acc, os => some (acc, os)
  | d :: r, acc, os => (xg d ρ).bind fun ρ1 => (tt ρ1 os).bind fun p => if p.1 = true then (te ρ1 p.2).bind fun q => if acc.length < sizeLine then lcRun xg tt te ρ r (acc ++ [q.1]) q.2 else none else lcRun xg tt te ρ r acc p.2
/-- its items -/
def lcD (xi : XI) (xg : XG) (tt : XT) (te : XE) (vs : List Nat) : XI := fun ρ os => (xi ρ os).bind fun p => lcRun xg tt te (wipeR ρ vs) p.1 [] p.2
/-- a new list that nothing else holds -/
def teF (K : PySem.W.Frag) (x : XI) : TE := fun σ H Q => ∃ as ρ os H0 ds os', En K as ρ os σ H0 H ∧ x ρ os = some (ds, os') ∧ ∀ p vs H0' H', H p = none → En K as ρ os' σ H0' H' → Gr as H0 H H0' H' → H0' p = none → p ∉ as → H' p = some (.lst vs) → DaAll K H0' vs ds → Q (.ref p) H'
abbrev PXF (X : Cx) (e : Expr) (x : XI) : Prop := PE X e (teF X.K x)
def xF (x : XI) : XE := fun ρ os => (x ρ os).map fun p => (.list p.1, p.2)
theorem keep_new {as : List Addr} {H0 H H0' H' : Hp} {p : Addr} {o : HO} (s : Ex H0 H) (g : Gr as H0 H H0' H') (hp : H p = none) (hn : H0' p = none) (e : H' p = some o) : Gr as H0 H (upd H0' p o) H' where
  e0 := g.e0.trans (Ex.new hn)
  e1 := g.e1
  nw := fun a u m e n => by
    rw [upd_ne (fun z => n (by rw [z]; exact hp))] at e
    exact g.nw a u m e n
  kp := g.kp
  sub := fun a u e2 => by
    by_cases z : a = p
    · subst z
      rw [upd_same] at e2
      rw [← e2]
      exact e
    · rw [upd_ne z] at e2
      exact g.sub a u e2
theorem Own.keep {K : PySem.W.Frag} {as : List Addr} {os : Os} {H0 H : Hp} {p : Addr} {o : HO} (w : Own K as os H0 H) (hn : H0 p = none) (h : p ∉ as) : Own K as os (upd H0 p o) H := ⟨w.nd, w.len, w.trk, fun k a ds h1 h2 => by
  obtain ⟨n, vs, e, r⟩ := w.at_ k a ds h1 h2
  refine ⟨?_, vs, e, r.mono (Ex.new hn)⟩
  rw [upd_ne (fun z => h (by rw [← z]; exact List.mem_of_getElem? h1))]
  exact n⟩
theorem En.keep {K : PySem.W.Frag} {as : List Addr} {ρ : List Sl} {os : Os} {σ : L2.St} {H0 H : Hp} {p : Addr} {o : HO} (n : En K as ρ os σ H0 H) (hn : H0 p = none) (h : p ∉ as) (e : H p = some o) : En K as ρ os σ (upd H0 p o) H :=
  ⟨fun a u e2 => by
    by_cases z : a = p
    · subst z
      rw [upd_same] at e2
      rw [← e2]
      exact e
    · rw [upd_ne z] at e2
      exact n.sub a u e2, n.len, fun i x h => by
    obtain ⟨v, e1, r⟩ := n.dat i x h
    exact ⟨v, e1, r.mono (Ex.new hn)⟩, n.ref, n.ow.keep hn h⟩
theorem px_of_f {X : Cx} {e : Expr} {x : XI} (h : PXF X e x) : PX X e (xF x) := pe_imp h fun σ H Q q => by
  obtain ⟨as, ρ, os, H0, d, os', n, hx, k⟩ := q
  unfold xF at hx
  cases h1 : x ρ os with
  | none => rw [h1] at hx; cases hx
  | some q =>
    obtain ⟨ds, os1⟩ := q
    rw [h1] at hx
    cases hx
    exact ⟨as, ρ, os, H0, ds, os1, n, h1, fun p vs H0' H' hp n1 g1 h2 h3 h4 r => k _ _ H' (n1.keep h2 h3 h4) (keep_new n.sub g1 hp h2 h4) (.lst (SqL.of upd_same) (r.mono (Ex.new h2)))⟩
/-- what stands between two turns -/
def LcI (K : PySem.W.Frag) (as : List Addr) (Ha Hb : Hp) (D : Addr) (xg : XG) (tt : XT) (te : XE) (ρw : List Sl) (σw : L2.St) (ds : List PyData) (os' : Os) (left : List PyData) (H2 : Hp) : Prop :=
  ∃ acc osi H2' vacc, En K as ρw osi σw H2' H2 ∧ Gr as Ha Hb H2' H2 ∧ H2' D = none ∧ H2 D = some (.lst vacc) ∧ DaAll K H2' vacc acc ∧ lcRun xg tt te ρw left acc osi = some (ds, os')
/-- another place changes -/
theorem En.away {K : PySem.W.Frag} {as : List Addr} {ρ : List Sl} {os : Os} {σ : L2.St} {H0 H H' : Hp} {D : Addr} (n : En K as ρ os σ H0 H) (nD : D ∉ as) (h : ∀ a, a ≠ D → H' a = H a) (hD : H' D ≠ none) (h0 : H0 D = none) : En K as ρ os σ H0 H' := by
  refine ⟨fun a o e => ?_, n.len, n.dat, n.ref, ⟨n.ow.nd, n.ow.len, fun a ha => ?_, fun k a ds h1 h2 => ?_⟩⟩
  · rw [h a (ne_of_none e h0)]
    exact n.sub a o e
  · rw [h a (fun z => nD (by rw [← z]; exact ha))]
    exact n.ow.trk a ha
  · obtain ⟨q1, vs, q2, q3⟩ := n.ow.at_ k a ds h1 h2
    exact ⟨q1, vs, by rw [h a (fun z => nD (by rw [← z]; exact List.mem_of_getElem? h1))]; exact q2, q3⟩
/-- the names as they were, the lists as they are -/
theorem En.back {K : PySem.W.Frag} {as : List Addr} {ρ ρ1 : List Sl} {os os1 : Os} {σ σ1 : L2.St} {H0 H H0' H' : Hp} (n : En K as ρ1 os1 σ1 H0' H') (m : En K as ρ os σ H0 H) (e : Ex H0 H0') : En K as ρ os1 σ H0' H' :=
  ⟨n.sub, m.len, fun i x h => by
    obtain ⟨v, e1, r⟩ := m.dat i x h
    exact ⟨v, e1, Da.mono e _ _ r⟩, m.ref, n.ow⟩
section
variable {X : Cx} {elt tg iter : Expr} {ifs : List Expr} {scope : Scope} {own : List (Str × Nat)} {pos : Pos} {xi : XI} {xg : XG} {js : List Nat} {tt : XT} {te : XE}
theorem pxts_nil : PXTs X [] xYes := ⟨fun pins s σ H Q I q => (pts_nil (X := X)).run pins s σ H Q I (by
  obtain ⟨as, ρ, os, H0, b, os', n, hx, k⟩ := q
  cases hx
  exact k H0 H n (Gr.refl n.sub))⟩
theorem pxts_one {c : Expr} (h : PXT X c tt) : PXTs X [c] tt := pts_one h
theorem to_lc {K : PySem.W.Frag} {vs : List Nat} (hj : ∀ j ∈ js, j ∈ vs) {σ : L2.St} {H : Hp} {Q : VK} (q : teF K (lcD xi xg tt te vs) σ H Q) : tLc (tiO K xi) (gO K xg js) (ttO K tt) (teO K te) vs σ H Q := by
  obtain ⟨as, ρ, os, H0, ds, os', n, hx, k⟩ := q
  unfold lcD at hx
  cases h1 : xi ρ os with
  | none => rw [h1] at hx; cases hx
  | some q =>
    obtain ⟨items, os1⟩ := q
    rw [h1, Option.bind_some] at hx
    refine ⟨as, ρ, os, H0, items, os1, n, h1, fun J Ha Hb n1 g1 w => ?_⟩
    intro D hD
    -- the word: what is made so far, what is left
    have nD : D ∉ as := fun z => n1.ow.trk D z hD
    have gD := fun {H2' H2 : Hp} (g : Gr as Ha Hb H2' H2) => g
    refine ⟨fun i m H2 => m = items.length - i ∧ i ≤ items.length ∧ LcI K as Ha Hb D xg tt te (wipeR ρ vs) (wipe σ vs) ds os' (items.drop i) H2, ⟨items.length, by simp, Nat.zero_le _, [], os1, Ha, [], ?_, ?_, fresh_back n1.sub hD, upd_same, .nil, hx⟩, ?_⟩
    · exact (n1.wipe vs).away nD (fun a h => upd_ne h) (by rw [upd_same]; simp) (fresh_back n1.sub hD)
    · exact ⟨Ex.refl _, fun a o h e => by rw [upd_ne (ne_of_none e hD)]; exact e, fun _ _ _ e _ => e, fun a h => by rw [upd_ne (fun z => h (by rw [z]; exact hD))]; exact h, fun a o e => by rw [upd_ne (ne_of_none (n1.sub a o e) hD)]; exact n1.sub a o e⟩
    rintro i m H2 ⟨rfl, hi, acc, osi, H2', vacc, nI, gI, h2, h3, h4, hr⟩
    by_cases hlt : i < items.length
    · refine .inr ⟨w.goes i H2 hlt (gI.e0.trans nI.sub), LcI K as Ha Hb D xg tt te (wipeR ρ vs) (wipe σ vs) ds os' (items.drop (i + 1)), fun H3 p3 => ⟨items.length - (i + 1), by omega, rfl, hlt, p3⟩, fun x H3 y => ?_⟩
      obtain ⟨H3', d, g3, hd, r3⟩ := w.yields i H2 x H3 H2' hlt gI.e0 nI.sub y
      have n3 := nI.grow g3
      have e3 : items.drop i = d :: items.drop (i + 1) := by
        obtain ⟨_, e⟩ := List.getElem?_eq_some_iff.mp hd
        rw [← e]
        exact List.drop_eq_getElem_cons hlt
      rw [e3] at hr
      simp only [lcRun] at hr
      cases q1 : xg d (wipeR ρ vs) with
      | none => rw [q1] at hr; cases hr
      | some ρ1 =>
        rw [q1, Option.bind_some] at hr
        refine ⟨as, wipeR ρ vs, osi, H3', d, ρ1, n3, r3, q1, fun σ4 n4 w4 => ⟨(w4 vs hj).trans wipe_wipe, ?_⟩⟩
        cases q2 : tt ρ1 osi with
        | none => rw [q2] at hr; cases hr
        | some p =>
          obtain ⟨b, os5⟩ := p
          rw [q2, Option.bind_some] at hr
          simp only at hr
          have D3 : H3 D = some (.lst vacc) := g3.e1 D _ (by simp) h3
          have D3' : H3' D = none := by
            cases z : H3' D with
            | none => rfl
            | some u =>
              have := g3.nw D u (by simp) z (by rw [h3]; simp)
              rw [h2] at this
              cases this
          refine ⟨as, ρ1, osi, H3', b, os5, n4, q2, fun H5' H5 n5 g5 => ?_⟩
          have D5 : H5 D = some (.lst vacc) := g5.e1 D _ nD D3
          have D5' : H5' D = none := by
            cases z : H5' D with
            | none => rfl
            | some u =>
              have := g5.nw D u nD z (by rw [D3]; simp)
              rw [D3'] at this
              cases this
          have gA : Gr as Ha Hb H5' H5 := (gI.tr0 g3).tr g5
          cases b with
          | false =>
            simp only [Bool.false_eq_true, if_false] at hr ⊢
            exact ⟨acc, os5, H5', vacc, n5.back nI (g3.e0.trans g5.e0), gA, D5', D5, DaAll.mono (g3.e0.trans g5.e0) _ _ h4, hr⟩
          | true =>
            simp only [if_true] at hr ⊢
            cases q3 : te ρ1 os5 with
            | none => rw [q3] at hr; cases hr
            | some p =>
              obtain ⟨yv, os6⟩ := p
              rw [q3, Option.bind_some] at hr
              simp only at hr
              split at hr
              · rename_i hz
                refine ⟨as, ρ1, os5, H5', yv, os6, n5, q3, fun v H6' H6 n6 g6 r6 => ?_⟩
                have D6 : H6 D = some (.lst vacc) := g6.e1 D _ nD D5
                have D6' : H6' D = none := by
                  cases z : H6' D with
                  | none => rfl
                  | some u =>
                    have := g6.nw D u nD z (by rw [D5]; simp)
                    rw [D5'] at this
                    cases this
                have h46 : DaAll K H6' vacc acc := DaAll.mono ((g3.e0.trans g5.e0).trans g6.e0) _ _ h4
                refine ⟨vacc, D6, by rw [h46.len]; exact hz, acc ++ [yv], os6, H6', vacc ++ [v], ?_, ?_, D6', upd_same, h46.app (.cons r6 .nil), hr⟩
                · exact (n6.back nI ((g3.e0.trans g5.e0).trans g6.e0)).away nD (fun a h => upd_ne h) (by rw [upd_same]; simp) D6'
                · have gB := gA.tr g6
                  refine ⟨gB.e0, fun a o h e => ?_, gB.nw, fun a h => ?_, fun a o e => ?_⟩
                  · rw [upd_ne (ne_of_none e hD)]
                    exact gB.e1 a o h e
                  · rw [upd_ne (fun z => h (by rw [z]; exact hD))]
                    exact gB.kp a h
                  · rw [upd_ne (ne_of_none e D6')]
                    exact gB.sub a o e
              · cases hr
    · have e : items.drop i = [] := List.drop_eq_nil_of_le (by omega)
      rw [e] at hr
      cases hr
      have ei : i = items.length := by omega
      subst ei
      refine .inl ⟨w.stops H2 (gI.e0.trans nI.sub), k D vacc H2' H2 ?_ ?_ (g1.tr gI) h2 nD h3 h4⟩
      · cases z : H D with
        | none => rfl
        | some u => exact absurd hD (g1.kp D (by rw [z]; simp))
      · exact nI.back n1 gI.e0
theorem pxf_lc (hc : X.calm = true) (hN : X.N.Nodup) (hi : PXI X tg iter xi) (ok : BlkOk X.N X.env.scope scope own)
    (hg : ∀ (s : Shared) (H : Hp) (C : Addr) (cl : List (Str × Addr)) (fp : List Addr), PXG (X.blk s H scope (compEnvC scope cl C X.env) fp) tg xg js)
    (ht : ∀ (s : Shared) (H : Hp) (C : Addr) (cl : List (Str × Addr)) (fp : List Addr), PXTs (X.blk s H scope (compEnvC scope cl C X.env) fp) ifs tt)
    (he : ∀ (s : Shared) (H : Hp) (C : Addr) (cl : List (Str × Addr)) (fp : List Addr), PX (X.blk s H scope (compEnvC scope cl C X.env) fp) elt te)
    (hj : ∀ j ∈ js, j ∈ own.map (·.2)) (hs : ∀ x, foldedSetIterable iter X.env x = pure x := by intro _; rfl) : PXF X (.ListComp elt [⟨tg, iter, ifs, 0⟩] scope pos) (lcD xi xg tt te (own.map (·.2))) :=
  pe_imp (pe_lc hc hN hi ok hg ht he hs) fun _ _ _ q => to_lc hj q
end
end DL

set_option Elab.async false
set_option linter.all false
set_option maxRecDepth 100000
set_option maxHeartbeats 4000000
namespace DL
open PySem PySem.Spec PyProof.Rows L2 Evl

/-! ### statements by what they leave -/
inductive Out where
  | nx (ρ : List Sl) (os : Os)
  | bk (ρ : List Sl) (os : Os)
  | ct (ρ : List Sl) (os : Os)
  | rt (d : PyData) (os : Os)
  | ex (C : Addr) (x : Sl) (ρ : List Sl) (os : Os)
  | rv (s : Sl) (os : Os)
abbrev SE := List Sl → Os → Option Out
def Exs (as : List Addr) (H : Hp) (as' : List Addr) : Prop := ∃ bs, as' = as ++ bs ∧ ∀ b ∈ bs, H b = none
theorem Exs.refl {as : List Addr} {H : Hp} : Exs as H as := ⟨[], by simp, by simp⟩
theorem Exs.trans {as bs cs : List Addr} {H H' : Hp} (p : Exs as H bs) (q : Exs bs H' cs) (k : ∀ a, H a ≠ none → H' a ≠ none) : Exs as H cs := by
  obtain ⟨b1, rfl, h1⟩ := p
  obtain ⟨b2, rfl, h2⟩ := q
  refine ⟨b1 ++ b2, by simp, fun b hb => ?_⟩
  rcases List.mem_append.mp hb with z | z
  · exact h1 b z
  · cases e : H b with
    | none => rfl
    | some o => exact absurd (h2 b z) (k b (by rw [e]; simp))
theorem Exs.mem {as bs : List Addr} {H : Hp} (p : Exs as H bs) : ∀ a ∈ bs, a ∈ as ∨ H a = none := fun a ha => by
  obtain ⟨b1, rfl, h1⟩ := p
  rcases List.mem_append.mp ha with z | z
  · exact .inl z
  · exact .inr (h1 a z)
def NxOk (K : PySem.W.Frag) (as : List Addr) (H0 H : Hp) (nx : L2.St → Hp → Prop) (ρ' : List Sl) (os' : Os) : Prop := ∀ as' σ' H0' H', Exs as H as' → En K as' ρ' os' σ' H0' H' → Gr as H0 H H0' H' → nx σ' H'
/-- where the def began: its lists, its heap -/
structure Bs (fr : Option Nat) (as0 : List Addr) (Hs : Hp) (as : List Addr) (H : Hp) : Prop where
  len : ∀ n, fr = some n → as0.length = n
  ex : Exs as0 Hs as
  kp : ∀ a, Hs a ≠ none → H a ≠ none
theorem Bs.step {fr : Option Nat} {as0 as as1 : List Addr} {Hs H H1 : Hp} (p : Bs fr as0 Hs as H) (e : Exs as H as1) (k : ∀ a, H a ≠ none → H1 a ≠ none) : Bs fr as0 Hs as1 H1 := ⟨p.len, p.ex.trans e p.kp, fun a h => k a (p.kp a h)⟩
def RtOk (fr : Option Nat) (K : PySem.W.Frag) (Hs : Hp) (as : List Addr) (H0 H : Hp) (rt : VK) (d : PyData) (os' : Os) : Prop := match fr with
  | none => ∀ v as' H0' H', Exs as H as' → Own K as' os' H0' H' → Gr as H0 H H0' H' → Da K H0' v d → rt v H'
  | some _ => ∃ ds, d = .list ds ∧ ∀ p vs as' H0' H', Hs p = none → Exs as H as' → Own K as' os' H0' H' → Gr as H0 H H0' H' → H0' p = none → H' p = some (.lst vs) → DaAll K H0' vs ds → rt (.ref p) H'
/-- an error that leaves: its class, its value -/
def ExOk (K : PySem.W.Frag) (W : WX) (as : List Addr) (H0 H : Hp) (C : Addr) (x : Sl) (ρ' : List Sl) (os' : Os) : Prop := ∀ as' σ' H0' H' d v, Exs as H as' → En K as' ρ' os' σ' H0' H' → Gr as H0 H H0' H' → H0' d = some (.xd [("value", v)]) → ArgOk K as' H0' v x → W (.ref C) (some d) σ' H'
/-- an object of one's own, or data, handed back -/
def RvOk (K : PySem.W.Frag) (as : List Addr) (H0 H : Hp) (rt : VK) (s : Sl) (os' : Os) : Prop := ∀ v as' H0' H', Exs as H as' → Own K as' os' H0' H' → Gr as H0 H H0' H' → ArgOk K as' H0' v s → rt v H'
def OutOk (fr : Option Nat) (K : PySem.W.Frag) (W : WX) (Hs : Hp) (as : List Addr) (H0 H : Hp) (D : Ends) : Out → Prop
  | .nx r w => NxOk K as H0 H D.nx r w
  | .bk r w => NxOk K as H0 H D.bk r w
  | .ct r w => NxOk K as H0 H D.ct r w
  | .rt d w => RtOk fr K Hs as H0 H D.rt d w
  | .ex C x r w => ExOk K W as H0 H C x r w
  | .rv s w => RvOk K as H0 H D.rt s w
def tsO (fr : Option Nat) (K : PySem.W.Frag) (W : WX) (s : SE) : TS := fun D σ H => ∃ as0 Hs as ρ os H0 o, Bs fr as0 Hs as H ∧ En K as ρ os σ H0 H ∧ s ρ os = some o ∧ OutOk fr K W Hs as H0 H D o
section
variable {K : PySem.W.Frag} {as as1 : List Addr} {Hs H0 H H1 H1' : Hp} {fr : Option Nat} {W : WX}
theorem NxOk.step {nx : L2.St → Hp → Prop} {r : List Sl} {w : Os} (e : Exs as H as1) (g : Gr as H0 H H1 H1') (h : NxOk K as H0 H nx r w) : NxOk K as1 H1 H1' nx r w := fun as' σ' H0' H' e2 n2 g2 =>
  h as' σ' H0' H' (e.trans e2 g.kp) n2 (g.trans g2 e.mem)
theorem RtOk.step {rt : VK} {d : PyData} {w : Os} (e : Exs as H as1) (g : Gr as H0 H H1 H1') (h : RtOk fr K Hs as H0 H rt d w) : RtOk fr K Hs as1 H1 H1' rt d w := by
  cases fr with
  | none => exact fun v as' H0' H' e2 n2 g2 r => h v as' H0' H' (e.trans e2 g.kp) n2 (g.trans g2 e.mem) r
  | some _ =>
    obtain ⟨ds, rfl, h⟩ := h
    exact ⟨ds, rfl, fun p vs as' H0' H' hp e2 n2 g2 r1 r2 r3 => h p vs as' H0' H' hp (e.trans e2 g.kp) n2 (g.trans g2 e.mem) r1 r2 r3⟩
theorem ExOk.step {C : Addr} {x : Sl} {r : List Sl} {w : Os} (e : Exs as H as1) (g : Gr as H0 H H1 H1') (h : ExOk K W as H0 H C x r w) : ExOk K W as1 H1 H1' C x r w := fun as' σ' H0' H' d v e2 n2 g2 =>
  h as' σ' H0' H' d v (e.trans e2 g.kp) n2 (g.trans g2 e.mem)
theorem RvOk.step {rt : VK} {s : Sl} {w : Os} (e : Exs as H as1) (g : Gr as H0 H H1 H1') (h : RvOk K as H0 H rt s w) : RvOk K as1 H1 H1' rt s w := fun v as' H0' H' e2 n2 g2 r =>
  h v as' H0' H' (e.trans e2 g.kp) n2 (g.trans g2 e.mem) r
theorem OutOk.step {D : Ends} {o : Out} (e : Exs as H as1) (g : Gr as H0 H H1 H1') (h : OutOk fr K W Hs as H0 H D o) : OutOk fr K W Hs as1 H1 H1' D o := by
  cases o with
  | nx r w => exact NxOk.step e g h
  | bk r w => exact NxOk.step e g h
  | ct r w => exact NxOk.step e g h
  | rt d w => exact RtOk.step e g h
  | ex C x r w => exact ExOk.step e g h
  | rv s w => exact RvOk.step e g h
end
abbrev PSX (X : Cx) (W : WX) (fr : Option Nat) (st : Stmt) (s : SE) : Prop := PS X st (tsO fr X.K W s)
abbrev PSXs (X : Cx) (W : WX) (fr : Option Nat) (sts : List Stmt) (s : SE) : Prop := PSs X sts (tsO fr X.K W s)
section
variable {X : Cx} {W : WX} {fr : Option Nat} {st : Stmt} {rest sts bs : List Stmt} {s s2 : SE} {e c i tg iter : Expr} {xe xi' : XE} {xt : XT} {xg : XG} {js : List Nat} {xi : XI} {pos : Pos}
theorem ps_imp {t t' : TS} (h : PS X st t) (k : ∀ D σ H, t' D σ H → t D σ H) : PS X st t' := ⟨fun pins s σ H D I q => h.run pins s σ H D I (k _ _ _ q)⟩
theorem pss_imp {t t' : TS} (h : PSs X sts t) (k : ∀ D σ H, t' D σ H → t D σ H) : PSs X sts t' := ⟨fun pins s σ H D I q => h.run pins s σ H D I (k _ _ _ q)⟩
def sNext : SE := fun ρ os => some (.nx ρ os)
def sBrk : SE := fun ρ os => some (.bk ρ os)
def sCnt : SE := fun ρ os => some (.ct ρ os)
def sNever : SE := fun _ _ => none
def sSeq (s t : SE) : SE := fun ρ os => (s ρ os).bind fun o => match o with
  | .nx r w => t r w
  | o => some o
theorem psx_nil : PSXs X W fr [] sNext := pss_imp pss_nil fun D σ H q => by
  obtain ⟨as0, Hs, as, ρ, os, H0, o, bs0, n, hx, k⟩ := q
  cases hx
  exact k as σ H0 H Exs.refl n (Gr.refl n.sub)
theorem psx_cons (h1 : PSX X W fr st s) (h2 : PSXs X W fr rest s2) : PSXs X W fr (st :: rest) (sSeq s s2) := pss_imp (pss_cons h1 h2) fun D σ H q => by
  obtain ⟨as0, Hs, as, ρ, os, H0, o, bs0, n, hx, k⟩ := q
  unfold sSeq at hx
  cases h : s ρ os with
  | none => rw [h] at hx; cases hx
  | some o1 =>
    rw [h, Option.bind_some] at hx
    refine ⟨as0, Hs, as, ρ, os, H0, o1, bs0, n, h, ?_⟩
    cases o1 with
    | nx r w => exact fun as' σ' H0' H' e2 n2 g2 => ⟨as0, Hs, as', r, w, H0', o, bs0.step e2 g2.kp, n2, hx, k.step e2 g2⟩
    | bk r w => cases hx; exact k
    | ct r w => cases hx; exact k
    | rt d w => cases hx; exact k
    | ex C x r w => cases hx; exact k
    | rv s w => cases hx; exact k
theorem psx_one (h1 : PSX X W fr st s) : PSXs X W fr [st] s := pss_one h1
theorem psx_pass : PSX X W fr (.Pass pos) sNext := ps_imp ps_pass fun D σ H q => by
  obtain ⟨as0, Hs, as, ρ, os, H0, o, bs0, n, hx, k⟩ := q
  cases hx
  exact k as σ H0 H Exs.refl n (Gr.refl n.sub)
theorem psx_break : PSX X W fr (.Break pos) sBrk := ps_imp ps_break fun D σ H q => by
  obtain ⟨as0, Hs, as, ρ, os, H0, o, bs0, n, hx, k⟩ := q
  cases hx
  exact k as σ H0 H Exs.refl n (Gr.refl n.sub)
theorem psx_continue : PSX X W fr (.Continue pos) sCnt := ps_imp ps_continue fun D σ H q => by
  obtain ⟨as0, Hs, as, ρ, os, H0, o, bs0, n, hx, k⟩ := q
  cases hx
  exact k as σ H0 H Exs.refl n (Gr.refl n.sub)
theorem psx_never : PSX X W fr st sNever := ps_imp ps_never fun D σ H q => by
  obtain ⟨as0, Hs, as, ρ, os, H0, o, bs0, n, hx, k⟩ := q
  cases hx
def sIf (t : XT) (a b : SE) : SE := fun ρ os => (t ρ os).bind fun p => if p.1 = true then a ρ p.2 else b ρ p.2
theorem psx_if (hc : PXT X c xt) (ha : PSXs X W fr sts s) (hb : PSXs X W fr bs s2) : PSX X W fr (.If c sts bs pos) (sIf xt s s2) := ps_imp (ps_if hc ha hb) fun D σ H q => by
  obtain ⟨as0, Hs, as, ρ, os, H0, o, bs0, n, hx, k⟩ := q
  unfold sIf at hx
  cases h : xt ρ os with
  | none => rw [h] at hx; cases hx
  | some p =>
    obtain ⟨b, os1⟩ := p
    rw [h, Option.bind_some] at hx
    refine ⟨as, ρ, os, H0, b, os1, n, h, fun H0' H' n1 g1 => ?_⟩
    cases b with
    | true => exact ⟨as0, Hs, as, ρ, os1, H0', o, bs0.step Exs.refl g1.kp, n1, by simpa using hx, k.step Exs.refl g1⟩
    | false => exact ⟨as0, Hs, as, ρ, os1, H0', o, bs0.step Exs.refl g1.kp, n1, by simpa using hx, k.step Exs.refl g1⟩
/-- target = value -/
def sAsg (xe : XE) (xg : XG) : SE := fun ρ os => (xe ρ os).bind fun p => (xg p.1 ρ).map fun r => .nx r p.2
theorem to_asg {K : PySem.W.Frag} {D : Ends} {σ : L2.St} {H : Hp} (q : tsO fr K W (sAsg xe xg) D σ H) : tAsg (teO K xe) (gO K xg js) D σ H := by
  obtain ⟨as0, Hs, as, ρ, os, H0, o, bs0, n, hx, k⟩ := q
  unfold sAsg at hx
  cases h : xe ρ os with
  | none => rw [h] at hx; cases hx
  | some p =>
    obtain ⟨d, os1⟩ := p
    rw [h, Option.bind_some] at hx
    cases h2 : xg d ρ with
    | none => rw [h2] at hx; cases hx
    | some r =>
      rw [h2] at hx
      cases hx
      exact ⟨as, ρ, os, H0, d, os1, n, h, fun v H0' H' n1 g1 r1 => ⟨as, ρ, os1, H0', d, r, n1, r1, h2, fun σ' n2 _ => k as σ' H0' H' Exs.refl n2 g1⟩⟩
theorem psx_asg (he : PX X e xe) (hg : PXG X tg xg js) (hs : swapsWithSole [tg] e pos.line X.env = pure false := by rfl) (hw : swappedStores [tg] e X.env = pure none := by rfl)
    (h1 : (assignEach [tg] X.env).map (·.2) = [assign tg X.env] := by rfl) : PSX X W fr (.Assign [tg] e pos) (sAsg xe xg) := ps_imp (ps_asg he hg hs hw h1) fun _ _ _ q => to_asg q
/-- name = value -/
theorem psx_set {i : Nat} {x : Str} {pos' : Pos} (hN : X.N.Nodup) (hi : X.N[i]? = some x) (hx : Loc X.env.scope x) (he : PX X e xe) (hs : swapsWith e (some (.Name x pos')) pos.line X.env = pure false := by rfl) (hf : X.fn x = true ∨ X.env.scope.names.lookup x = some .local := by first | exact .inl rfl | exact .inr rfl | assumption) :
    PSX X W fr (.Assign [.Name x pos'] e pos) (sAsg xe (gNm i)) := ps_imp (ps_set hN hi hx he hs hf) fun D σ H q => by
  have q2 := to_asg (js := [i]) q
  obtain ⟨as0, Hs, as, ρ, os, H0, o, bs0, n, hx, k⟩ := q
  unfold sAsg gNm at hx
  cases h : xe ρ os with
  | none => rw [h] at hx; cases hx
  | some p =>
    obtain ⟨d, os1⟩ := p
    rw [h] at hx
    cases hx
    exact ⟨as, ρ, os, H0, d, os1, n, h, fun v H0' H' n1 g1 r1 => k as _ H0' H' Exs.refl (n1.set i r1) g1⟩
/-- name = a new list, one's own from now on -/
def sOwn (i : Nat) (x : XI) : SE := fun ρ os => (x ρ os).map fun p => .nx (ρ.set i (.o p.2.length)) (p.2 ++ [some (.l p.1)])
theorem En.own {K : PySem.W.Frag} {as : List Addr} {ρ : List Sl} {os : Os} {σ : L2.St} {H0 H : Hp} {p : Addr} {ho : HO} {ob : Ob} (n : En K as ρ os σ H0 H) (i : Nat) (h0 : H0 p = none) (hp : p ∉ as) (e : H p = some ho) (r : Cont K as H0 ho ob) :
    En K (as ++ [p]) (ρ.set i (.o os.length)) (os ++ [some ob]) (σ.set i (some (.ref p))) H0 H := by
  have hl := n.ow.len
  refine ⟨n.sub, by rw [List.length_set, List.length_set]; exact n.len, fun j x h => ?_, fun j k h => ?_, ⟨?_, by simp [hl], fun a ha => ?_, fun k a ds' h1 h2 => ?_⟩⟩
  · by_cases e : i = j
    · subst e
      by_cases hl : i < ρ.length
      · rw [List.getElem?_set_self hl] at h
        cases h
      · rw [List.getElem?_eq_none_iff.mpr (by rw [List.length_set]; omega)] at h
        cases h
    · rw [List.getElem?_set_ne e] at h ⊢
      exact n.dat j x h
  · by_cases e2 : i = j
    · subst e2
      by_cases hl2 : i < ρ.length
      · rw [List.getElem?_set_self hl2] at h
        cases h
        exact ⟨p, by rw [← hl]; simp, List.getElem?_set_self (by rw [n.len]; exact hl2)⟩
      · rw [List.getElem?_eq_none_iff.mpr (by rw [List.length_set]; omega)] at h
        cases h
    · rw [List.getElem?_set_ne e2] at h ⊢
      obtain ⟨a, h1, h2⟩ := n.ref j k h
      exact ⟨a, by rw [List.getElem?_append_left (List.getElem?_eq_some_iff.mp h1).1]; exact h1, h2⟩
  · rw [List.nodup_append]
    refine ⟨n.ow.nd, by simp, fun a ha b hb => ?_⟩
    have : b = p := by simpa using hb
    rw [this]
    exact fun z => hp (by rw [← z]; exact ha)
  · rcases List.mem_append.mp ha with z | z
    · exact n.ow.trk a z
    · have : a = p := by simpa using z
      rw [this, e]
      simp
  · by_cases hk : k < as.length
    · rw [List.getElem?_append_left hk] at h1
      rw [List.getElem?_append_left (by omega)] at h2
      obtain ⟨q1, o, q2, q3⟩ := n.ow.at_ k a ds' h1 h2
      exact ⟨q1, o, q2, q3.app⟩
    · by_cases hk2 : k = as.length
      · subst hk2
        rw [List.getElem?_append_right (Nat.le_refl _), Nat.sub_self] at h1
        rw [List.getElem?_append_right (by omega), hl, Nat.sub_self] at h2
        cases h1
        cases h2
        exact ⟨h0, ho, e, r.app⟩
      · rw [List.getElem?_eq_none_iff.mpr (by simp; omega)] at h1
        cases h1
theorem to_own {K : PySem.W.Frag} {x : XI} {i : Nat} {D : Ends} {σ : L2.St} {H : Hp} (q : tsO fr K W (sOwn i x) D σ H) : tAsg (teF K x) (gName i) D σ H := by
  obtain ⟨as0, Hs, as, ρ, os, H0, o, bs0, n, hx, k⟩ := q
  unfold sOwn at hx
  cases h : x ρ os with
  | none => rw [h] at hx; cases hx
  | some p =>
    obtain ⟨ds, os1⟩ := p
    rw [h] at hx
    cases hx
    exact ⟨as, ρ, os, H0, ds, os1, n, h, fun p vs H0' H' hp n1 g1 h2 h3 h4 r => k (as ++ [p]) _ H0' H' ⟨[p], rfl, by simpa using hp⟩ (n1.own i h2 h3 h4 r) g1⟩
theorem psx_own {i : Nat} {y : Str} {pos' : Pos} {x : XI} (hN : X.N.Nodup) (hi : X.N[i]? = some y) (hx : Loc X.env.scope y) (he : PXF X e x) (hs : swapsWith e (some (.Name y pos')) pos.line X.env = pure false := by rfl) (hf : X.fn y = true ∨ X.env.scope.names.lookup y = some .local := by first | exact .inl rfl | exact .inr rfl | assumption) :
    PSX X W fr (.Assign [.Name y pos'] e pos) (sOwn i x) := ps_imp (ps_set hN hi hx he hs hf) fun _ _ _ q => to_own q
/-- e; -/
def sDrop (xe : XE) : SE := fun ρ os => (xe ρ os).map fun p => .nx ρ p.2
theorem psx_expr (he : PX X e xe) (hs : swapsWith e none pos.line X.env = pure false := by rfl) : PSX X W fr (.Expr e pos) (sDrop xe) := ps_imp (ps_expr he hs) fun D σ H q => by
  obtain ⟨as0, Hs, as, ρ, os, H0, o, bs0, n, hx, k⟩ := q
  unfold sDrop at hx
  cases h : xe ρ os with
  | none => rw [h] at hx; cases hx
  | some p =>
    obtain ⟨d, os1⟩ := p
    rw [h] at hx
    cases hx
    exact ⟨as, ρ, os, H0, d, os1, n, h, fun v H0' H' n1 g1 r1 => k as σ H0' H' Exs.refl n1 g1⟩
/-- return -/
def sRet (xe : XE) : SE := fun ρ os => (xe ρ os).map fun p => .rt p.1 p.2
theorem psx_ret (he : PX X e xe) : PSX X W none (.Return (some e) pos) (sRet xe) := ps_imp (ps_ret he) fun D σ H q => by
  obtain ⟨as0, Hs, as, ρ, os, H0, o, bs0, n, hx, k⟩ := q
  unfold sRet at hx
  cases h : xe ρ os with
  | none => rw [h] at hx; cases hx
  | some p =>
    obtain ⟨d, os1⟩ := p
    rw [h] at hx
    cases hx
    exact ⟨as, ρ, os, H0, d, os1, n, h, fun v H0' H' n1 g1 r1 => k v as H0' H' Exs.refl n1.ow g1 r1⟩
def sRetF (x : XI) : SE := fun ρ os => (x ρ os).map fun p => .rt (.list p.1) p.2
theorem psx_retF {x : XI} {n0 : Nat} (he : PXF X e x) : PSX X W (some n0) (.Return (some e) pos) (sRetF x) := ps_imp (ps_ret he) fun D σ H q => by
  obtain ⟨as0, Hs, as, ρ, os, H0, o, bs0, n, hx, k⟩ := q
  unfold sRetF at hx
  cases h : x ρ os with
  | none => rw [h] at hx; cases hx
  | some p =>
    obtain ⟨ds, os1⟩ := p
    rw [h] at hx
    cases hx
    obtain ⟨ds', e1, k⟩ := k
    cases e1
    exact ⟨as, ρ, os, H0, ds, os1, n, h, fun p vs H0' H' hp n1 g1 h2 h3 h4 r => k p vs as H0' H' (by
      cases z : Hs p with
      | none => rfl
      | some u => exact absurd hp (bs0.kp p (by rw [z]; simp))) Exs.refl n1.ow g1 h2 h4 r⟩
def sRetN : SE := fun _ os => some (.rt .none os)
theorem psx_retN : PSX X W none (.Return none pos) sRetN := ps_imp ps_retN fun D σ H q => by
  obtain ⟨as0, Hs, as, ρ, os, H0, o, bs0, n, hx, k⟩ := q
  cases hx
  exact k _ as H0 H Exs.refl n.ow (Gr.refl n.sub) .non
/-- for -/
def forRun (xg : XG) (b : SE) : List PyData → List Sl → Os → Option Out
  | [], ρ, os => some (.nx ρ os)
  | d :: r, ρ, os => (xg d ρ).bind fun ρ1 => (b ρ1 os).bind fun o => match o with
    | .nx ρ2 w => forRun xg b r ρ2 w
    | .ct ρ2 w => forRun xg b r ρ2 w
    | .bk ρ2 w => some (.nx ρ2 w)
    | .rt d w => some (.rt d w)
    | .ex C x r w => some (.ex C x r w)
    | .rv s w => some (.rv s w)
def sFor (xi : XI) (xg : XG) (b : SE) : SE := fun ρ os => (xi ρ os).bind fun p => forRun xg b p.1 ρ p.2
theorem psx_for (hp : PassesOwn (model X.prog X.w) X.A X.env X.xe) (hc : X.calm = true) (hi : PXI X tg iter xi) (hg : PXG X tg xg js) (hb : PSXs X W fr sts s) (hs : ∀ x, foldedSetIterable iter X.env x = pure x := by intro _; rfl) :
    PSX X W fr (.For tg iter sts [] pos) (sFor xi xg s) := ps_imp (ps_for hp hc hi hg hb hs) fun D σ H q => by
  obtain ⟨as0, Hs, as, ρ, os, H0, o, bs0, n, hx, k⟩ := q
  unfold sFor at hx
  cases h : xi ρ os with
  | none => rw [h] at hx; cases hx
  | some p =>
    obtain ⟨items, os1⟩ := p
    rw [h, Option.bind_some] at hx
    refine ⟨as, ρ, os, H0, items, os1, n, h, fun J Ha Hb n1 g1 w => ?_⟩
    have kk := k.step Exs.refl g1
    refine ⟨fun i m σ2 H2 => m = items.length - i ∧ i ≤ items.length ∧ ∃ as2 ρ2 os2 H2', Exs as Hb as2 ∧ En X.K as2 ρ2 os2 σ2 H2' H2 ∧ Gr as Ha Hb H2' H2 ∧ forRun xg s (items.drop i) ρ2 os2 = some o,
      ⟨items.length, by simp, Nat.zero_le _, as, ρ, os1, Ha, Exs.refl, n1, Gr.refl n1.sub, hx⟩, ?_⟩
    rintro i m σ2 H2 ⟨rfl, hi, as2, ρ2, os2, H2', e2, n2, g2, hr⟩
    by_cases hlt : i < items.length
    · refine .inr ⟨w.goes i H2 hlt (g2.e0.trans n2.sub), fun σ3 H3 => ∃ as2 ρ2 os2 H2', Exs as Hb as2 ∧ En X.K as2 ρ2 os2 σ3 H2' H3 ∧ Gr as Ha Hb H2' H3 ∧ forRun xg s (items.drop (i + 1)) ρ2 os2 = some o,
        fun σ3 H3 p3 => ⟨items.length - (i + 1), by omega, rfl, hlt, p3⟩, fun x H3 y => ?_⟩
      obtain ⟨H3', d, g3, hd, r3⟩ := w.yields i H2 x H3 H2' hlt g2.e0 n2.sub y
      have n3 := n2.grow g3
      have e3 : items.drop i = d :: items.drop (i + 1) := by
        obtain ⟨_, e⟩ := List.getElem?_eq_some_iff.mp hd
        rw [← e]
        exact List.drop_eq_getElem_cons hlt
      rw [e3] at hr
      simp only [forRun] at hr
      cases q1 : xg d ρ2 with
      | none => rw [q1] at hr; cases hr
      | some ρ3 =>
        rw [q1, Option.bind_some] at hr
        refine ⟨as2, ρ2, os2, H3', d, ρ3, n3, r3, q1, fun σ4 n4 _ => ?_⟩
        cases q2 : s ρ3 os2 with
        | none => rw [q2] at hr; cases hr
        | some ob =>
          rw [q2, Option.bind_some] at hr
          have g23 : Gr as Ha Hb H3' H3 := g2.tr0 g3
          have g23' : Gr as H0 H H3' H3 := g1.tr g23
          have e2' : Exs as H as2 := Exs.refl.trans e2 g1.kp
          refine ⟨as0, Hs, as2, ρ3, os2, H3', ob, bs0.step e2' g23'.kp, n4, q2, ?_⟩
          cases ob with
          | nx r4 w4 => exact fun as5 σ5 H5' H5 e5 n5 g5 => ⟨as5, r4, w4, H5', e2.trans e5 g23.kp, n5, g23.trans g5 e2.mem, hr⟩
          | ct r4 w4 => exact fun as5 σ5 H5' H5 e5 n5 g5 => ⟨as5, r4, w4, H5', e2.trans e5 g23.kp, n5, g23.trans g5 e2.mem, hr⟩
          | bk r4 w4 =>
            cases hr
            exact NxOk.step (H1' := H3) e2 g23 kk
          | rt d4 w4 =>
            cases hr
            exact RtOk.step (H1' := H3) e2 g23 kk
          | ex C x r4 w4 =>
            cases hr
            exact ExOk.step (H1' := H3) e2 g23 kk
          | rv s4 w4 =>
            cases hr
            exact RvOk.step (H1' := H3) e2 g23 kk
    · have e : items.drop i = [] := List.drop_eq_nil_of_le (by omega)
      rw [e] at hr
      cases hr
      have ei : i = items.length := by omega
      subst ei
      exact .inl ⟨w.stops H2 (g2.e0.trans n2.sub), kk as2 σ2 H2' H2 e2 n2 g2⟩
/-- while, with fuel -/
def whRun (t : XT) (b : SE) : Nat → List Sl → Os → Option Out
  | 0, _, _ => none
  | m + 1, ρ, os => (t ρ os).bind fun p => if p.1 = true then (b ρ p.2).bind fun o => match o with
    | .nx ρ2 w => whRun t b m ρ2 w
    | .ct ρ2 w => whRun t b m ρ2 w
    | .bk ρ2 w => some (.nx ρ2 w)
    | .rt d w => some (.rt d w)
    | .ex C x r w => some (.ex C x r w)
    | .rv s w => some (.rv s w)
    else some (.nx ρ p.2)
end
end DL

set_option Elab.async false
set_option linter.all false
set_option maxRecDepth 100000
set_option maxHeartbeats 4000000
namespace DL
open PySem PySem.Spec PyProof.Rows L2 Evl
section
variable {X : Cx} {W : WX} {fr : Option Nat} {sts : List Stmt} {s : SE} {a b e c o : Expr} {es : List Expr} {xe xa xb : XE} {xt : XT} {ra : XA} {pos p apos : Pos} {x : Str}
/-! while -/
def sWhile (fuel : Nat) (t : XT) (b : SE) : SE := fun ρ os => whRun t b fuel ρ os
theorem psx_while {fuel : Nat} (hp : PassesOwn (model X.prog X.w) X.A X.env X.xe) (hc : PXT X c xt) (hb : PSXs X W fr sts s) : PSX X W fr (.While c sts [] pos) (sWhile fuel xt s) := ps_imp (ps_while hp hc hb) fun D σ H q => by
  obtain ⟨as0, Hs, as, ρ, os, H0, o, bs0, n, hx, k⟩ := q
  refine ⟨fun m σ2 H2 => ∃ as2 ρ2 os2 H2', Exs as H as2 ∧ En X.K as2 ρ2 os2 σ2 H2' H2 ∧ Gr as H0 H H2' H2 ∧ whRun xt s m ρ2 os2 = some o, ⟨fuel, as, ρ, os, H0, Exs.refl, n, Gr.refl n.sub, hx⟩, ?_⟩
  rintro m σ2 H2 ⟨as2, ρ2, os2, H2', e2, n2, g2, hr⟩
  cases m with
  | zero => cases hr
  | succ m =>
    simp only [whRun] at hr
    cases q1 : xt ρ2 os2 with
    | none => rw [q1] at hr; cases hr
    | some p =>
      obtain ⟨bb, os3⟩ := p
      rw [q1, Option.bind_some] at hr
      refine ⟨as2, ρ2, os2, H2', bb, os3, n2, q1, fun H3' H3 n3 g3 => ?_⟩
      have g23 : Gr as H0 H H3' H3 := g2.trans g3 e2.mem
      cases bb with
      | false =>
        simp only [Bool.false_eq_true, if_false] at hr ⊢
        cases hr
        exact k as2 σ2 H3' H3 e2 n3 g23
      | true =>
        simp only [if_true] at hr ⊢
        cases q2 : s ρ2 os3 with
        | none => rw [q2] at hr; cases hr
        | some ob =>
          rw [q2, Option.bind_some] at hr
          refine ⟨fun σ3 H4 => ∃ as2 ρ2 os2 H2', Exs as H as2 ∧ En X.K as2 ρ2 os2 σ3 H2' H4 ∧ Gr as H0 H H2' H4 ∧ whRun xt s m ρ2 os2 = some o, fun σ3 H4 p4 => ⟨m, Nat.lt_succ_self m, p4⟩, as0, Hs, as2, ρ2, os3, H3', ob, bs0.step e2 g23.kp, n3, q2, ?_⟩
          cases ob with
          | nx r4 w4 => exact fun as5 σ5 H5' H5 e5 n5 g5 => ⟨as5, r4, w4, H5', e2.trans e5 g23.kp, n5, g23.trans g5 e2.mem, hr⟩
          | ct r4 w4 => exact fun as5 σ5 H5' H5 e5 n5 g5 => ⟨as5, r4, w4, H5', e2.trans e5 g23.kp, n5, g23.trans g5 e2.mem, hr⟩
          | bk r4 w4 =>
            cases hr
            exact NxOk.step e2 g23 k
          | rt d4 w4 =>
            cases hr
            exact RtOk.step e2 g23 k
          | ex C x r4 w4 =>
            cases hr
            exact ExOk.step e2 g23 k
          | rv s4 w4 =>
            cases hr
            exact RvOk.step e2 g23 k

/-! lists of one's own: read, grown, stored -/
/-- a list of one's own changes -/
theorem Gr.mut {as : List Addr} {H0 H : Hp} {a : Addr} {o : HO} (s : Ex H0 H) (h : a ∈ as) (n : H0 a = none) (t : H a ≠ none) : Gr as H0 H H0 (upd H a o) :=
  ⟨Ex.refl _, fun b u hb e => by rw [upd_ne (fun z => hb (by rw [z]; exact h))]; exact e, fun _ _ _ e _ => e, fun b hb => by
    by_cases z : b = a
    · subst z
      rw [upd_same]
      simp
    · rw [upd_ne z]
      exact hb, fun b u e => by rw [upd_ne (ne_of_none e n)]; exact s b u e⟩
theorem Own.mut {K : PySem.W.Frag} {as : List Addr} {os : Os} {H0 H : Hp} {a : Addr} {k : Nat} {ho : HO} {ob ob0 : Ob} (w : Own K as os H0 H) (h : as[k]? = some a) (h0 : os[k]? = some (some ob0)) (r : Cont K as H0 ho ob) : Own K as (os.set k (some ob)) H0 (upd H a ho) := by
  refine ⟨w.nd, by rw [List.length_set]; exact w.len, fun b hb => ?_, fun j b es h1 h2 => ?_⟩
  · by_cases z : b = a
    · subst z
      rw [upd_same]
      simp
    · rw [upd_ne z]
      exact w.trk b hb
  · by_cases e : k = j
    · subst e
      rw [h] at h1
      cases h1
      rw [List.getElem?_set_self (List.getElem?_eq_some_iff.mp h0).1] at h2
      cases h2
      exact ⟨(w.at_ k a ob0 h h0).1, ho, upd_same, r⟩
    · rw [List.getElem?_set_ne e] at h2
      obtain ⟨q1, us, q2, q3⟩ := w.at_ j b es h1 h2
      refine ⟨q1, us, ?_, q3⟩
      rw [upd_ne]
      · exact q2
      · intro z
        subst z
        exact e (nd_ix w.nd h h1)
theorem En.mut {K : PySem.W.Frag} {as : List Addr} {ρ : List Sl} {os : Os} {σ : L2.St} {H0 H : Hp} {a : Addr} {k : Nat} {ho : HO} {ob ob0 : Ob} (n : En K as ρ os σ H0 H) (h : as[k]? = some a) (h0 : os[k]? = some (some ob0)) (r : Cont K as H0 ho ob) : En K as ρ (os.set k (some ob)) σ H0 (upd H a ho) :=
  ⟨fun b u e => by rw [upd_ne (ne_of_none e (n.ow.at_ k a ob0 h h0).1)]; exact n.sub b u e, n.len, n.dat, n.ref, n.ow.mut h h0 r⟩
def ownAt (ρ : List Sl) (os : Os) (i : Nat) : Option (Nat × List PyData) := match ρ[i]? with
  | some (.o k) => match os[k]? with
    | some (some (.l ds)) => some (k, ds)
    | _ => none
  | _ => none
theorem ownAt_some {ρ : List Sl} {os : Os} {i k : Nat} {ds : List PyData} (h : ownAt ρ os i = some (k, ds)) : ρ[i]? = some (.o k) ∧ os[k]? = some (some (.l ds)) := by
  unfold ownAt at h
  split at h
  · rename_i k' h1
    split at h
    · rename_i ds' h2
      cases h
      exact ⟨h1, h2⟩
    · cases h
  · cases h
/-- x.append(e) -/
def sApp (i : Nat) (xe : XE) : SE := fun ρ os => (ownAt ρ os i).bind fun _ => (xe ρ os).bind fun p => (ownAt ρ p.2 i).bind fun q => if q.2.length < sizeLine then some (.nx ρ (p.2.set q.1 (some (.l (q.2 ++ [p.1]))))) else none
theorem psx_app {i : Nat} (h : PS X (.Expr e pos) (tDrop (tBM X.K "list" rAppend (tVar i) (tCons (teO X.K xe) tNil)))) : PSX X W fr (.Expr e pos) (sApp i xe) := ps_imp h fun D σ H q => by
  obtain ⟨as0, Hs, as, ρ, os, H0, o, bs0, n, hx, k⟩ := q
  unfold sApp at hx
  cases h0 : ownAt ρ os i with
  | none => rw [h0] at hx; cases hx
  | some q0 =>
  obtain ⟨j0, ds0⟩ := q0
  rw [h0, Option.bind_some] at hx
  cases h1 : xe ρ os with
  | none => rw [h1] at hx; cases hx
  | some p =>
    obtain ⟨d, os1⟩ := p
    rw [h1, Option.bind_some] at hx
    cases h2 : ownAt ρ os1 i with
    | none => rw [h2] at hx; cases hx
    | some q =>
      obtain ⟨j, ds⟩ := q
      rw [h2, Option.bind_some] at hx
      simp only at hx
      split at hx
      · rename_i hz
        cases hx
        obtain ⟨h3, h4⟩ := ownAt_some h2
        obtain ⟨h5, h6⟩ := ownAt_some h0
        obtain ⟨adr, e1, e2⟩ := n.ref i j h3
        have ej : j0 = j := by
          rw [h3] at h5
          cases h5
          rfl
        subst ej
        have hm : adr ∈ as := List.mem_of_getElem? e1
        obtain ⟨_, vs0, q0, _⟩ := n.ow.l j0 adr ds0 e1 h6
        refine ⟨_, e2, .inl ⟨rfl, vs0, SqL.of q0⟩, as, ρ, os, H0, d, os1, n, h1, fun v H0' H' n1 g1 r1 => ?_⟩
        obtain ⟨q1, vs, q2, q3⟩ := n1.ow.l j0 adr ds e1 h4
        refine ⟨adr, vs, v, rfl, rfl, q2, by rw [q3.len]; exact hz, ?_⟩
        exact k as σ H0' _ Exs.refl (n1.mut e1 h4 (q3.app (.cons r1 .nil))) (g1.tr (Gr.mut n1.sub hm q1 (n1.ow.trk _ hm)))
      · cases hx
/-- x[j] = e -/
def sSet (i : Nat) (xi xe : XE) : SE := fun ρ os => (xe ρ os).bind fun p => (xi ρ p.2).bind fun r => match r.1 with
  | .int k => (ownAt ρ r.2 i).bind fun q => (ixN q.2.length k).map fun m => .nx ρ (r.2.set q.1 (some (.l (q.2.set m p.1))))
  | _ => none
theorem psx_setItem {i : Nat} {xi : XE} {st : Stmt} (h : PS X st (tAsg (teO X.K xe) (gSub (tVar i) (teO X.K xi) rSetL))) : PSX X W fr st (sSet i xi xe) := ps_imp h fun D σ H q => by
  obtain ⟨as0, Hs, as, ρ, os, H0, o, bs0, n, hx, k⟩ := q
  unfold sSet at hx
  cases h1 : xe ρ os with
  | none => rw [h1] at hx; cases hx
  | some p =>
    obtain ⟨d, os1⟩ := p
    rw [h1, Option.bind_some] at hx
    cases h2 : xi ρ os1 with
    | none => rw [h2] at hx; cases hx
    | some r =>
      obtain ⟨y, os2⟩ := r
      rw [h2, Option.bind_some] at hx
      cases y with
      | int kk =>
        simp only at hx
        cases h3 : ownAt ρ os2 i with
        | none => rw [h3] at hx; cases hx
        | some q =>
          obtain ⟨j, ds⟩ := q
          rw [h3, Option.bind_some] at hx
          simp only at hx
          cases h4 : ixN ds.length kk with
          | none => rw [h4] at hx; cases hx
          | some m =>
            rw [h4] at hx
            cases hx
            obtain ⟨h5, h6⟩ := ownAt_some h3
            obtain ⟨adr, e1, e2⟩ := n.ref i j h5
            have hm : adr ∈ as := List.mem_of_getElem? e1
            refine ⟨as, ρ, os, H0, d, os1, n, h1, fun v H0' H' n1 g1 r1 => ⟨_, e2, as, ρ, os1, H0', _, os2, n1, h2, fun w H0'' H'' n2 g2 r2 => ?_⟩⟩
            have ew := da_intI r2
            subst ew
            obtain ⟨q1, vs, q2, q3⟩ := n2.ow.l j adr ds e1 h6
            refine ⟨adr, vs, kk, m, rfl, rfl, q2, by rw [q3.len]; exact h4, ?_⟩
            exact k as σ H0'' _ Exs.refl (n2.mut e1 h6 (q3.set m (Da.mono g2.e0 _ _ r1))) ((g1.tr g2).tr (Gr.mut n2.sub hm q1 (n2.ow.trk _ hm)))
      | _ => cases hx
/-- len(x), x one's own -/
def xLenO (i : Nat) : XE := fun ρ os => (ownAt ρ os i).map fun q => (.int (q.2.length : Int), os)
theorem px_lenO {i : Nat} (h : PE X e (tCB (rLenS X.K) (tCons (tVar i) tNil))) : PX X e (xLenO i) := pe_imp h fun σ H Q q => by
  obtain ⟨as, ρ, os, H0, d, os', n, hx, k⟩ := q
  unfold xLenO at hx
  cases h2 : ownAt ρ os i with
  | none => rw [h2] at hx; cases hx
  | some q =>
    obtain ⟨j, ds⟩ := q
    rw [h2] at hx
    cases hx
    obtain ⟨h3, h4⟩ := ownAt_some h2
    obtain ⟨adr, e1, e2⟩ := n.ref i j h3
    obtain ⟨q1, vs, q2, q3⟩ := n.ow.l j adr ds e1 h4
    refine ⟨_, e2, adr, vs, rfl, .inl (SqL.of q2), ?_⟩
    rw [q3.len]
    exact k _ H0 H n (Gr.refl n.sub) (.int _)
/-- x[j], x one's own -/
def xIxO (i : Nat) (xi : XE) : XE := fun ρ os => (xi ρ os).bind fun r => match r.1 with
  | .int k => (ownAt ρ r.2 i).bind fun q => (atI q.2 k).map fun d => (d, r.2)
  | _ => none
theorem DaAll.atI {K : PySem.W.Frag} {H : Hp} {vs : List V} {ds : List PyData} {k : Int} {d : PyData} (h : DaAll K H vs ds) (e : L2.atI ds k = some d) : ∃ v, L2.atI vs k = some v ∧ Da K H v d := by
  unfold L2.atI at e ⊢
  rw [h.len]
  cases q : ixN ds.length k with
  | none => rw [q] at e; cases e
  | some j =>
    rw [q, Option.bind_some] at e
    obtain ⟨v, h1, h2⟩ := h.at_ e
    exact ⟨v, by rw [Option.bind_some]; exact h1, h2⟩
theorem px_ixO {i : Nat} {xi : XE} (h : PE X e (tOp (rIxL X.K) (tVar i) (teO X.K xi))) : PX X e (xIxO i xi) := pe_imp h fun σ H Q q => by
  obtain ⟨as, ρ, os, H0, d, os', n, hx, k⟩ := q
  unfold xIxO at hx
  cases h1 : xi ρ os with
  | none => rw [h1] at hx; cases hx
  | some r =>
    obtain ⟨y, os1⟩ := r
    rw [h1, Option.bind_some] at hx
    cases y with
    | int kk =>
      simp only at hx
      cases h2 : ownAt ρ os1 i with
      | none => rw [h2] at hx; cases hx
      | some q =>
        obtain ⟨j, ds⟩ := q
        rw [h2, Option.bind_some] at hx
        cases h5 : L2.atI ds kk with
        | none => rw [h5] at hx; cases hx
        | some d1 =>
          rw [h5] at hx
          cases hx
          obtain ⟨h3, h4⟩ := ownAt_some h2
          obtain ⟨adr, e1, e2⟩ := n.ref i j h3
          refine ⟨_, e2, as, ρ, os, H0, _, _, n, h1, fun v H0' H' n1 g1 r1 => ?_⟩
          have ev := da_intI r1
          subst ev
          obtain ⟨q1, vs, q2, q3⟩ := n1.ow.l j adr ds e1 h4
          obtain ⟨w, q4, q5⟩ := q3.atI h5
          exact ⟨adr, vs, kk, w, rfl, rfl, SqL.of q2, q4, k w H0' H' n1 g1 q5⟩
    | _ => cases hx
/-- a list of one's own becomes plain data -/
def sFrz (i : Nat) (s : SE) : SE := fun ρ os => (ownAt ρ os i).bind fun q => s (ρ.set i (.d (.list q.2))) (os.set q.1 none)
theorem to_frz {K : PySem.W.Frag} {i : Nat} {D : Ends} {σ : L2.St} {H : Hp} (q : tsO fr K W (sFrz i s) D σ H) : tsO fr K W s D σ H := by
  obtain ⟨as0, Hs, as, ρ, os, H0, o, bs0, n, hx, k⟩ := q
  unfold sFrz at hx
  cases h2 : ownAt ρ os i with
  | none => rw [h2] at hx; cases hx
  | some q =>
    obtain ⟨j, ds⟩ := q
    rw [h2, Option.bind_some] at hx
    obtain ⟨h3, h4⟩ := ownAt_some h2
    obtain ⟨adr, e1, e2⟩ := n.ref i j h3
    obtain ⟨q1, vs, q2, q3⟩ := n.ow.l j adr ds e1 h4
    have hm : adr ∈ as := List.mem_of_getElem? e1
    have sub : Ex (upd H0 adr (.lst vs)) H := fun a u e => by
      by_cases z : a = adr
      · subst z
        rw [upd_same] at e
        rw [← e]
        exact q2
      · rw [upd_ne z] at e
        exact n.sub a u e
    have g : Gr as H0 H (upd H0 adr (.lst vs)) H := ⟨Ex.new q1, fun _ _ _ e => e, fun a u m e _ => by
      rw [upd_ne (fun z => m (by rw [z]; exact hm))] at e
      exact e, fun _ h => h, sub⟩
    have n2 : En K as ρ (os.set j none) σ (upd H0 adr (.lst vs)) H := ⟨sub, n.len, fun i x h => by
      obtain ⟨v, e1, r⟩ := n.dat i x h
      exact ⟨v, e1, r.mono (Ex.new q1)⟩, n.ref, n.ow.nd, by rw [List.length_set]; exact n.ow.len, n.ow.trk, fun m b es h1 h5 => by
        by_cases z : j = m
        · subst z
          rw [List.getElem?_set_self (List.getElem?_eq_some_iff.mp h4).1] at h5
          cases h5
        · rw [List.getElem?_set_ne z] at h5
          obtain ⟨w1, us, w2, w3⟩ := n.ow.at_ m b es h1 h5
          refine ⟨?_, us, w2, w3.mono (Ex.new q1)⟩
          rw [upd_ne]
          · exact w1
          · intro y
            subst y
            exact z (nd_ix n.ow.nd e1 h1)⟩
    have n3 := n2.set i (v := .ref adr) (d := .list ds) (.lst (SqL.of upd_same) (q3.mono (Ex.new q1)))
    have es : σ.set i (some (.ref adr)) = σ := by
      refine List.ext_getElem? fun m => ?_
      by_cases z : i = m
      · subst z
        rw [List.getElem?_set_self (List.getElem?_eq_some_iff.mp e2).1]
        exact e2.symm
      · rw [List.getElem?_set_ne z]
    rw [es] at n3
    exact ⟨as0, Hs, as, _, _, _, o, bs0, n3, hx, k.step Exs.refl g⟩
theorem psx_frz {st : Stmt} (i : Nat) (h : PSX X W fr st s) : PSX X W fr st (sFrz i s) := ps_imp h fun _ _ _ q => to_frz q
theorem psxs_frz (i : Nat) (h : PSXs X W fr sts s) : PSXs X W fr sts (sFrz i s) := pss_imp h fun _ _ _ q => to_frz q
/-- return x, x one's own -/
def sRetO (n0 i : Nat) : SE := fun ρ os => (ownAt ρ os i).bind fun q => if n0 ≤ q.1 then some (.rt (.list q.2) (os.set q.1 none)) else none
theorem psx_retO {i n0 : Nat} (h : PE X e (tVar i)) : PSX X W (some n0) (.Return (some e) pos) (sRetO n0 i) := ps_imp (ps_ret h) fun D σ H q => by
  obtain ⟨as0, Hs, as, ρ, os, H0, o, bs0, n, hx, k⟩ := q
  unfold sRetO at hx
  cases h2 : ownAt ρ os i with
  | none => rw [h2] at hx; cases hx
  | some q =>
    obtain ⟨j, ds⟩ := q
    rw [h2, Option.bind_some] at hx
    simp only at hx
    split at hx
    · rename_i hj
      cases hx
      obtain ⟨ds', e0, k⟩ := k
      cases e0
      obtain ⟨h3, h4⟩ := ownAt_some h2
      obtain ⟨adr, e1, e2⟩ := n.ref i j h3
      obtain ⟨q1, vs, q2, q3⟩ := n.ow.l j adr ds e1 h4
      refine ⟨_, e2, k adr vs as H0 H ?_ Exs.refl ⟨n.ow.nd, by rw [List.length_set]; exact n.ow.len, n.ow.trk, fun m b es h1 h5 => ?_⟩ (Gr.refl n.sub) q1 q2 q3⟩
      · obtain ⟨bb, rfl, hb⟩ := bs0.ex
        have hl := bs0.len n0 rfl
        rw [List.getElem?_append_right (by omega)] at e1
        exact hb adr (List.mem_of_getElem? e1)
      · by_cases z : j = m
        · subst z
          rw [List.getElem?_set_self (List.getElem?_eq_some_iff.mp h4).1] at h5
          cases h5
        · rw [List.getElem?_set_ne z] at h5
          exact n.ow.at_ m b es h1 h5
    · cases hx
end
end DL

set_option Elab.async false
set_option linter.all false
set_option maxRecDepth 100000
set_option maxHeartbeats 4000000
namespace DL
open PySem PySem.Spec PyProof.Rows L2 Evl
/-! ### built-ins -/
def lenD : List PyData → Option PyData
  | [.list c] => some (.int (c.length : Int))
  | [.tuple c] => some (.int (c.length : Int))
  | [.str x] => if x.length ≤ sizeLine then some (.int (x.length : Int)) else none
  | _ => none
def intD : List PyData → Option PyData
  | [.int i] => some (.int i)
  | [.bool b] => some (.int (if b then 1 else 0))
  | _ => none
def intsOf : List PyData → Option (List Int)
  | [] => some []
  | .int i :: r => (intsOf r).map (i :: ·)
  | _ => none
def boolsOf : List PyData → Option (List Bool)
  | [] => some []
  | .bool i :: r => (boolsOf r).map (i :: ·)
  | _ => none
theorem intsOf_eq : ∀ {ds : List PyData} {ns : List Int}, intsOf ds = some ns → ds = ns.map PyData.int
  | [], _, h => by cases h; rfl
  | d :: r, ns, h => by
    cases d with
    | int i =>
      simp only [intsOf] at h
      cases q : intsOf r with
      | none => rw [q] at h; cases h
      | some ms =>
        rw [q] at h
        cases h
        rw [intsOf_eq q]
        rfl
    | _ => cases h
theorem intsOf_map : ∀ ns : List Int, intsOf (ns.map PyData.int) = some ns
  | [] => rfl
  | n :: r => by
    show (intsOf (r.map PyData.int)).map (n :: ·) = _
    rw [intsOf_map r]
    rfl
theorem boolsOf_eq : ∀ {ds : List PyData} {ns : List Bool}, boolsOf ds = some ns → ds = ns.map PyData.bool
  | [], _, h => by cases h; rfl
  | d :: r, ns, h => by
    cases d with
    | bool i =>
      simp only [boolsOf] at h
      cases q : boolsOf r with
      | none => rw [q] at h; cases h
      | some ms =>
        rw [q] at h
        cases h
        rw [boolsOf_eq q]
        rfl
    | _ => cases h
theorem boolsOf_map : ∀ ns : List Bool, boolsOf (ns.map PyData.bool) = some ns
  | [] => rfl
  | n :: r => by
    show (boolsOf (r.map PyData.bool)).map (n :: ·) = _
    rw [boolsOf_map r]
    rfl
def maxL : List Int → Int
  | [] => 0
  | n :: r => r.foldl (fun a b => if a < b then b else a) n
def minL : List Int → Int
  | [] => 0
  | n :: r => r.foldl (fun a b => if b < a then b else a) n
theorem maxF_spec : ∀ (r : List Int) (n : Int), (r.foldl (fun a b => if a < b then b else a) n ∈ n :: r) ∧ ∀ y ∈ n :: r, y ≤ r.foldl (fun a b => if a < b then b else a) n
  | [], n => ⟨by simp, fun y h => by simp at h; rw [h]; exact Int.le_refl _⟩
  | m :: r, n => by
    have ih := maxF_spec r (if n < m then m else n)
    simp only [List.foldl_cons]
    refine ⟨?_, fun y h => ?_⟩
    · rcases List.mem_cons.mp ih.1 with z | z
      · rw [z]
        split <;> simp
      · exact List.mem_cons_of_mem _ (List.mem_cons_of_mem _ z)
    · have h0 := ih.2 _ (List.mem_cons_self)
      rcases List.mem_cons.mp h with z | z
      · rw [z]
        exact Int.le_trans (by split <;> omega) h0
      · rcases List.mem_cons.mp z with z | z
        · rw [z]
          exact Int.le_trans (by split <;> omega) h0
        · exact ih.2 y (List.mem_cons_of_mem _ z)
theorem minF_spec : ∀ (r : List Int) (n : Int), (r.foldl (fun a b => if b < a then b else a) n ∈ n :: r) ∧ ∀ y ∈ n :: r, r.foldl (fun a b => if b < a then b else a) n ≤ y
  | [], n => ⟨by simp, fun y h => by simp at h; rw [h]; exact Int.le_refl _⟩
  | m :: r, n => by
    have ih := minF_spec r (if m < n then m else n)
    simp only [List.foldl_cons]
    refine ⟨?_, fun y h => ?_⟩
    · rcases List.mem_cons.mp ih.1 with z | z
      · rw [z]
        split <;> simp
      · exact List.mem_cons_of_mem _ (List.mem_cons_of_mem _ z)
    · have h0 := ih.2 _ (List.mem_cons_self)
      rcases List.mem_cons.mp h with z | z
      · rw [z]
        exact Int.le_trans h0 (by split <;> omega)
      · rcases List.mem_cons.mp z with z | z
        · rw [z]
          exact Int.le_trans h0 (by split <;> omega)
        · exact ih.2 y (List.mem_cons_of_mem _ z)
theorem maxL_mem {ns : List Int} (h : 0 < ns.length) : maxL ns ∈ ns := by
  cases ns with
  | nil => cases h
  | cons n r => exact (maxF_spec r n).1
theorem maxL_ge {ns : List Int} {y : Int} (h : y ∈ ns) : y ≤ maxL ns := by
  cases ns with
  | nil => cases h
  | cons n r => exact (maxF_spec r n).2 y h
theorem minL_mem {ns : List Int} (h : 0 < ns.length) : minL ns ∈ ns := by
  cases ns with
  | nil => cases h
  | cons n r => exact (minF_spec r n).1
theorem minL_le {ns : List Int} {y : Int} (h : y ∈ ns) : minL ns ≤ y := by
  cases ns with
  | nil => cases h
  | cons n r => exact (minF_spec r n).2 y h
def maxD : List PyData → Option PyData
  | [.int a, .int b] => some (.int (if b > a then b else a))
  | [.list c] => (intsOf c).bind fun ns => if 0 < ns.length then some (.int (maxL ns)) else none
  | _ => none
def minD : List PyData → Option PyData
  | [.int a, .int b] => some (.int (if b < a then b else a))
  | [.list c] => (intsOf c).bind fun ns => if 0 < ns.length then some (.int (minL ns)) else none
  | _ => none
def sumD : List PyData → Option PyData
  | [.list c] => (intsOf c).map fun ns => .int ns.sum
  | _ => none
def allD : List PyData → Option PyData
  | [.list c] => (boolsOf c).map fun ns => .bool (ns.all id)
  | _ => none
def anyD : List PyData → Option PyData
  | [.list c] => (boolsOf c).map fun ns => .bool (ns.any id)
  | _ => none
def plainRepr (d : PyData) : Bool := match d with
  | .dict [] => true
  | d => !d.hasDict
def reprD : List PyData → Option PyData
  | [d] => if d.showable = true ∧ d.depth ≤ 64 ∧ d.shown.length ≤ sizeLine ∧ plainRepr d = true then some (.str d.shown) else none
  | _ => none
def typeN : PyData → String
  | .none => "NoneType"
  | .bool _ => "bool"
  | .int _ => "int"
  | .str _ => "str"
  | .list _ => "list"
  | .tuple _ => "tuple"
  | .dict _ => "dict"
def isiD (T : String) (d : PyData) : Option PyData := (kitB (typeN d) T).map PyData.bool
section
variable {X : Cx} {fr : Option Nat} {a b e c o : Expr} {es : List Expr} {xe xa xb : XE} {ra : XA} {pos p p2 apos : Pos} {x : Str}
theorem callC {f : Value} {g : List PyData → Option PyData}
    (h : ∀ (pins : List (Addr × Obj)) (s : Shared) (σ : L2.St) (H H0 : Hp) (xs : List V) (us : List Value) (Q : VK) (ds : List PyData) (z : PyData), Inv X pins σ H s → Vals xs us → Ex H0 H → DaAll X.K H0 xs ds → g ds = some z → (∀ w H0' H', Gr [] H0 H H0' H' → Da X.K H0' w z → Q w H') →
      wpAny (model X.prog X.w) X.A (call f us) (EP X pins σ Q) X.xe s) : CallR X f (rC X.K g) := by
  intro pins s σ H xs us Q I r q
  obtain ⟨H0, ds, z, h1, h2, h3, h4⟩ := q
  exact h pins s σ H H0 xs us Q ds z I r h1 h2 h3 h4
theorem da1 {K : PySem.W.Frag} {H : Hp} {xs : List V} {d : PyData} (h : DaAll K H xs [d]) : ∃ x, xs = [x] ∧ Da K H x d := by
  cases h with
  | cons h1 h2 =>
    cases h2
    exact ⟨_, rfl, h1⟩
theorem da2 {K : PySem.W.Frag} {H : Hp} {xs : List V} {d e : PyData} (h : DaAll K H xs [d, e]) : ∃ x y, xs = [x, y] ∧ Da K H x d ∧ Da K H y e := by
  cases h with
  | cons h1 h2 =>
    obtain ⟨y, rfl, h3⟩ := da1 h2
    exact ⟨_, y, rfl, h1, h3⟩
theorem c_len : CallR X (.builtin "len") (rC X.K lenD) := callC fun pins s σ H H0 xs us Q ds z I r s0 ha hf q => by
  unfold lenD at hf
  split at hf
  · cases hf
    obtain ⟨x, rfl, h⟩ := da1 ha
    cases h with
    | lst h1 h2 => exact call_len_seq pins s σ H _ us Q I r ⟨_, _, rfl, .inl (ex_l s0 h1), by rw [h2.len]; exact q _ H0 H (Gr.refl s0) (.int _)⟩
  · cases hf
    obtain ⟨x, rfl, h⟩ := da1 ha
    cases h with
    | tup h1 h2 => exact call_len_seq pins s σ H _ us Q I r ⟨_, _, rfl, .inr (SqT.of (s0 _ _ h1)), by rw [h2.len]; exact q _ H0 H (Gr.refl s0) (.int _)⟩
  · split at hf
    · cases hf
      obtain ⟨x, rfl, h⟩ := da1 ha
      cases h
      exact call_len_str pins s σ H _ us Q I r ⟨_, rfl, by assumption, q _ H0 H (Gr.refl s0) (.int _)⟩
    · cases hf
  · cases hf
theorem c_int : CallR X (.type "int") (rC X.K intD) := callC fun pins s σ H H0 xs us Q ds z I r s0 ha hf q => by
  unfold intD at hf
  split at hf
  · cases hf
    obtain ⟨x, rfl, h⟩ := da1 ha
    cases h
    exact call_int1 pins s σ H _ us Q I r (.inl ⟨_, rfl, q _ H0 H (Gr.refl s0) (.int _)⟩)
  · cases hf
    obtain ⟨x, rfl, h⟩ := da1 ha
    cases h
    exact call_int1 pins s σ H _ us Q I r (.inr ⟨_, rfl, q _ H0 H (Gr.refl s0) (.int _)⟩)
  · cases hf
theorem c_max (hc : X.calm = true) : CallR X (.builtin "max") (rC X.K maxD) := callC fun pins s σ H H0 xs us Q ds z I r s0 ha hf q => by
  unfold maxD at hf
  split at hf
  · cases hf
    obtain ⟨x, y, rfl, h1, h2⟩ := da2 ha
    cases h1
    cases h2
    exact call_max2 hc pins s σ H _ us Q I r ⟨_, _, rfl, q _ H0 H (Gr.refl s0) (.int _)⟩
  · rename_i c
    obtain ⟨x, rfl, h⟩ := da1 ha
    cases h4 : intsOf c with
    | none => rw [h4] at hf; cases hf
    | some ns =>
      rw [h4, Option.bind_some] at hf
      split at hf
      · rename_i hz
        cases hf
        have e := intsOf_eq h4
        subst e
        cases h with
        | lst h1 h2 =>
          have e2 := h2.ints
          subst e2
          refine cr_max hc pins s σ H _ us Q I r ⟨_, ns, rfl, ex_l s0 h1, hz, fun m hm hle => ?_⟩
          have e3 : m = maxL ns := Int.le_antisymm (maxL_ge hm) (hle _ (maxL_mem hz))
          rw [e3]
          exact q _ H0 H (Gr.refl s0) (.int _)
      · cases hf
  · cases hf
theorem c_min (hc : X.calm = true) : CallR X (.builtin "min") (rC X.K minD) := callC fun pins s σ H H0 xs us Q ds z I r s0 ha hf q => by
  unfold minD at hf
  split at hf
  · cases hf
    obtain ⟨x, y, rfl, h1, h2⟩ := da2 ha
    cases h1
    cases h2
    exact call_min2 hc pins s σ H _ us Q I r ⟨_, _, rfl, q _ H0 H (Gr.refl s0) (.int _)⟩
  · rename_i c
    obtain ⟨x, rfl, h⟩ := da1 ha
    cases h4 : intsOf c with
    | none => rw [h4] at hf; cases hf
    | some ns =>
      rw [h4, Option.bind_some] at hf
      split at hf
      · rename_i hz
        cases hf
        have e := intsOf_eq h4
        subst e
        cases h with
        | lst h1 h2 =>
          have e2 := h2.ints
          subst e2
          refine cr_min hc pins s σ H _ us Q I r ⟨_, ns, rfl, ex_l s0 h1, hz, fun m hm hle => ?_⟩
          have e3 : m = minL ns := Int.le_antisymm (hle _ (minL_mem hz)) (minL_le hm)
          rw [e3]
          exact q _ H0 H (Gr.refl s0) (.int _)
      · cases hf
  · cases hf
theorem c_sum (hc : X.calm = true) : CallR X (.builtin "sum") (rC X.K sumD) := callC fun pins s σ H H0 xs us Q ds z I r s0 ha hf q => by
  unfold sumD at hf
  split at hf
  · rename_i c
    obtain ⟨x, rfl, h⟩ := da1 ha
    cases h4 : intsOf c with
    | none => rw [h4] at hf; cases hf
    | some ns =>
      rw [h4] at hf
      cases hf
      have e := intsOf_eq h4
      subst e
      cases h with
      | lst h1 h2 =>
        have e2 := h2.ints
        subst e2
        exact cr_sum hc pins s σ H _ us Q I r ⟨_, ns, rfl, ex_l s0 h1, q _ H0 H (Gr.refl s0) (.int _)⟩
  · cases hf
theorem c_all (hc : X.calm = true) : CallR X (.builtin "all") (rC X.K allD) := callC fun pins s σ H H0 xs us Q ds z I r s0 ha hf q => by
  unfold allD at hf
  split at hf
  · rename_i c
    obtain ⟨x, rfl, h⟩ := da1 ha
    cases h4 : boolsOf c with
    | none => rw [h4] at hf; cases hf
    | some ns =>
      rw [h4] at hf
      cases hf
      have e := boolsOf_eq h4
      subst e
      cases h with
      | lst h1 h2 =>
        have e2 := h2.bools
        subst e2
        exact cr_all hc pins s σ H _ us Q I r ⟨_, ns, rfl, ex_l s0 h1, q _ H0 H (Gr.refl s0) (.bl _)⟩
  · cases hf
theorem c_any (hc : X.calm = true) : CallR X (.builtin "any") (rC X.K anyD) := callC fun pins s σ H H0 xs us Q ds z I r s0 ha hf q => by
  unfold anyD at hf
  split at hf
  · rename_i c
    obtain ⟨x, rfl, h⟩ := da1 ha
    cases h4 : boolsOf c with
    | none => rw [h4] at hf; cases hf
    | some ns =>
      rw [h4] at hf
      cases hf
      have e := boolsOf_eq h4
      subst e
      cases h with
      | lst h1 h2 =>
        have e2 := h2.bools
        subst e2
        exact cr_any hc pins s σ H _ us Q I r ⟨_, ns, rfl, ex_l s0 h1, q _ H0 H (Gr.refl s0) (.bl _)⟩
  · cases hf
theorem c_repr (hg : X.A.guards = some []) (hu : X.A.units + 65 < cLine) : CallR X (.builtin "repr") (rC X.K reprD) := callC fun pins s σ H H0 xs us Q ds z I r s0 ha hf q => by
  unfold reprD at hf
  split at hf
  · rename_i d
    split at hf
    · rename_i hc
      obtain ⟨h1, h2, h3, h4⟩ := hc
      cases hf
      obtain ⟨x, rfl, h⟩ := da1 ha
      obtain ⟨u, rfl, rx⟩ := vals1 r
      have fin : ∀ tk, EP X pins σ Q (.str d.shown tk) { s with toks := s.toks + 1 } := fun tk => ⟨.str d.shown, H, I.tok _, ⟨tk, rfl⟩, q _ H0 H (Gr.refl s0) (.str _)⟩
      have onref : ∀ a, u = Value.ref a → (∃ as, Reads s.heap u d as ∧ (d.hasDict = true → sysModules ∉ as)) → wpAny (model X.prog X.w) X.A (call (.builtin "repr") [u]) (EP X pins σ Q) X.xe s := fun a eu ⟨as, r1, r2⟩ => by
        subst eu
        exact repr_of_reads' r1 h1 r2 hg (by omega) (fun _ _ e => e) (fun h' tk tk2 hk => ⟨.str d.shown, H, I.kept (t' := tk2) hk, ⟨tk, rfl⟩, q _ H0 H (Gr.refl s0) (.str _)⟩) h3
      cases h with
      | non =>
        cases rx
        exact PySem.P.repr_of_none (fin _)
      | bl b =>
        cases rx
        exact PySem.P.repr_of_bool (fin _)
      | int i =>
        obtain ⟨t, rfl⟩ := rx
        exact PySem.P.repr_of_int (of_decide_eq_true h1) (fin _)
      | str y =>
        obtain ⟨t, rfl⟩ := rx
        exact PySem.P.repr_of_str (fin _) h3
      | @lst a vs es h5 h6 =>
        cases rx
        obtain ⟨as, r1⟩ := Da.reads I _ _ _ ((Da.lst h5 h6).mono s0) rfl
        refine onref a rfl ⟨as, r1, fun hd => ?_⟩
        simp [plainRepr] at h4
        rw [h4] at hd
        cases hd
      | @tup a vs es h5 h6 =>
        cases rx
        obtain ⟨as, r1⟩ := Da.reads I _ _ _ ((Da.tup h5 h6).mono s0) rfl
        refine onref a rfl ⟨as, r1, fun hd => ?_⟩
        simp [plainRepr] at h4
        rw [h4] at hd
        cases hd
      | @dct a h5 =>
        cases rx
        obtain ⟨r1, r2⟩ := rd_dict I (s0 _ _ h5)
        exact onref a rfl ⟨_, r1, fun _ => by simpa using r2.symm⟩
    · cases hf
  · cases hf
/-- f(..), f a built-in | a built-in type -/
theorem px_bi {id : String} {g : List PyData → Option PyData} (hc : CallR X (.builtin id) (rC X.K g)) (hg : Gl X x) (hm : X.mg x = none) (hv : bootBuiltins x = some (.builtin id)) (ha : PXA X (e :: es) ra) (hn : x ≠ "__name__" := by decide) (hdb : (x == ("__debug__" : Str)) = false := by decide)
    (he : starEach (e :: es) X.env = (false, eval e X.env) :: starEach es X.env := by rfl) (hpl : (backTo pos (starEach es X.env)).any (·.1) = false := by rfl) : PX X (.Call (.Name x p) (e :: es) [] pos) (xCall g ra) := pe_imp (pe_callB hc hg hm hv ha hn hdb he hpl) fun _ _ _ q => to_call q
theorem px_ty {T : String} {g : List PyData → Option PyData} (hc : CallR X (.type T) (rC X.K g)) (hg : Gl X x) (hm : X.mg x = none) (hv : bootBuiltins x = some (.type T)) (ha : PXA X (e :: es) ra) (hn : x ≠ "__name__" := by decide) (hdb : (x == ("__debug__" : Str)) = false := by decide)
    (he : starEach (e :: es) X.env = (false, eval e X.env) :: starEach es X.env := by rfl) (hpl : (backTo pos (starEach es X.env)).any (·.1) = false := by rfl) : PX X (.Call (.Name x p) (e :: es) [] pos) (xCall g ra) := pe_imp (pe_callTy hc hg hm hv ha hn hdb he hpl) fun _ _ _ q => to_call q
/-- isinstance(e, T) -/
theorem da_ty {K : PySem.W.Frag} {H0 H : Hp} {v : V} {d : PyData} (s : Ex H0 H) (h : Da K H0 v d) : TyX K H v (.type (typeN d)) := by
  cases h with
  | non => exact .base .non
  | bl b => exact .base (.bl b)
  | int i => exact .base (.int i)
  | str x => exact .base (.str x)
  | lst h1 h2 =>
    rcases h1 with (h1 | ⟨o, h1⟩) | ⟨o, its, n, h1, h3, _⟩
    · exact .base (.lst (s _ _ h1))
    · exact .base (.frz (s _ _ h1))
    · exact .kList h1 h3
  | tup h1 h2 => exact .base (.tup (s _ _ h1))
  | dct h1 => exact .base (.dK (s _ _ h1))
theorem px_isi {T : Str} {t : String} (hg : Gl X "isinstance") (hm : X.mg "isinstance" = none) (ha : PX X e xe) (hgT : Gl X T) (hmT : X.mg T = none) (hvT : bootBuiltins T = some (.type t)) (hnT : T ≠ "__name__" := by decide) (hdT : (T == ("__debug__" : Str)) = false := by decide)
    (he : starEach [e, .Name T p2] X.env = (false, eval e X.env) :: starEach [.Name T p2] X.env := by rfl) (hs2 : starEach [.Name T p2] X.env = (false, eval (.Name T p2) X.env) :: starEach [] X.env := by rfl) (hpl : (backTo pos (starEach [.Name T p2] X.env)).any (·.1) = false := by rfl) :
    PX X (.Call (.Name "isinstance" p) [e, .Name T p2] [] pos) (xUn (isiD t) xe) :=
  pe_imp (pe_callB call_isi hg hm (by decide +kernel) (pa_cons ha (pa_cons (pe_bltn (v := .ty t) hgT hmT hvT rfl hnT hdT) pa_nil hs2) he) (by decide) (by decide) he hpl) fun σ H Q q => by
    obtain ⟨as, ρ, os, H0, d, os', n, hx, k⟩ := q
    obtain ⟨x, h1, h3⟩ := xUn_some hx
    refine ⟨as, ρ, os, H0, x, os', n, h1, fun v H0' H' n1 g1 r1 => ?_⟩
    unfold isiD at h3
    cases h4 : kitB (typeN x) t with
    | none => rw [h4] at h3; cases h3
    | some b =>
      rw [h4] at h3
      cases h3
      exact ⟨v, .ty t, _, _, b, rfl, .ty t, da_ty n1.sub r1, kit_ty h4, k _ H0' H' n1 g1 (.bl b)⟩
/-- e.bit_length() -/
def bitsD : PyData → Option PyData
  | .int i => some (.int (Builtin.Int.intBits i : Nat))
  | _ => none
theorem px_bits (h : PE X e (tBits (teO X.K xe))) : PX X e (xUn bitsD xe) := pe_imp h fun σ H Q q => by
  obtain ⟨as, ρ, os, H0, d, os', n, hx, k⟩ := q
  obtain ⟨x, h1, h3⟩ := xUn_some hx
  refine ⟨as, ρ, os, H0, x, os', n, h1, fun v H0' H' n1 g1 r1 => ?_⟩
  cases r1 with
  | int i =>
    cases h3
    exact ⟨i, rfl, k _ H0' H' n1 g1 (.int _)⟩
  | _ => cases h3
/-- e[i] -/
def ixD : PyData → PyData → Option PyData
  | .list c, .int i => atI c i
  | .tuple c, .int i => atI c i
  | .str z, .int i => if z.length ≤ sizeLine then (atI z.cps.toList i).map fun c => .str ⟨#[c]⟩ else none
  | _, _ => none
theorem ixr_D : IxR X (rD X.K ixD) := by
  intro value slice pins s σ H x y v u Q I rx ry q hs
  obtain ⟨H0, d, e, z, s0, hd, he, hf, q⟩ := q
  refine ix_seq value slice pins s σ H x y v u Q I rx ry ?_ hs
  cases he with
  | int i =>
    cases hd with
    | lst h1 h2 =>
      obtain ⟨w, h3, h4⟩ := h2.atI hf
      exact .inl ⟨_, _, i, w, rfl, rfl, ex_l s0 h1, h3, q w H0 H (Gr.refl s0) h4⟩
    | tup h1 h2 =>
      obtain ⟨w, h3, h4⟩ := h2.atI hf
      exact .inr (.inl ⟨_, _, i, w, rfl, rfl, SqT.of (s0 _ _ h1), h3, q w H0 H (Gr.refl s0) h4⟩)
    | str z =>
      simp only [ixD] at hf
      split at hf
      · rename_i hz
        cases h5 : atI z.cps.toList i with
        | none => rw [h5] at hf; cases hf
        | some c =>
          rw [h5] at hf
          cases hf
          exact .inr (.inr ⟨z, i, c, rfl, rfl, hz, h5, q _ H0 H (Gr.refl s0) (.str _)⟩)
      · cases hf
    | _ => cases hf
  | _ => cases hd <;> cases hf
theorem px_ix (ha : PX X a xa) (hb : PX X b xb) (hs : PlainIx b) : PX X (.Subscript a b pos) (xOp ixD xa xb) := pe_imp (pe_ix ixr_D ha hb hs) fun _ _ _ q => to_op q
/-- e[lo:hi] of a list -/
abbrev XO := List Sl → Os → Option (Option Int × Os)
def toO (K : PySem.W.Frag) (x : XO) : TO := fun σ H Q => ∃ as ρ os H0 r os', En K as ρ os σ H0 H ∧ x ρ os = some (r, os') ∧ ∀ H0' H', En K as ρ os' σ H0' H' → Gr as H0 H H0' H' → Q r H'
abbrev PXO (X : Cx) (e : Option Expr) (x : XO) : Prop := PO X e (toO X.K x)
def oNone : XO := fun _ os => some (none, os)
def oSome (xe : XE) : XO := fun ρ os => (xe ρ os).bind fun p => match p.1 with
  | .int i => some (some i, p.2)
  | _ => none
theorem po_imp {e : Option Expr} {t t' : TO} (h : PO X e t) (k : ∀ σ H Q, t' σ H Q → t σ H Q) : PO X e t' := ⟨fun pins s σ H Q I q => h.run pins s σ H Q I (k _ _ _ q)⟩
theorem pxo_none : PXO X none oNone := po_imp po_none fun σ H Q q => by
  obtain ⟨as, ρ, os, H0, r, os', n, hx, k⟩ := q
  cases hx
  exact k H0 H n (Gr.refl n.sub)
theorem pxo_some (h : PX X e xe) : PXO X (some e) (oSome xe) := po_imp (po_some h) fun σ H Q q => by
  obtain ⟨as, ρ, os, H0, r, os', n, hx, k⟩ := q
  unfold oSome at hx
  cases h1 : xe ρ os with
  | none => rw [h1] at hx; cases hx
  | some p =>
    obtain ⟨d, os1⟩ := p
    rw [h1, Option.bind_some] at hx
    cases d with
    | int i =>
      cases hx
      refine ⟨as, ρ, os, H0, _, _, n, h1, fun v H0' H' n1 g1 r1 => ?_⟩
      cases r1
      exact ⟨i, rfl, k H0' H' n1 g1⟩
    | _ => cases hx
def cutD {α : Type} (xs : List α) (lo hi : Option Int) : List α := (xs.drop (HT.sIx xs.length 0 lo)).take (HT.sIx xs.length xs.length hi - HT.sIx xs.length 0 lo)
theorem DaAll.cut {K : PySem.W.Frag} {H : Hp} {vs : List V} {ds : List PyData} (h : DaAll K H vs ds) (lo hi : Option Int) : DaAll K H (cutV vs lo hi) (cutD ds lo hi) := by
  unfold cutV cutD
  rw [h.len]
  exact (h.drop _).take _
def xSl (xe : XE) (lo hi : XO) : XI := fun ρ os => (xe ρ os).bind fun p => (lo ρ p.2).bind fun l => (hi ρ l.2).bind fun u => match p.1 with
  | .list ds => some (cutD ds l.1 u.1, u.2)
  | _ => none
theorem pxf_slice {lo hi : Option Expr} {xl xh : XO} (he : PX X e xe) (hl : PXO X lo xl) (hu : PXO X hi xh) : PXF X (.Subscript e (.Slice lo hi none p2) pos) (xSl xe xl xh) := pe_imp (pe_slice sl_list he hl hu) fun σ H Q q => by
  obtain ⟨as, ρ, os, H0, ds, os', n, hx, k⟩ := q
  unfold xSl at hx
  cases h1 : xe ρ os with
  | none => rw [h1] at hx; cases hx
  | some p =>
    obtain ⟨d, os1⟩ := p
    rw [h1, Option.bind_some] at hx
    cases h2 : xl ρ os1 with
    | none => simp only [h2] at hx; cases hx
    | some l =>
      simp only [h2, Option.bind_some] at hx
      cases h3 : xh ρ l.2 with
      | none => rw [h3] at hx; cases hx
      | some u =>
        rw [h3, Option.bind_some] at hx
        cases d with
        | list cs =>
          cases hx
          refine ⟨as, ρ, os, H0, _, os1, n, h1, fun v H0' H' n1 g1 r1 => ⟨as, ρ, os1, H0', l.1, l.2, n1, h2, fun H2' H2 n2 g2 => ⟨as, ρ, l.2, H2', u.1, u.2, n2, h3, fun H3' H3 n3 g3 => ?_⟩⟩⟩
          have r3 := Da.mono (g2.e0.trans g3.e0) _ _ r1
          cases r3 with
          | lst h4 h5 =>
            refine ⟨_, _, rfl, ex_l n3.sub h4, fun p hp => ?_⟩
            have h0 : H3' p = none := fresh_back n3.sub hp
            have nD : p ∉ as := fun z => n3.ow.trk p z hp
            have gg := (g1.tr g2).tr g3
            refine k p _ H3' _ ?_ (n3.away nD (fun a h => upd_ne h) (by rw [upd_same]; simp) h0) ⟨gg.e0, fun a o h e => ?_, gg.nw, fun a h => ?_, fun a o e => ?_⟩ h0 nD upd_same (h5.cut _ _)
            · cases z : H p with
              | none => rfl
              | some u => exact absurd hp (gg.kp p (by rw [z]; simp))
            · have e2 := gg.e1 a o h e
              rw [upd_ne (ne_of_none e2 hp)]
              exact e2
            · have e2 := gg.kp a h
              rw [upd_ne (fun z => e2 (by rw [z]; exact hp))]
              exact e2
            · have e2 := gg.sub a o e
              rw [upd_ne (ne_of_none e2 hp)]
              exact e2
        | _ => cases hx
/-- a new list from a display, from + -/
theorem fresh_up {as : List Addr} {H0 H H3' H3 : Hp} {p : Addr} {o : HO} (gg : Gr as H0 H H3' H3) (hp : H3 p = none) : Gr as H0 H H3' (upd H3 p o) ∧ H p = none := by
  refine ⟨⟨gg.e0, fun a o h e => ?_, gg.nw, fun a h => ?_, fun a o e => ?_⟩, ?_⟩
  · have e2 := gg.e1 a o h e
    rw [upd_ne (ne_of_none e2 hp)]
    exact e2
  · have e2 := gg.kp a h
    rw [upd_ne (fun z => e2 (by rw [z]; exact hp))]
    exact e2
  · have e2 := gg.sub a o e
    rw [upd_ne (ne_of_none e2 hp)]
    exact e2
  · cases z : H p with
    | none => rfl
    | some u => exact absurd hp (gg.kp p (by rw [z]; simp))
def fLst (ra : XA) : XI := fun ρ os => (ra ρ os).bind fun p => (datas p.1).bind fun ds => if ds.length ≤ sizeLine then some (ds, p.2) else none
theorem pxf_lst (h : PXA X es ra) : PXF X (.List es pos) (fLst ra) := pe_imp (pe_lst h) fun σ H Q q => by
  obtain ⟨as, ρ, os, H0, ds, os', n, hx, k⟩ := q
  unfold fLst at hx
  cases h1 : ra ρ os with
  | none => rw [h1] at hx; cases hx
  | some p =>
    obtain ⟨ss, os1⟩ := p
    rw [h1, Option.bind_some] at hx
    cases h2 : datas ss with
    | none => simp only [h2] at hx; cases hx
    | some es =>
      simp only [h2, Option.bind_some] at hx
      split at hx
      · rename_i hz
        cases hx
        refine ⟨as, ρ, os, H0, ss, os', n, h1, fun vs H1 H1' n1 g1 r1 => ?_⟩
        have r2 := args_datas r1 h2
        refine ⟨by rw [r2.len]; exact hz, fun p hp => ?_⟩
        have h0 : H1 p = none := fresh_back n1.sub hp
        have nD : p ∉ as := fun z => n1.ow.trk p z hp
        obtain ⟨g2, e2⟩ := fresh_up (o := .lst vs) g1 hp
        exact k p _ H1 _ e2 (n1.away nD (fun a h => upd_ne h) (by rw [upd_same]; simp) h0) g2 h0 nD upd_same r2
      · cases hx
end
end DL

set_option Elab.async false
set_option linter.all false
set_option maxRecDepth 100000
set_option maxHeartbeats 4000000
namespace DL
open PySem PySem.Spec PyProof.Rows L2 Evl

/-! ### defs: the promise "hands back what the mirror gives", where no builtin of the guarded kind runs around -/
structure Rm (k : Nat) (A : Around) : Prop where
  room : Room k A
  gd : A.guards = some []
theorem Rm.mono {j k : Nat} {A : Around} (r : Rm k A) (h : j ≤ k) : Rm j A := ⟨r.room.mono h, r.gd⟩
structure FnG (P : Program) (w : World) (K : PySem.W.Frag) (mg : Str → Option Value) (base : Heap) (k : Nat) (f : Addr) (fd : FuncData) (n : Nat) (ps : List Str) (sp : Sp) : Prop where
  pl : ps.length = n
  len : ∀ vs H Q E, sp vs H Q E → vs.length = n
  run : ∀ (A : Around) (outer : List Env) (s : Shared) (H : Hp) (args : Args) (us : List Value) (vs : List V) (Q : VK) (E : XK), Rm k A → Env0 P w K mg base A outer s H → BindsTo s fd args (ps.zip us) → Vals vs us → sp vs H Q E →
    codeAny (model P w) A (.call (.ref f) args) (CR (L2.CX P w) outer P w H s Q E) s
theorem FnG.mono {P : Program} {w : World} {K : PySem.W.Frag} {mg : Str → Option Value} {base : Heap} {j k n : Nat} {f : Addr} {fd : FuncData} {ps : List Str} {sp : Sp} (F : FnG P w K mg base j f fd n ps sp) (h : j ≤ k) : FnG P w K mg base k f fd n ps sp :=
  ⟨F.pl, F.len, fun A outer s H args us vs Q E hr => F.run A outer s H args us vs Q E (hr.mono h)⟩

abbrev XM := List Sl → Os → Option (PyData × Os)
abbrev XMF := List Sl → Os → Option (List PyData × Os)
def spM (K : PySem.W.Frag) (n : Nat) (M : XM) : Sp := fun vs H Q _ => vs.length = n ∧ ∃ as ss os H0 d os', Ex H0 H ∧ Own K as os H0 H ∧ ArgsOk K as H0 vs ss ∧ M ss os = some (d, os') ∧
  ∀ v H0' H', Own K as os' H0' H' → Gr as H0 H H0' H' → Da K H0' v d → Q v H'
def spF (K : PySem.W.Frag) (n : Nat) (M : XMF) : Sp := fun vs H Q _ => vs.length = n ∧ ∃ as ss os H0 ds os', Ex H0 H ∧ Own K as os H0 H ∧ ArgsOk K as H0 vs ss ∧ M ss os = some (ds, os') ∧
  ∀ p vs H0' H', H p = none → Own K as os' H0' H' → Gr as H0 H H0' H' → H0' p = none → H' p = some (.lst vs) → DaAll K H0' vs ds → Q (.ref p) H'
def slLt (n : Nat) : Sl → Bool
  | .o k => decide (k < n)
  | _ => true
def obLt (n : Nat) : Ob → Bool
  | .r xs => xs.all (slLt n)
  | .t xs => xs.all (slLt n)
  | .i _ fs => fs.all fun p => slLt n p.2
  | _ => true
def oLt (n : Nat) : Option Ob → Bool
  | some ob => obLt n ob
  | none => true
/-- what is left of the objects when a def ends: the caller's, if they lean on no newer one -/
def cutW (n : Nat) (w : Os) : Option Os := if (w.take n).all (oLt n) = true then some (w.take n) else none
def mOf (n N : Nat) (s : SE) : XM := fun ss os => if ss.length = n then (s (ss ++ List.replicate (N - n) .u) os).bind fun o => match o with
  | .rt d w => (cutW os.length w).map fun w' => (d, w')
  | .nx _ w => (cutW os.length w).map fun w' => (.none, w')
  | _ => none
  else none
def mOfF (n N : Nat) (s : Nat → SE) : XMF := fun ss os => if ss.length = n then (s os.length (ss ++ List.replicate (N - n) .u) os).bind fun o => match o with
  | .rt (.list ds) w => (cutW os.length w).map fun w' => (ds, w')
  | _ => none
  else none
/-- a def that may let an error out -/
inductive Rs where
  | rt (d : PyData)
  | ex (C : Addr) (x : Sl)
abbrev XMX := List Sl → Os → Option (Rs × Os)
def spX (K : PySem.W.Frag) (n : Nat) (M : XMX) : Sp := fun vs H Q E => vs.length = n ∧ ∃ as ss os H0 r os', Ex H0 H ∧ Own K as os H0 H ∧ ArgsOk K as H0 vs ss ∧ M ss os = some (r, os') ∧ match r with
  | .rt d => ∀ v H0' H', Own K as os' H0' H' → Gr as H0 H H0' H' → Da K H0' v d → Q v H'
  | .ex C x => ∀ d v H0' H', Own K as os' H0' H' → Gr as H0 H H0' H' → H0' d = some (.xd [("value", v)]) → ArgOk K as H0' v x → E (.ref C) (some d) H'
def mOfX (n N : Nat) (s : SE) : XMX := fun ss os => if ss.length = n then (s (ss ++ List.replicate (N - n) .u) os).bind fun o => match o with
  | .rt d w => (cutW os.length w).map fun w' => (.rt d, w')
  | .nx _ w => (cutW os.length w).map fun w' => (.rt .none, w')
  | .ex C x _ w => if slLt os.length x = true then (cutW os.length w).map fun w' => (.ex C x, w') else none
  | _ => none
  else none
/-- a def that makes objects, held by those that it was given: nothing is left out -/
def spN (K : PySem.W.Frag) (n : Nat) (M : XM) : Sp := fun vs H Q _ => vs.length = n ∧ ∃ as ss os H0 d os', Ex H0 H ∧ Own K as os H0 H ∧ ArgsOk K as H0 vs ss ∧ M ss os = some (d, os') ∧
  ∀ v as' H0' H', Exs as H as' → Own K as' os' H0' H' → Gr as H0 H H0' H' → Da K H0' v d → Q v H'
def mOfN (n N : Nat) (s : SE) : XM := fun ss os => if ss.length = n then (s (ss ++ List.replicate (N - n) .u) os).bind fun o => match o with
  | .rt d w => some (d, w)
  | .nx _ w => some (.none, w)
  | _ => none
  else none
section
variable {P : Program} {w : World} {K : PySem.W.Frag} {mg : Str → Option Value} {base : Heap}
theorem args_len {as : List Addr} {H0 : Hp} : ∀ {vs : List V} {ss : List Sl}, ArgsOk K as H0 vs ss → vs.length = ss.length
  | [], [], _ => rfl
  | _ :: _, [], h => h.elim
  | [], _ :: _, h => h.elim
  | _ :: vs, _ :: ss, h => by rw [List.length_cons, List.length_cons, args_len h.2]
theorem args_at {as : List Addr} {H0 : Hp} : ∀ {vs : List V} {ss : List Sl} {i : Nat} {s : Sl}, ArgsOk K as H0 vs ss → ss[i]? = some s → ∃ v, vs[i]? = some v ∧ ArgOk K as H0 v s
  | [], [], _, _, _, h => by simp at h
  | _ :: _, [], _, _, h, _ => h.elim
  | [], _ :: _, _, _, h, _ => h.elim
  | v :: vs, s :: ss, 0, _, h, e => by
    simp at e
    subst e
    exact ⟨v, rfl, h.1⟩
  | v :: vs, s :: ss, i + 1, _, h, e => by
    obtain ⟨u, h1, h2⟩ := args_at (i := i) h.2 (by simpa using e)
    exact ⟨u, by simpa using h1, h2⟩
/-- the names at the entry -/
theorem en_start {as : List Addr} {H0 H : Hp} {vs : List V} {ss : List Sl} {os : Os} {N : List Str} {n : Nat} (hs : Ex H0 H) (ow : Own K as os H0 H) (ha : ArgsOk K as H0 vs ss) (hn : ss.length = n) (hN : n ≤ N.length) :
    En K as (ss ++ List.replicate (N.length - n) .u) os (L2.start N vs) H0 H := by
  have hl := args_len ha
  refine ⟨hs, ?_, fun i x h => ?_, fun i k h => ?_, ow⟩
  · unfold L2.start
    simp
    omega
  · by_cases hi : i < ss.length
    · rw [List.getElem?_append_left hi] at h
      obtain ⟨v, h1, h2⟩ := args_at ha h
      refine ⟨v, ?_, h2⟩
      unfold L2.start
      rw [List.getElem?_append_left (by simp; omega), List.getElem?_map, h1]
      rfl
    · rw [List.getElem?_append_right (by omega), List.getElem?_replicate] at h
      split at h <;> cases h
  · by_cases hi : i < ss.length
    · rw [List.getElem?_append_left hi] at h
      obtain ⟨v, h1, a, h2, h3⟩ := args_at ha h
      subst h3
      refine ⟨a, h2, ?_⟩
      unfold L2.start
      rw [List.getElem?_append_left (by simp; omega), List.getElem?_map, h1]
      rfl
    · rw [List.getElem?_append_right (by omega), List.getElem?_replicate] at h
      split at h <;> cases h
theorem argOk_cut {as bs : List Addr} {H0 : Hp} {v : V} {s : Sl} (h : ArgOk K (as ++ bs) H0 v s) (l : slLt as.length s = true) : ArgOk K as H0 v s := by
  cases s with
  | u => exact h
  | d x => exact h
  | o k =>
    obtain ⟨a, h1, h2⟩ := h
    have hk : k < as.length := by simpa [slLt] using l
    exact ⟨a, by rw [List.getElem?_append_left hk] at h1; exact h1, h2⟩
theorem argsOk_cut {as bs : List Addr} {H0 : Hp} : ∀ {vs : List V} {ss : List Sl}, ArgsOk K (as ++ bs) H0 vs ss → ss.all (slLt as.length) = true → ArgsOk K as H0 vs ss
  | [], [], h, _ => h
  | _ :: _, _ :: _, h, l => by
    rw [List.all_cons, Bool.and_eq_true] at l
    exact ⟨argOk_cut h.1 l.1, argsOk_cut h.2 l.2⟩
  | [], _ :: _, h, _ => h.elim
  | _ :: _, [], h, _ => h.elim
theorem fsOk_cut {as bs : List Addr} {H0 : Hp} : ∀ {vs : List (Str × V)} {ss : List (Str × Sl)}, FsOk K (as ++ bs) H0 vs ss → (ss.all fun p => slLt as.length p.2) = true → FsOk K as H0 vs ss
  | [], [], h, _ => h
  | _ :: _, _ :: _, h, l => by
    rw [List.all_cons, Bool.and_eq_true] at l
    exact ⟨h.1, argOk_cut h.2.1 l.1, fsOk_cut h.2.2 l.2⟩
  | [], _ :: _, h, _ => h.elim
  | _ :: _, [], h, _ => h.elim
theorem cont_cut {as bs : List Addr} {H0 : Hp} {o : HO} {b : Ob} (h : Cont K (as ++ bs) H0 o b) (l : obLt as.length b = true) : Cont K as H0 o b := by
  cases b with
  | l ds => obtain ⟨vs, rfl, r⟩ := h.l_of; exact r
  | r xs => obtain ⟨vs, rfl, r⟩ := h.r_of; exact argsOk_cut r l
  | k ps => obtain ⟨vs, rfl, r⟩ := h.k_of; exact r
  | T ps => obtain ⟨vs, rfl, r⟩ := h.T_of; exact r
  | i C fs => obtain ⟨dx, gs, rfl, r⟩ := h.i_of; exact ⟨rfl, fsOk_cut r l⟩
  | g a b => obtain rfl := h.g_of; exact ⟨rfl, rfl⟩
  | t xs => obtain ⟨vs, rfl, r⟩ := h.t_of; exact argsOk_cut r l
theorem Own.cut {as as' : List Addr} {os' os2 : Os} {H H0' H' : Hp} (e : Exs as H as') (w : Own K as' os' H0' H') (c : cutW as.length os' = some os2) : Own K as os2 H0' H' := by
  obtain ⟨bs, rfl, _⟩ := e
  unfold cutW at c
  split at c
  · rename_i hc
    cases c
    have hl := w.len
    have hnd := w.nd
    rw [List.nodup_append] at hnd
    refine ⟨hnd.1, ?_, fun a ha => w.trk a (List.mem_append_left _ ha), fun k a ds h1 h2 => ?_⟩
    · rw [List.length_take]
      simp at hl
      omega
    · have hk := (List.getElem?_eq_some_iff.mp h1).1
      have hm := List.all_eq_true.mp hc _ (List.mem_of_getElem? h2)
      rw [List.getElem?_take_of_lt hk] at h2
      obtain ⟨q1, o, q2, q3⟩ := w.at_ k a ds (by rw [List.getElem?_append_left hk]; exact h1) h2
      exact ⟨q1, o, q2, cont_cut q3 hm⟩
  · cases c
/-- THE RULE for a def, by its body -/
theorem fn_g {x qual : Str} {st : Stmt} {f : Addr} {fd : FuncData} {N ps : List Str} {k n : Nat} {sp : Sp} (F : Fun K x qual st f fd) (S : FnScope N ps (defScope st)) (pl : ps.length = n) (len : ∀ vs H Q E, sp vs H Q E → vs.length = n)
    (hbody : ∀ (cdv : Value) (A : Around) (outer : List Env) (s : Shared) (H : Hp) (vs : List V) (Q : VK) (E : XK), Rm k (A.deeper (envOfC qual (defScope st) s.heap.objs.size f cdv)) → sp vs H Q E →
      ∃ t, PSs (cxOf (L2.CX P w) P w K mg base N qual (defScope st) f cdv A outer s H E).nox (defBody st) t ∧ t { nx := fun _ H' => Q .non H', rt := Q } (L2.start N vs) H) : FnG P w K mg base (k + 1) f fd n ps sp := by
  obtain ⟨oc, od, kV, doc, pm, an, cdv, ct, osl, rfl, lk, hcd⟩ := F.ex
  refine ⟨pl, len, fun A outer s H args us vs Q E hr e0 hb r hsp => ?_⟩
  have hl := len _ _ _ _ hsp
  have KX : K.In s.heap := e0.mod.kin.keeps fun b o e => (e0.bs b o e).1
  have lim : s.heap.NoLimit := e0.mod.nolimit.keeps fun b o e => (e0.bs b o e).1
  have hkind : ∀ y ∈ ps.zip us, (defScope st).names.lookup y.1 = some .local ∨ ((defScope st).names.lookup y.1 = some .cell ∧ ((cellsFrom (s.heap.objs.size + 1) (defScope st).names []).lookup y.1).isSome = true) := fun ⟨n, v⟩ hy =>
    (S.par n (List.of_mem_zip hy).1).imp id fun q => ⟨q, PySem.W.cellsFrom_some _ _ _ (.inl q)⟩
  refine codeAny_call_function hr.room.depth (KX _ _ lk) rfl S.co S.gen rfl (PySem.W.codeRec_of KX hcd) (hb _ _ _ _ ?_)
  refine wpAny_newFunctionEnv_cells S.kind hkind fun env he s1 x => ?_
  subst he
  refine ⟨lim.keeps x.toInCall.keep, codeAny_func ?_⟩
  obtain ⟨t, ht, hq⟩ := hbody cdv A outer s H vs Q E ⟨hr.room.deeper _, hr.gd⟩ hsp
  have I := inv_start (CX := L2.CX P w) (qual := qual) (E := E) S hr.room.hd e0 (by rw [pl]; exact hl) r x
  refine wpAny_mono (ht.nox.run [] s1 (L2.start N vs) H _ I hq) (fun fl s' hs => ?_) fun e s' hs => hs
  cases fl with
  | ret u =>
    obtain ⟨v, σ', H', J, rv, q⟩ := hs
    exact ⟨v, H', J.os, J.bare, J.base, J.hok, rv, q⟩
  | next =>
    obtain ⟨σ', H', J, q⟩ := hs
    exact ⟨.non, H', J.os, J.bare, J.base, J.hok, rfl, q⟩
  | brk => exact hs.elim fun _ h => h.elim fun _ h => h.2.elim
  | cont => exact hs.elim fun _ h => h.elim fun _ h => h.2.elim
/-- .. that may let an error out -/
theorem fn_gX {x qual : Str} {st : Stmt} {f : Addr} {fd : FuncData} {N ps : List Str} {k n : Nat} {sp : Sp} (F : Fun K x qual st f fd) (S : FnScope N ps (defScope st)) (pl : ps.length = n) (len : ∀ vs H Q E, sp vs H Q E → vs.length = n)
    (hbody : ∀ (cdv : Value) (A : Around) (outer : List Env) (s : Shared) (H : Hp) (vs : List V) (Q : VK) (E : XK), Rm k (A.deeper (envOfC qual (defScope st) s.heap.objs.size f cdv)) → sp vs H Q E →
      ∃ t, PSs (cxOf (L2.CX P w) P w K mg base N qual (defScope st) f cdv A outer s H E) (defBody st) t ∧ t { nx := fun _ H' => Q .non H', rt := Q } (L2.start N vs) H) : FnG P w K mg base (k + 1) f fd n ps sp := by
  obtain ⟨oc, od, kV, doc, pm, an, cdv, ct, osl, rfl, lk, hcd⟩ := F.ex
  refine ⟨pl, len, fun A outer s H args us vs Q E hr e0 hb r hsp => ?_⟩
  have hl := len _ _ _ _ hsp
  have KX : K.In s.heap := e0.mod.kin.keeps fun b o e => (e0.bs b o e).1
  have lim : s.heap.NoLimit := e0.mod.nolimit.keeps fun b o e => (e0.bs b o e).1
  have hkind : ∀ y ∈ ps.zip us, (defScope st).names.lookup y.1 = some .local ∨ ((defScope st).names.lookup y.1 = some .cell ∧ ((cellsFrom (s.heap.objs.size + 1) (defScope st).names []).lookup y.1).isSome = true) := fun ⟨n, v⟩ hy =>
    (S.par n (List.of_mem_zip hy).1).imp id fun q => ⟨q, PySem.W.cellsFrom_some _ _ _ (.inl q)⟩
  refine codeAny_call_function hr.room.depth (KX _ _ lk) rfl S.co S.gen rfl (PySem.W.codeRec_of KX hcd) (hb _ _ _ _ ?_)
  refine wpAny_newFunctionEnv_cells S.kind hkind fun env he s1 x => ?_
  subst he
  refine ⟨lim.keeps x.toInCall.keep, codeAny_func ?_⟩
  obtain ⟨t, ht, hq⟩ := hbody cdv A outer s H vs Q E ⟨hr.room.deeper _, hr.gd⟩ hsp
  have I := inv_start (CX := L2.CX P w) (qual := qual) (E := E) S hr.room.hd e0 (by rw [pl]; exact hl) r x
  refine wpAny_mono (ht.run [] s1 (L2.start N vs) H _ I hq) (fun fl s' hs => ?_) fun e s' hs => hs
  cases fl with
  | ret u =>
    obtain ⟨v, σ', H', J, rv, q⟩ := hs
    exact ⟨v, H', J.os, J.bare, J.base, J.hok, rv, q⟩
  | next =>
    obtain ⟨σ', H', J, q⟩ := hs
    exact ⟨.non, H', J.os, J.bare, J.base, J.hok, rfl, q⟩
  | brk => exact hs.elim fun _ h => h.elim fun _ h => h.2.elim
  | cont => exact hs.elim fun _ h => h.elim fun _ h => h.2.elim
theorem bs_start {as : List Addr} {H : Hp} : Bs none as H as H := ⟨fun n h => (nomatch h), Exs.refl, fun _ h => h⟩
theorem fn_m {x qual : Str} {st : Stmt} {f : Addr} {fd : FuncData} {N ps : List Str} {k : Nat} {sM : SE} (F : Fun K x qual st f fd) (S : FnScope N ps (defScope st))
    (hbody : ∀ (W : WX) (cdv : Value) (A : Around) (outer : List Env) (s : Shared) (H : Hp) (E : XK), Rm k (A.deeper (envOfC qual (defScope st) s.heap.objs.size f cdv)) →
      PSXs (cxOf (L2.CX P w) P w K mg base N qual (defScope st) f cdv A outer s H E).nox W none (defBody st) sM) : FnG P w K mg base (k + 1) f fd ps.length ps (spM K ps.length (mOf ps.length N.length sM)) := by
  refine fn_g F S rfl (fun vs H Q E h => h.1) fun cdv A outer s H vs Q E hr h => ⟨_, hbody (fun _ _ _ _ => True) cdv A outer s H E hr, ?_⟩
  obtain ⟨hlen, as, ss, os, H0, d, os', h1, h2, h3, h4, h5⟩ := h
  have hpl : ps.length ≤ N.length := by have := congrArg List.length S.pre; rw [List.length_take] at this; omega
  unfold mOf at h4
  split at h4
  · rename_i hn
    cases q : sM (ss ++ List.replicate (N.length - ps.length) .u) os with
    | none => rw [q] at h4; cases h4
    | some o =>
      rw [q, Option.bind_some] at h4
      refine ⟨as, H, as, _, os, H0, o, bs_start, en_start h1 h2 h3 hn hpl, q, ?_⟩
      cases o with
      | rt d2 w2 =>
        cases hc : cutW os.length w2 with
        | none => simp only [hc] at h4; cases h4
        | some w3 =>
          simp only [hc] at h4
          cases h4
          exact fun v as' H0' H' e2 n2 g2 r2 => h5 v H0' H' (Own.cut e2 n2 (by rw [h2.len]; exact hc)) g2 r2
      | nx r2 w2 =>
        cases hc : cutW os.length w2 with
        | none => simp only [hc] at h4; cases h4
        | some w3 =>
          simp only [hc] at h4
          cases h4
          exact fun as' σ' H0' H' e2 n2 g2 => h5 .non H0' H' (Own.cut e2 n2.ow (by rw [h2.len]; exact hc)) g2 .non
      | _ => cases h4
  · cases h4
/-- nothing is left out -/
theorem fn_n {x qual : Str} {st : Stmt} {f : Addr} {fd : FuncData} {N ps : List Str} {k : Nat} {sM : SE} (F : Fun K x qual st f fd) (S : FnScope N ps (defScope st))
    (hbody : ∀ (W : WX) (cdv : Value) (A : Around) (outer : List Env) (s : Shared) (H : Hp) (E : XK), Rm k (A.deeper (envOfC qual (defScope st) s.heap.objs.size f cdv)) →
      PSXs (cxOf (L2.CX P w) P w K mg base N qual (defScope st) f cdv A outer s H E).nox W none (defBody st) sM) : FnG P w K mg base (k + 1) f fd ps.length ps (spN K ps.length (mOfN ps.length N.length sM)) := by
  refine fn_g F S rfl (fun vs H Q E h => h.1) fun cdv A outer s H vs Q E hr h => ⟨_, hbody (fun _ _ _ _ => True) cdv A outer s H E hr, ?_⟩
  obtain ⟨hlen, as, ss, os, H0, d, os', h1, h2, h3, h4, h5⟩ := h
  have hpl : ps.length ≤ N.length := by have := congrArg List.length S.pre; rw [List.length_take] at this; omega
  unfold mOfN at h4
  split at h4
  · rename_i hn
    cases q : sM (ss ++ List.replicate (N.length - ps.length) .u) os with
    | none => rw [q] at h4; cases h4
    | some o =>
      rw [q, Option.bind_some] at h4
      refine ⟨as, H, as, _, os, H0, o, bs_start, en_start h1 h2 h3 hn hpl, q, ?_⟩
      cases o with
      | rt d2 w2 =>
        cases h4
        exact fun v as' H0' H' e2 n2 g2 r2 => h5 v as' H0' H' e2 n2 g2 r2
      | nx r2 w2 =>
        cases h4
        exact fun as' σ' H0' H' e2 n2 g2 => h5 .non as' H0' H' e2 n2.ow g2 .non
      | _ => cases h4
  · cases h4
/-- an error may leave -/
theorem fn_x {x qual : Str} {st : Stmt} {f : Addr} {fd : FuncData} {N ps : List Str} {k : Nat} {sM : SE} (F : Fun K x qual st f fd) (S : FnScope N ps (defScope st))
    (hbody : ∀ (cdv : Value) (A : Around) (outer : List Env) (s : Shared) (H : Hp) (E : XK), Rm k (A.deeper (envOfC qual (defScope st) s.heap.objs.size f cdv)) →
      PSXs (cxOf (L2.CX P w) P w K mg base N qual (defScope st) f cdv A outer s H E) (fun c d _ H => E c d H) none (defBody st) sM) : FnG P w K mg base (k + 1) f fd ps.length ps (spX K ps.length (mOfX ps.length N.length sM)) := by
  refine fn_gX F S rfl (fun vs H Q E h => h.1) fun cdv A outer s H vs Q E hr h => ⟨_, hbody cdv A outer s H E hr, ?_⟩
  obtain ⟨hlen, as, ss, os, H0, r, os', h1, h2, h3, h4, h5⟩ := h
  have hpl : ps.length ≤ N.length := by have := congrArg List.length S.pre; rw [List.length_take] at this; omega
  unfold mOfX at h4
  split at h4
  · rename_i hn
    cases q : sM (ss ++ List.replicate (N.length - ps.length) .u) os with
    | none => rw [q] at h4; cases h4
    | some o =>
      rw [q, Option.bind_some] at h4
      refine ⟨as, H, as, _, os, H0, o, bs_start, en_start h1 h2 h3 hn hpl, q, ?_⟩
      cases o with
      | rt d2 w2 =>
        cases hc : cutW os.length w2 with
        | none => simp only [hc] at h4; cases h4
        | some w3 =>
          simp only [hc] at h4
          cases h4
          exact fun v as' H0' H' e2 n2 g2 r2 => h5 v H0' H' (Own.cut e2 n2 (by rw [h2.len]; exact hc)) g2 r2
      | nx r2 w2 =>
        cases hc : cutW os.length w2 with
        | none => simp only [hc] at h4; cases h4
        | some w3 =>
          simp only [hc] at h4
          cases h4
          exact fun as' σ' H0' H' e2 n2 g2 => h5 .non H0' H' (Own.cut e2 n2.ow (by rw [h2.len]; exact hc)) g2 .non
      | ex C x r2 w2 =>
        simp only at h4
        split at h4
        · rename_i hx
          cases hc : cutW os.length w2 with
          | none => rw [hc] at h4; cases h4
          | some w3 =>
            rw [hc] at h4
            cases h4
            intro as' σ' H0' H' d v e2 n2 g2 hd ha
            refine h5 d v H0' H' (Own.cut e2 n2.ow (by rw [h2.len]; exact hc)) g2 hd ?_
            obtain ⟨bs, rfl, _⟩ := e2
            exact argOk_cut ha (by rw [h2.len]; exact hx)
        · cases h4
      | _ => cases h4
  · cases h4
theorem fn_f {x qual : Str} {st : Stmt} {f : Addr} {fd : FuncData} {N ps : List Str} {k : Nat} {sM : Nat → SE} (F : Fun K x qual st f fd) (S : FnScope N ps (defScope st))
    (hbody : ∀ (n0 : Nat) (W : WX) (cdv : Value) (A : Around) (outer : List Env) (s : Shared) (H : Hp) (E : XK), Rm k (A.deeper (envOfC qual (defScope st) s.heap.objs.size f cdv)) →
      PSXs (cxOf (L2.CX P w) P w K mg base N qual (defScope st) f cdv A outer s H E).nox W (some n0) (defBody st) (sM n0)) : FnG P w K mg base (k + 1) f fd ps.length ps (spF K ps.length (mOfF ps.length N.length sM)) := by
  refine fn_g F S rfl (fun vs H Q E h => h.1) fun cdv A outer s H vs Q E hr h => ?_
  obtain ⟨hlen, as, ss, os, H0, ds, os', h1, h2, h3, h4, h5⟩ := h
  refine ⟨_, hbody os.length (fun _ _ _ _ => True) cdv A outer s H E hr, ?_⟩
  have hpl : ps.length ≤ N.length := by have := congrArg List.length S.pre; rw [List.length_take] at this; omega
  unfold mOfF at h4
  split at h4
  · rename_i hn
    cases q : sM os.length (ss ++ List.replicate (N.length - ps.length) .u) os with
    | none => rw [q] at h4; cases h4
    | some o =>
      rw [q, Option.bind_some] at h4
      refine ⟨as, H, as, _, os, H0, o, ⟨fun n hn => by cases hn; exact h2.len, Exs.refl, fun _ h => h⟩, en_start h1 h2 h3 hn hpl, q, ?_⟩
      cases o with
      | rt d2 w2 =>
        cases d2 with
        | list es =>
          cases hc : cutW os.length w2 with
          | none => simp only [hc] at h4; cases h4
          | some w3 =>
            simp only [hc] at h4
            cases h4
            exact ⟨_, rfl, fun p vs as' H0' H' hp e2 n2 g2 r1 r2 r3 => h5 p vs H0' H' hp (Own.cut e2 n2 (by rw [h2.len]; exact hc)) g2 r1 r2 r3⟩
        | _ => cases h4
      | _ => cases h4
  · cases h4
end

/-! ### calls of defs -/
def xFn (M : XM) (ra : XA) : XE := fun ρ os => (ra ρ os).bind fun p => M p.1 p.2
def fFn (M : XMF) (ra : XA) : XI := fun ρ os => (ra ρ os).bind fun p => M p.1 p.2
theorem En.call {K : PySem.W.Frag} {as : List Addr} {ρ : List Sl} {os os' : Os} {σ : L2.St} {H0 H H0' H' : Hp} (n : En K as ρ os σ H0 H) (w : Own K as os' H0' H') (g : Gr as H0 H H0' H') : En K as ρ os' σ H0' H' :=
  ⟨g.sub, n.len, fun i x h => by
    obtain ⟨v, e1, r⟩ := n.dat i x h
    exact ⟨v, e1, Da.mono g.e0 _ _ r⟩, n.ref, w⟩
section
variable {X : Cx} {k n : Nat} {f : Addr} {fd : FuncData} {ps ks : List Str} {M : XM} {MF : XMF} {x : Str} {p pos : Pos} {e : Expr} {es : List Expr} {ra : XA} {kws : List Keyword} {sp : Sp}
theorem run_g {pins : List (Addr × Obj)} {σ : L2.St} {H : Hp} {s : Shared} {Q : VK} {us : List Value} {vs : List V} {args : Args} (F : FnG X.prog X.w X.K X.mg X.base k f fd n ps sp) (hr : Rm k X.A) (hb : BindsTo s fd args (ps.zip us))
    (I : Inv X pins σ H s) (r : Vals vs us) (h : sp vs H Q E0) : wpAny (model X.prog X.w) X.A (call (.ref f) args.pos args.kw) (EP X pins σ Q) X.xe s := by
  refine wpAny_call (codeAny_mono (F.run X.A X.stack s H args us vs Q E0 hr I.env0 hb r h) fun r s' hq => ?_)
  cases r with
  | error e => exact passL pins σ H s e s' I hq
  | ok fl =>
    cases fl with
    | ret u => exact I.after hq
    | _ => exact hq.elim
def tCallG (sp : Sp) (t : TA) : TE := fun σ H Q => t σ H fun vs H1 => sp vs H1 Q E0
theorem pe_callG (F : FnG X.prog X.w X.K X.mg X.base k f fd n ps sp) (hr : Rm k X.A) (hg : Gl X x) (hm : X.mg x = some (.ref f)) (hk : PySem.W.keepIn X.K (.ref f) = true) (hb : Binds X.K fd ps []) {t : TA}
    (ha : PA X (e :: es) t) (hdb : (x == ("__debug__" : Str)) = false := by decide) (he : starEach (e :: es) X.env = (false, eval e X.env) :: starEach es X.env := by rfl) (hpl : (backTo pos (starEach es X.env)).any (·.1) = false := by rfl) :
    PE X (.Call (.Name x p) (e :: es) [] pos) (tCallG sp t) := by
  refine ⟨fun pins s σ H Q I h => ?_⟩
  refine wpAny_Call_Name_kw (ld_glob I hg hm ?_ hdb)
  refine PySem.W.callWith_K (h₀ := X.base) I.ok.mod.kin hk (thn (ha.run pos pins s σ H _ I h) fun us s1 ⟨vs, H1, I1, r, q⟩ => ⟨I1.kIn, ?_⟩) he hpl
  have hl : us.length = ps.length := by rw [← r.length, F.pl]; exact F.len _ _ _ _ q
  refine run_g (args := ⟨us, []⟩) F hr ?_ I1 r q
  have := hb s1 us I1.kIn (by rw [List.append_nil]; exact hl)
  rw [List.append_nil] at this
  exact this
theorem pe_callG0 (F : FnG X.prog X.w X.K X.mg X.base k f fd n ps sp) (hr : Rm k X.A) (hg : Gl X x) (hm : X.mg x = some (.ref f)) (hk : PySem.W.keepIn X.K (.ref f) = true) (hb : Binds X.K fd ps []) (hdb : (x == ("__debug__" : Str)) = false := by decide) :
    PE X (.Call (.Name x p) [] [] pos) (tCallG sp tNil) := by
  refine ⟨fun pins s σ H Q I h => ?_⟩
  refine wpAny_Call_Name_kw (ld_glob I hg hm ?_ hdb)
  have hl : ([] : List Value).length = ps.length := by rw [F.pl]; exact F.len _ _ _ _ h
  refine PySem.W.callWith_K0 I.kIn hk (run_g (args := ⟨[], []⟩) F hr ?_ I .nil h)
  have := hb s [] I.kIn (by simpa using hl)
  simpa using this
/-- all by keywords, in the order ks; pm puts them in the parameters' order -/
structure KwBinds (fd : FuncData) (ps ks : List Str) (pm : {α : Type} → List α → List α) : Prop where
  to : ∀ (s : Shared) (ws : List Value), ws.length = ks.length → BindsTo s fd ⟨[], ks.zip ws⟩ (ps.zip (pm ws))
  rel : ∀ {zs : List V} {ws : List Value}, Vals zs ws → Vals (pm zs) (pm ws)
  arg : ∀ {K : PySem.W.Frag} {as : List Addr} {H0 : Hp} {zs : List V} {ss : List Sl}, ArgsOk K as H0 zs ss → ArgsOk K as H0 (pm zs) (pm ss)
def tCallKG (sp : Sp) (m : Nat) (pm : List V → List V) (t : TA) : TE := fun σ H Q => t σ H fun vs H1 => vs.length = m ∧ sp (pm vs) H1 Q E0
theorem pe_callKG {pm : {α : Type} → List α → List α} {m : Nat} (F : FnG X.prog X.w X.K X.mg X.base k f fd n ps sp) (hr : Rm k X.A) (hg : Gl X x) (hm : X.mg x = some (.ref f)) (hk : PySem.W.keepIn X.K (.ref f) = true) (hb : KwBinds fd ps ks pm) {t : TA} (hkm : ks.length = m)
    (hkw : PK X kws t) (hall : (backToKw pos (keywordEach kws X.env)).all (·.1.isSome) = true := by rfl) (hks : (backToKw pos (keywordEach kws X.env)).filterMap (·.1) = ks := by rfl) (hdb : (x == ("__debug__" : Str)) = false := by decide)
    (hpl : ((backTo pos (starEach [] X.env)).any (·.1) || (backToKw pos (keywordEach kws X.env)).any (·.1.isNone)) = false := by rfl) : PE X (.Call (.Name x p) [] kws pos) (tCallKG sp m pm t) := by
  refine ⟨fun pins s σ H Q I h => ?_⟩
  refine wpAny_Call_Name_kw (ld_glob I hg hm ?_ hdb)
  refine PySem.W.callWith_KW0 (h₀ := X.base) I.ok.mod.kin hk hall (thn (hkw.run pos pins s σ H _ I h) fun ws s1 ⟨zs, H1, I1, rz, hz, q⟩ => ⟨I1.kIn, ?_⟩) hpl
  rw [hks]
  exact run_g (args := ⟨[], ks.zip ws⟩) F hr (hb.to s1 ws (by rw [← rz.length, hz, hkm])) I1 (hb.rel rz) q
theorem to_fn {K : PySem.W.Frag} {σ : L2.St} {H : Hp} {Q : VK} (hl : ∀ ρ os ss os', ra ρ os = some (ss, os') → ss.length = n) (q : teO K (xFn M ra) σ H Q) : tCallG (spM K n M) (taO K ra) σ H Q := by
  obtain ⟨as, ρ, os, H0, d, os', n0, hx, k⟩ := q
  unfold xFn at hx
  cases h1 : ra ρ os with
  | none => rw [h1] at hx; cases hx
  | some p =>
    obtain ⟨ss, os1⟩ := p
    rw [h1, Option.bind_some] at hx
    exact ⟨as, ρ, os, H0, ss, os1, n0, h1, fun vs H1 H1' n1 g1 r1 => ⟨by rw [args_len r1]; exact hl _ _ _ _ h1, as, ss, os1, H1, d, os', n1.sub, n1.ow, r1, hx, fun v H2 H2' w2 g2 r2 => k v H2 H2' (n1.call w2 g2) (g1.tr g2) r2⟩⟩
theorem to_fnf {K : PySem.W.Frag} {σ : L2.St} {H : Hp} {Q : VK} (hl : ∀ ρ os ss os', ra ρ os = some (ss, os') → ss.length = n) (q : teF K (fFn MF ra) σ H Q) : tCallG (spF K n MF) (taO K ra) σ H Q := by
  obtain ⟨as, ρ, os, H0, d, os', n0, hx, k⟩ := q
  unfold fFn at hx
  cases h1 : ra ρ os with
  | none => rw [h1] at hx; cases hx
  | some p =>
    obtain ⟨ss, os1⟩ := p
    rw [h1, Option.bind_some] at hx
    refine ⟨as, ρ, os, H0, ss, os1, n0, h1, fun vs H1 H1' n1 g1 r1 => ⟨by rw [args_len r1]; exact hl _ _ _ _ h1, as, ss, os1, H1, d, os', n1.sub, n1.ow, r1, hx, fun p vs H2 H2' hp w2 g2 r2 r3 r4 => ?_⟩⟩
    refine k p vs H2 H2' ?_ (n1.call w2 g2) (g1.tr g2) r2 (fun z => n1.ow.trk p z hp) r3 r4
    cases z : H p with
    | none => rfl
    | some u => exact absurd hp (g1.kp p (by rw [z]; simp))
theorem to_fnk {K : PySem.W.Frag} {σ : L2.St} {H : Hp} {Q : VK} {m : Nat} {pm : {α : Type} → List α → List α} (hb : KwBinds fd ps ks pm) (hl : ∀ ρ os ss os', ra ρ os = some (ss, os') → ss.length = m ∧ (pm ss).length = n) (q : teO K (xFn (fun ss => M (pm ss)) ra) σ H Q) : tCallKG (spM K n M) m pm (taO K ra) σ H Q := by
  obtain ⟨as, ρ, os, H0, d, os', n0, hx, k⟩ := q
  unfold xFn at hx
  cases h1 : ra ρ os with
  | none => rw [h1] at hx; cases hx
  | some p =>
    obtain ⟨ss, os1⟩ := p
    rw [h1, Option.bind_some] at hx
    obtain ⟨l1, l2⟩ := hl _ _ _ _ h1
    exact ⟨as, ρ, os, H0, ss, os1, n0, h1, fun vs H1 H1' n1 g1 r1 => ⟨by rw [args_len r1]; exact l1, by rw [args_len (hb.arg r1)]; exact l2, as, pm ss, os1, H1, d, os', n1.sub, n1.ow, hb.arg r1, hx, fun v H2 H2' w2 g2 r2 => k v H2 H2' (n1.call w2 g2) (g1.tr g2) r2⟩⟩
theorem px_fn (F : FnG X.prog X.w X.K X.mg X.base k f fd n ps (spM X.K n M)) (hr : Rm k X.A) (hg : Gl X x) (hm : X.mg x = some (.ref f)) (hk : PySem.W.keepIn X.K (.ref f) = true) (hb : Binds X.K fd ps []) (ha : PXA X (e :: es) ra)
    (hl : ∀ ρ os ss os', ra ρ os = some (ss, os') → ss.length = n) (hdb : (x == ("__debug__" : Str)) = false := by decide) (he : starEach (e :: es) X.env = (false, eval e X.env) :: starEach es X.env := by rfl) (hpl : (backTo pos (starEach es X.env)).any (·.1) = false := by rfl) :
    PX X (.Call (.Name x p) (e :: es) [] pos) (xFn M ra) := pe_imp (pe_callG F hr hg hm hk hb ha hdb he hpl) fun _ _ _ q => to_fn hl q
theorem pxf_fn (F : FnG X.prog X.w X.K X.mg X.base k f fd n ps (spF X.K n MF)) (hr : Rm k X.A) (hg : Gl X x) (hm : X.mg x = some (.ref f)) (hk : PySem.W.keepIn X.K (.ref f) = true) (hb : Binds X.K fd ps []) (ha : PXA X (e :: es) ra)
    (hl : ∀ ρ os ss os', ra ρ os = some (ss, os') → ss.length = n) (hdb : (x == ("__debug__" : Str)) = false := by decide) (he : starEach (e :: es) X.env = (false, eval e X.env) :: starEach es X.env := by rfl) (hpl : (backTo pos (starEach es X.env)).any (·.1) = false := by rfl) :
    PXF X (.Call (.Name x p) (e :: es) [] pos) (fFn MF ra) := pe_imp (pe_callG F hr hg hm hk hb ha hdb he hpl) fun _ _ _ q => to_fnf hl q
theorem px_fnk {m : Nat} {pm : {α : Type} → List α → List α} (F : FnG X.prog X.w X.K X.mg X.base k f fd n ps (spM X.K n M)) (hr : Rm k X.A) (hg : Gl X x) (hm : X.mg x = some (.ref f)) (hk : PySem.W.keepIn X.K (.ref f) = true) (hb : KwBinds fd ps ks pm) (hkm : ks.length = m)
    (hkw : PK X kws (taO X.K ra)) (hl : ∀ ρ os ss os', ra ρ os = some (ss, os') → ss.length = m ∧ (pm ss).length = n) (hall : (backToKw pos (keywordEach kws X.env)).all (·.1.isSome) = true := by rfl) (hks : (backToKw pos (keywordEach kws X.env)).filterMap (·.1) = ks := by rfl) (hdb : (x == ("__debug__" : Str)) = false := by decide)
    (hpl : ((backTo pos (starEach [] X.env)).any (·.1) || (backToKw pos (keywordEach kws X.env)).any (·.1.isNone)) = false := by rfl) : PX X (.Call (.Name x p) [] kws pos) (xFn (fun ss => M (pm ss)) ra) :=
  pe_imp (pe_callKG F hr hg hm hk hb hkm hkw hall hks hdb hpl) fun _ _ _ q => to_fnk hb hl q
/-- a fresh one is data, too -/
theorem px_fnf (F : FnG X.prog X.w X.K X.mg X.base k f fd n ps (spF X.K n MF)) (hr : Rm k X.A) (hg : Gl X x) (hm : X.mg x = some (.ref f)) (hk : PySem.W.keepIn X.K (.ref f) = true) (hb : Binds X.K fd ps []) (ha : PXA X (e :: es) ra)
    (hl : ∀ ρ os ss os', ra ρ os = some (ss, os') → ss.length = n) (hdb : (x == ("__debug__" : Str)) = false := by decide) (he : starEach (e :: es) X.env = (false, eval e X.env) :: starEach es X.env := by rfl) (hpl : (backTo pos (starEach es X.env)).any (·.1) = false := by rfl) :
    PX X (.Call (.Name x p) (e :: es) [] pos) (xF (fFn MF ra)) := px_of_f (pxf_fn F hr hg hm hk hb ha hl hdb he hpl)
/-- keyword values -/
theorem pk_imp {t t' : TA} (h : PK X kws t) (k : ∀ σ H Q, t' σ H Q → t σ H Q) : PK X kws t' := ⟨fun pos pins s σ H Q I q => h.run pos pins s σ H Q I (k _ _ _ q)⟩
theorem pxk_nil : PK X [] (taO X.K xaNil) := pk_imp pk_nil fun σ H Q q => by
  obtain ⟨as, ρ, os, H0, d, os', n, hx, k⟩ := q
  cases hx
  exact k [] H0 H n (Gr.refl n.sub) True.intro
theorem pxk_d {nm : Option Str} {kpos : Pos} {xa : XE} (ha : PX X e xa) (hr : PK X kws (taO X.K ra)) : PK X (⟨nm, e, kpos⟩ :: kws) (taO X.K (xaD xa ra)) := pk_imp (pk_cons ha hr) fun σ H Q q => by
  obtain ⟨as, ρ, os, H0, d, os', n, hx, k⟩ := q
  unfold xaD at hx
  cases h1 : xa ρ os with
  | none => rw [h1] at hx; cases hx
  | some p =>
    rw [h1, Option.bind_some] at hx
    cases h2 : ra ρ p.2 with
    | none => rw [h2] at hx; cases hx
    | some q =>
      rw [h2] at hx
      cases hx
      refine ⟨as, ρ, os, H0, p.1, p.2, n, h1, fun v H0' H' n1 g1 r1 => ⟨as, ρ, p.2, H0', q.1, q.2, n1, h2, fun vs H2 H2' n2 g2 r2 => ?_⟩⟩
      exact k (v :: vs) H2 H2' n2 (g1.tr g2) ⟨Da.mono g2.e0 _ _ r1, r2⟩
end
/-- the number of arguments -/
theorem xaNil_len {ρ : List Sl} {os os' : Os} {ss : List Sl} (h : xaNil ρ os = some (ss, os')) : ss.length = 0 := by cases h; rfl
theorem xaD_len {xa : XE} {ra : XA} {m : Nat} (hr : ∀ ρ os ss os', ra ρ os = some (ss, os') → ss.length = m) (ρ : List Sl) (os : Os) (ss : List Sl) (os' : Os) (h : xaD xa ra ρ os = some (ss, os')) : ss.length = m + 1 := by
  unfold xaD at h
  cases h1 : xa ρ os with
  | none => rw [h1] at h; cases h
  | some p =>
    rw [h1, Option.bind_some] at h
    cases h2 : ra ρ p.2 with
    | none => rw [h2] at h; cases h
    | some q =>
      rw [h2] at h
      cases h
      rw [List.length_cons, hr _ _ _ _ h2]
theorem xaO_len {i : Nat} {ra : XA} {m : Nat} (hr : ∀ ρ os ss os', ra ρ os = some (ss, os') → ss.length = m) (ρ : List Sl) (os : Os) (ss : List Sl) (os' : Os) (h : xaO i ra ρ os = some (ss, os')) : ss.length = m + 1 := by
  unfold xaO at h
  split at h
  · cases h2 : ra ρ os with
    | none => rw [h2] at h; cases h
    | some q =>
      rw [h2] at h
      cases h
      rw [List.length_cons, hr _ _ _ _ h2]
  · cases h
end DL
namespace DL
open PySem PySem.Spec PyProof.Rows L2 Evl
/-! ### the law's own end -/
theorem end_g {P : Program} {w : World} {K : PySem.W.Frag} {mg mb : Str → Option Value} {k : Nat} {fa a : Addr} {fd : FuncData} {x : Str} {M : XM} {s1 : Shared} {vs : List Value} {ns : List Int}
    (KX : K.In s1.heap) (hns : s1.heap.Ns mainGlobals mg) (hb : s1.heap.Ns builtinsNs mb) (hbb : ∀ x : Str, x ≠ "__name__" → mb x = bootBuiltins x) (hlim : s1.heap.NoLimit) (hg : s1.gens = #[])
    (ha : s1.heap.get? a = some { cls := .type "list", data := .seq vs.toArray }) (hi : IntsAre vs ns) (hl : ns.length ≤ sizeLine) (hr : Rm k callerA)
    (F : ∀ base : Heap, K.In base → base.Ns mainGlobals mg → FnG P w K mg base k fa fd 1 [x] (spM K 1 M)) (hbind : ∀ (s : Shared) (u : Value), BindsTo s fd ⟨[u], []⟩ [(x, u)])
    (hM : ∃ w', M [.d (.list (ns.map PyData.int))] [] = some (.bool true, w')) :
    codeAny (model P w) callerA (.call (.ref fa) ⟨[.ref a], []⟩) (fun r s' => r = .ok (.ret (.bool true)) ∧ OldK s1.heap s'.heap ∧ s'.os = s1.os ∧ AllBare s'.gens) s1 := by
  have rv := vals_ints hi
  have lenV := hi.length
  have core : ∀ H : Hp, Only H → SqL K H a (ns.map V.int) → HOk P w H s1.heap → (∀ b, H b ≠ none → b = a) → (H a ≠ none → K.lookup a = none) →
      codeAny (model P w) callerA (.call (.ref fa) ⟨[.ref a], []⟩) (fun r s' => r = .ok (.ret (.bool true)) ∧ OldK s1.heap s'.heap ∧ s'.os = s1.os ∧ AllBare s'.gens) s1 := by
    intro H hO hS hok hA hK
    have other : ∀ {b : Addr} {o : Obj}, s1.heap.get? b = some o → (b = a → H a ≠ none → False) → H b = none := fun {b o} e n => by
      cases q : H b with
      | none => rfl
      | some u =>
        have e' := hA b (by rw [q]; simp)
        exact (n e' (by rw [← e', q]; simp)).elim
    have noA : ∀ {b : Addr} {o : Obj} {es : Array DictEntry} {ep : Nat}, s1.heap.get? b = some o → o.data = .dict es ep → H b = none := fun {b o es ep} e d => other e fun e' _ => by
      subst e'
      rw [ha] at e
      cases e
      have d' : Data.seq vs.toArray _ = Data.dict es ep := d
      cases d'
    have nsK : ∀ {b : Addr} {m : Str → Option Value}, s1.heap.Ns b m → (hidT s1.heap H).Ns b m := fun {b m} ⟨o, es, ep, e, d, r⟩ => ⟨o, es, ep, hidT_get e (noA e d), d, r⟩
    have hKb : K.In (hidT s1.heap H) := fun b o e => hidT_get (KX b o e) (other (KX b o e) fun e' hn => by
      subst e'
      rw [hK hn] at e
      cases e)
    obtain ⟨mc, l1, l2⟩ := hlim
    have hM1 : Mod K mg (hidT s1.heap H) := ⟨hKb, nsK hns, ⟨mb, nsK hb, hbb⟩, ⟨mc, nsK l1, l2⟩⟩
    have e0 : Env0 P w K mg (hidT s1.heap H) callerA [] s1 H := ⟨rfl, hM1, fun b o e => of_hidT e, Nat.le_of_eq (hidT_size _ _), trivial, fun b hb => absurd (show b ∈ ([] : List Addr) from hb) (by simp), hok, .of_eq hg⟩
    obtain ⟨w', hw⟩ := hM
    have hsp : spM K 1 M [.ref a] H (fun v _ => v = .bl true) E0 :=
      ⟨rfl, [], [.d (.list (ns.map PyData.int))], [], H, _, w', Ex.refl H, ⟨List.nodup_nil, rfl, fun _ h => absurd h (by simp), fun _ _ _ h => by simp at h⟩, ⟨.lst hS (DaAll.of_ints ns), True.intro⟩, hw, fun v H0' H' _ _ r => by cases r; rfl⟩
    refine codeAny_mono ((F _ hKb (nsK hns)).run callerA [] s1 H ⟨[.ref a], []⟩ [.ref a] [.ref a] _ _ hr e0 (hbind s1 (.ref a)) (.cons rfl .nil) hsp) fun r s' h => ?_
    cases r with
    | error e =>
      obtain ⟨_, _, _, _, _, _, _, _, _, _, _, _, z⟩ := h
      exact z.elim
    | ok fl =>
      cases fl with
      | ret u =>
        obtain ⟨v, H', os, bare, un, hok', r', q⟩ := h
        subst q
        obtain rfl : u = Value.bool true := r'
        refine ⟨rfl, OldK.of_keep fun b o e => ?_, os, bare⟩
        cases q : H b with
        | none => exact un.keep b o e q (fun z => absurd (show b ∈ ([] : List Addr) from z) (by simp)) (by simp)
        | some u =>
          rcases hO b with z | ⟨ob, xs, z⟩
          · rw [q] at z
            cases z
          · obtain ⟨e1, _⟩ := hok b _ z
            obtain ⟨e2, _⟩ := hok' b _ (un.frzs b ob _ z)
            rw [e] at e1
            cases e1
            exact e2
      | _ => exact h.elim
  cases hk : K.lookup a with
  | some o =>
    have e := KX a o hk
    rw [ha] at e
    cases e
    exact core (fun _ => none) (fun _ => .inl rfl) (.inr ⟨_, vs.toArray, _, hk, rfl, rfl, rfl, by rw [List.size_toArray, lenV]; exact hl, by simpa using rv⟩) (fun b u z => nomatch z) (fun b z => absurd rfl z) fun z => absurd rfl z
  | none =>
    have at_ : ∀ {b : Addr} {u : HO}, (if b = a then some (HO.frz { cls := .type "list", data := .seq vs.toArray } (.lst (ns.map V.int))) else none) = some u → b = a ∧ u = .frz { cls := .type "list", data := .seq vs.toArray } (.lst (ns.map V.int)) := fun {b u} z => by
      split at z
      · cases z
        exact ⟨by assumption, rfl⟩
      · cases z
    refine core (fun b => if b = a then some (.frz { cls := .type "list", data := .seq vs.toArray } (.lst (ns.map V.int))) else none) (fun b => ?_) (.inl (.inr ⟨_, if_pos rfl⟩)) (fun b u z => ?_) (fun b z => ?_) fun _ => hk
    · by_cases hb : b = a
      · exact .inr ⟨_, _, if_pos hb⟩
      · exact .inl (if_neg hb)
    · obtain ⟨rfl, rfl⟩ := at_ z
      exact ⟨ha, by rw [List.length_map]; exact hl, vs, _, rv, ha⟩
    · by_cases hb : b = a
      · exact hb
      · exact absurd (if_neg hb) z
theorem walk_g {l : PySem.W.OpenLaw} {n k : Nat} {q : Program} {loose : List Str} {XP : (Str → Option Value) → Heap → Prop} {YP : World → Heap → Prop} {d : DefRec} {K : Params → PySem.W.Frag} {M : XM} {x : Str}
    (hn : l.most = some n) (hn2 : n ≤ sizeLine) (hdf : d.params.defaults = []) (hr : Rm k callerA) (hY : ∀ (w : World) (h : Heap), YP w h → (K w.params).In h)
    (F : ∀ (w : World) (mg : Str → Option Value) (fa : Addr) (h : Heap), (K w.params).In h → h.Ns mainGlobals mg → mg d.name = some (.ref fa) →
      ∃ fd : FuncData, (∀ (s : Shared) (u : Value), BindsTo s fd ⟨[u], []⟩ [(x, u)]) ∧ ∀ base : Heap, (K w.params).In base → base.Ns mainGlobals mg → FnG l.prog w (K w.params) mg base k fa fd 1 [x] (spM (K w.params) 1 M))
    (hM : ∀ ns : List Int, ns.length ≤ n → ∃ w', M [.d (.list (ns.map PyData.int))] [] = some (.bool true, w')) :
    PySem.W.WalkO q loose XP YP l.row.toRowW d [] (fun f vs => PySem.call f vs) := by
  refine Att.attach_call hn hdf fun w s0 s1 mg mb fa o pm cd doc a vs ns G Y ho hd hcd hmg hobj hints hlen hg => ?_
  have KX := hY w _ Y
  obtain ⟨fd, hb, hF⟩ := F w mg fa _ KX G.T.g hmg
  exact end_g KX G.T.g G.T.b G.T.builtins G.T.nolimit hg hobj hints (Nat.le_trans hlen hn2) hr hF hb (hM ns hlen)
end DL

set_option Elab.async false
set_option linter.all false
set_option maxRecDepth 100000
set_option maxHeartbeats 4000000
namespace DL
open PySem PySem.Spec PyProof.Rows L2 Evl
section
variable {X : Cx} {W : WX} {fr : Option Nat} {e a b : Expr} {xe xa xb : XE} {ra : XA} {pos : Pos} {st : Stmt} {i j l : Nat}
/-- {} -/
theorem px_dct : PX X (.Dict [] [] pos) (xC (.dict [])) := pe_imp pe_dnewK fun σ H Q q => by
  obtain ⟨as, ρ, os, H0, d, os', n, hx, k⟩ := q
  cases hx
  intro p hp
  exact k _ _ _ (n.grow (Gr.new n.sub hp)) (Gr.mono (Gr.new n.sub hp) (fun _ h => absurd h (by simp))) (.dct upd_same)
/-- y = [..] on one line -/
theorem psx_asgN {i : Nat} (h : PS X st (tAsg (teO X.K xe) (gName i))) : PSX X W fr st (sAsg xe (gNm i)) := ps_imp h fun D σ H q => by
  obtain ⟨as0, Hs, as, ρ, os, H0, o, bs0, n, hx, k⟩ := q
  unfold sAsg gNm at hx
  cases h : xe ρ os with
  | none => rw [h] at hx; cases hx
  | some p =>
    obtain ⟨d, os1⟩ := p
    rw [h] at hx
    cases hx
    exact ⟨as, ρ, os, H0, d, os1, n, h, fun v H0' H' n1 g1 r1 => k as _ H0' H' Exs.refl (n1.set i r1) g1⟩
theorem ps_impE {te te' : TE} {g : TG} (h : PS X st (tAsg te g)) (k : ∀ σ H Q, te' σ H Q → te σ H Q) : PS X st (tAsg te' g) := ps_imp h fun D σ H q => k _ _ _ q
/-- a list's making as a value, from its making as a new one -/
theorem teO_of_F {K : PySem.W.Frag} {x : XI} (σ : L2.St) (H : Hp) (Q : VK) (q : teO K (xF x) σ H Q) : teF K x σ H Q := by
  obtain ⟨as, ρ, os, H0, d, os', n, hx, k⟩ := q
  unfold xF at hx
  cases h1 : x ρ os with
  | none => rw [h1] at hx; cases hx
  | some q =>
    obtain ⟨ds, os1⟩ := q
    rw [h1] at hx
    cases hx
    exact ⟨as, ρ, os, H0, ds, os1, n, h1, fun p vs H0' H' hp n1 g1 h2 h3 h4 r => k _ _ H' (n1.keep h2 h3 h4) (keep_new n.sub g1 hp h2 h4) (.lst (SqL.of upd_same) (r.mono (Ex.new h2)))⟩
theorem psx_setLc {x : XI} {i : Nat} (h : PS X st (tAsg (teF X.K x) (gName i))) : PSX X W fr st (sAsg (xF x) (gNm i)) := psx_asgN (ps_impE h teO_of_F)
theorem psx_ownLc {x : XI} {i : Nat} (h : PS X st (tAsg (teF X.K x) (gName i))) : PSX X W fr st (sOwn i x) := ps_imp h fun _ _ _ q => to_own q
theorem ps_lcF {own : List (Str × Nat)} {xi : XI} {xg : XG} {js : List Nat} {tt : XT} {te : XE} {g : TG} (hj : ∀ j ∈ js, j ∈ own.map (·.2))
    (h : PS X st (tAsg (tLc (tiO X.K xi) (gO X.K xg js) (ttO X.K tt) (teO X.K te) (own.map (·.2))) g)) : PS X st (tAsg (teF X.K (lcD xi xg tt te (own.map (·.2)))) g) := ps_impE h fun _ _ _ q => to_lc hj q
/-- a, b = e, f -/
def sPar (i j : Nat) (xa xb : XE) : SE := fun ρ os => (xa ρ os).bind fun p => (xb ρ p.2).map fun q => .nx ((ρ.set i (.d p.1)).set j (.d q.1)) q.2
theorem psx_par (h : PS X st (tPar i j (tCons (teO X.K xa) (tCons (teO X.K xb) tNil)))) : PSX X W fr st (sPar i j xa xb) := ps_imp h fun D σ H q => by
  obtain ⟨as0, Hs, as, ρ, os, H0, o, bs0, n, hx, k⟩ := q
  unfold sPar at hx
  cases h1 : xa ρ os with
  | none => rw [h1] at hx; cases hx
  | some p =>
    obtain ⟨d, os1⟩ := p
    rw [h1, Option.bind_some] at hx
    cases h2 : xb ρ os1 with
    | none => simp only [h2] at hx; cases hx
    | some q =>
      simp only [h2] at hx
      cases hx
      exact ⟨as, ρ, os, H0, d, os1, n, h1, fun v H1 H1' n1 g1 r1 => ⟨as, ρ, os1, H1, q.1, q.2, n1, h2, fun u H2 H2' n2 g2 r2 => ⟨v, u, rfl, k as _ H2 H2' Exs.refl ((n2.set i (r1.mono g2.e0)).set j r2) (g1.tr g2)⟩⟩⟩
/-- a, b = [..], f with a one's own -/
def sParO (i j : Nat) (xa : XI) (xb : XE) : SE := fun ρ os => (xa ρ os).bind fun p => (xb ρ p.2).map fun q => .nx ((ρ.set i (.o q.2.length)).set j (.d q.1)) (q.2 ++ [some (.l p.1)])
/-- three at once -/
def sPar3 (i j l : Nat) (xa xb xc : XE) : SE := fun ρ os => (xa ρ os).bind fun p => (xb ρ p.2).bind fun q => (xc ρ q.2).map fun r => .nx (((ρ.set i (.d p.1)).set j (.d q.1)).set l (.d r.1)) r.2
theorem psx_par3 {xc : XE} (h : PS X st (tPar3 i j l (tCons (teO X.K xa) (tCons (teO X.K xb) (tCons (teO X.K xc) tNil))))) : PSX X W fr st (sPar3 i j l xa xb xc) := ps_imp h fun D σ H q => by
  obtain ⟨as0, Hs, as, ρ, os, H0, o, bs0, n, hx, k⟩ := q
  unfold sPar3 at hx
  cases h1 : xa ρ os with
  | none => rw [h1] at hx; cases hx
  | some p =>
    rw [h1, Option.bind_some] at hx
    cases h2 : xb ρ p.2 with
    | none => rw [h2] at hx; cases hx
    | some q =>
      rw [h2, Option.bind_some] at hx
      cases h3 : xc ρ q.2 with
      | none => rw [h3] at hx; cases hx
      | some r =>
        rw [h3] at hx
        cases hx
        exact ⟨as, ρ, os, H0, p.1, p.2, n, h1, fun v H1 H1' n1 g1 r1 => ⟨as, ρ, p.2, H1, q.1, q.2, n1, h2, fun u H2 H2' n2 g2 r2 => ⟨as, ρ, q.2, H2, r.1, r.2, n2, h3, fun w H3 H3' n3 g3 r3 =>
          ⟨v, u, w, rfl, k as _ H3 H3' Exs.refl (((n3.set i (r1.mono (g2.e0.trans g3.e0))).set j (r2.mono g3.e0)).set l r3) ((g1.tr g2).tr g3)⟩⟩⟩⟩
/-- the first a list of one's own -/
theorem psx_parO {xa : XI} (hij : i ≠ j) (h : PS X st (tPar i j (tCons (teF X.K xa) (tCons (teO X.K xb) tNil)))) : PSX X W fr st (sParO i j xa xb) := ps_imp h fun D σ H q => by
  obtain ⟨as0, Hs, as, ρ, os, H0, o, bs0, n, hx, k⟩ := q
  unfold sParO at hx
  cases h1 : xa ρ os with
  | none => rw [h1] at hx; cases hx
  | some p =>
    obtain ⟨ds, os1⟩ := p
    rw [h1, Option.bind_some] at hx
    cases h2 : xb ρ os1 with
    | none => simp only [h2] at hx; cases hx
    | some q =>
      simp only [h2] at hx
      cases hx
      refine ⟨as, ρ, os, H0, ds, os1, n, h1, fun p vs H1 H1' hp n1 g1 z1 z2 z3 r1 => ⟨as, ρ, os1, H1, q.1, q.2, n1, h2, fun u H2 H2' n2 g2 r2 => ⟨_, u, rfl, ?_⟩⟩⟩
      have p2 : H2' p = some (.lst vs) := g2.e1 p _ z2 z3
      have p0 : H2 p = none := by
        cases z : H2 p with
        | none => rfl
        | some u =>
          have := g2.nw p u z2 z (by rw [z3]; simp)
          rw [z1] at this
          cases this
      refine k (as ++ [p]) _ H2 H2' ⟨[p], rfl, by simpa using hp⟩ ?_ (g1.tr g2)
      exact (n2.own (ob := .l ds) i p0 z2 p2 (DaAll.mono g2.e0 _ _ r1)).set j r2
/-- x += e, of whole numbers -/
def sAug (i : Nat) (f : Int → Int → Int) (xe : XE) : SE := fun ρ os => match ρ[i]? with
  | some (.d (.int v)) => (xe ρ os).bind fun p => match p.1 with
    | .int w => some (.nx (ρ.set i (.d (.int (f v w)))) p.2)
    | _ => none
  | _ => none
theorem psx_aug {f : Int → Int → Int} (h : PS X st (tAug i (teO X.K xe) (ipI f))) : PSX X W fr st (sAug i f xe) := ps_imp h fun D σ H q => by
  obtain ⟨as0, Hs, as, ρ, os, H0, o, bs0, n, hx, k⟩ := q
  unfold sAug at hx
  split at hx
  · rename_i v hv
    obtain ⟨u, e1, r⟩ := n.dat i _ hv
    have eu := da_intI r
    subst eu
    cases h1 : xe ρ os with
    | none => rw [h1] at hx; cases hx
    | some p =>
      obtain ⟨d, os1⟩ := p
      rw [h1, Option.bind_some] at hx
      cases d with
      | int w =>
        cases hx
        refine ⟨_, e1, as, ρ, os, H0, _, os1, n, h1, fun y H1 H1' n1 g1 r1 => ?_⟩
        have ey := da_intI r1
        subst ey
        exact ⟨v, w, rfl, rfl, k as _ H1 H1' Exs.refl (n1.set i (.int _)) g1⟩
      | _ => cases hx
  · cases hx
end
/-! an expression that reads lists of one's own as data, and gives something flat -/
def viewS (os : Os) : Sl → Sl
  | .o k => match os[k]? with
    | some (some (.l ds)) => .d (.list ds)
    | _ => .u
  | s => s
def flatD : PyData → Bool
  | .list _ => false
  | .tuple _ => false
  | .dict _ => false
  | _ => true
def xView (x : XE) : XE := fun ρ os => (x (ρ.map (viewS os)) []).bind fun p => if flatD p.1 = true then some (p.1, os) else none
theorem da_flat {K : PySem.W.Frag} {H H' : Hp} {v : V} {d : PyData} (h : flatD d = true) (r : Da K H v d) : Da K H' v d := by
  cases r with
  | non => exact .non
  | bl b => exact .bl b
  | int i => exact .int i
  | str x => exact .str x
  | _ => cases h
theorem en_view {K : PySem.W.Frag} {as : List Addr} {ρ : List Sl} {os : Os} {σ : L2.St} {H0 H : Hp} (n : En K as ρ os σ H0 H) : ∃ Hv, Ex H0 Hv ∧ En K [] (ρ.map (viewS os)) [] σ Hv H := by
  have key : ∀ a, a ∈ as → H0 a = none → ∃ o, H a = some o := fun a ha _ => by
    cases q : H a with
    | none => exact absurd q (n.ow.trk a ha)
    | some o => exact ⟨o, rfl⟩
  refine ⟨fun a => if a ∈ as ∧ H0 a = none then H a else H0 a, fun a o e => by show (if a ∈ as ∧ H0 a = none then H a else H0 a) = some o; rw [if_neg (by rw [e]; simp)]; exact e, fun a o e => ?_, by rw [List.length_map]; exact n.len, fun i x h => ?_, fun i k h => ?_, List.nodup_nil, rfl, fun _ h => absurd h (by simp), fun _ _ _ h => by simp at h⟩
  · have e : (if a ∈ as ∧ H0 a = none then H a else H0 a) = some o := e
    by_cases c : a ∈ as ∧ H0 a = none
    · rw [if_pos c] at e
      exact e
    · rw [if_neg c] at e
      exact n.sub a o e
  · have up : Ex H0 fun a => if a ∈ as ∧ H0 a = none then H a else H0 a := fun a o e => by show (if a ∈ as ∧ H0 a = none then H a else H0 a) = some o; rw [if_neg (by rw [e]; simp)]; exact e
    rw [List.getElem?_map] at h
    cases q : ρ[i]? with
    | none => rw [q] at h; cases h
    | some s =>
      rw [q] at h
      cases s with
      | u => cases h
      | d y =>
        cases h
        obtain ⟨v, e1, r⟩ := n.dat i _ q
        exact ⟨v, e1, r.mono up⟩
      | o k =>
        obtain ⟨a, e1, e2⟩ := n.ref i k q
        simp only [Option.map_some, viewS] at h
        split at h
        · rename_i ds hds
          cases h
          obtain ⟨q1, vs, q2, q3⟩ := n.ow.l k a ds e1 hds
          exact ⟨_, e2, .lst (SqL.of (by show (if a ∈ as ∧ H0 a = none then H a else H0 a) = _; rw [if_pos ⟨List.mem_of_getElem? e1, q1⟩]; exact q2)) (q3.mono up)⟩
        · cases h
  · rw [List.getElem?_map] at h
    cases q : ρ[i]? with
    | none => rw [q] at h; cases h
    | some s =>
      rw [q] at h
      cases s with
      | u => cases h
      | d y => cases h
      | o k =>
        simp only [Option.map_some, viewS] at h
        split at h <;> cases h
theorem px_view {X : Cx} {e : Expr} {x : XE} (h : PX X e x) : PX X e (xView x) := pe_imp h fun σ H Q q => by
  obtain ⟨as, ρ, os, H0, d, os', n, hx, k⟩ := q
  unfold xView at hx
  cases h1 : x (ρ.map (viewS os)) [] with
  | none => rw [h1] at hx; cases hx
  | some p =>
    obtain ⟨y, os1⟩ := p
    rw [h1, Option.bind_some] at hx
    simp only at hx
    split at hx
    · rename_i hf
      cases hx
      obtain ⟨Hv, up, nv⟩ := en_view n
      refine ⟨[], _, [], Hv, d, os1, nv, h1, fun v H1 H1' n1 g1 r1 => ?_⟩
      have ex : Ex H0 H1' := (up.trans g1.e0).trans g1.sub
      refine k v H0 H1' ⟨ex, n.len, n.dat, n.ref, n.ow.nd, n.ow.len, fun a ha => g1.kp a (n.ow.trk a ha), fun j a ds e1 e2 => ?_⟩ ⟨Ex.refl _, fun a o _ e => g1.e1 a o (by simp) e, fun _ _ _ e _ => e, g1.kp, ex⟩ (da_flat hf r1)
      obtain ⟨q1, vs, q2, q3⟩ := n.ow.at_ j a ds e1 e2
      exact ⟨q1, vs, g1.e1 a _ (by simp) q2, q3⟩
    · cases hx
def tView (t : XT) : XT := fun ρ os => (t (ρ.map (viewS os)) []).map fun p => (p.1, os)
theorem pxt_view {X : Cx} {e : Expr} {x : XT} (h : PXT X e x) : PXT X e (tView x) := pt_imp h fun σ H Q q => by
  obtain ⟨as, ρ, os, H0, d, os', n, hx, k⟩ := q
  unfold tView at hx
  cases h1 : x (ρ.map (viewS os)) [] with
  | none => rw [h1] at hx; cases hx
  | some p =>
    obtain ⟨y, os1⟩ := p
    rw [h1] at hx
    cases hx
    obtain ⟨Hv, up, nv⟩ := en_view n
    refine ⟨[], _, [], Hv, _, os1, nv, h1, fun H1 H1' n1 g1 => ?_⟩
    have ex : Ex H0 H1' := (up.trans g1.e0).trans g1.sub
    refine k H0 H1' ⟨ex, n.len, n.dat, n.ref, n.ow.nd, n.ow.len, fun a ha => g1.kp a (n.ow.trk a ha), fun j a ds e1 e2 => ?_⟩ ⟨Ex.refl _, fun a o _ e => g1.e1 a o (by simp) e, fun _ _ _ e _ => e, g1.kp, ex⟩
    obtain ⟨q1, vs, q2, q3⟩ := n.ow.at_ j a ds e1 e2
    exact ⟨q1, vs, g1.e1 a _ (by simp) q2, q3⟩
/-- a comparison as a test -/
theorem pxt_cmp {X : Cx} {op : CmpOp} {f : PyData → PyData → Option PyData} {a b : Expr} {xa xb : XE} {pos : Pos} (ho : OpR X (compareOp op) (rD X.K f)) (ha : PX X a xa) (hb : PX X b xb) (hm : behindInMarks op b = false) : PXT X (.Compare a [op] [b] pos) (xBool (xOp f xa xb)) :=
  pt_imp (pt_cmpR ho ha hb hm) fun σ H Q q => by
    obtain ⟨as, ρ, os, H0, d, os', n, hx, k⟩ := q
    unfold xBool at hx
    cases h1 : xOp f xa xb ρ os with
    | none => rw [h1] at hx; cases hx
    | some p =>
      obtain ⟨y, os1⟩ := p
      rw [h1, Option.bind_some] at hx
      cases y with
      | bool c =>
        cases hx
        exact to_op ⟨as, ρ, os, H0, _, _, n, h1, fun v H1 H1' n1 g1 r1 => by
          cases r1
          exact ⟨_, rfl, k H1 H1' n1 g1⟩⟩
      | _ => cases hx
/-! keywords: the parameters' values picked from the written ones -/
def pmI (js : List Nat) {α : Type} (l : List α) : List α := js.filterMap fun j => l[j]?
theorem pmI_rel : ∀ (js : List Nat) {zs : List V} {ws : List Value}, Vals zs ws → Vals (pmI js zs) (pmI js ws)
  | [], _, _, _ => .nil
  | j :: js, zs, ws, h => by
    unfold pmI
    simp only [List.filterMap_cons]
    cases q : zs[j]? with
    | none =>
      rw [Vals.none_of h q]
      exact pmI_rel js h
    | some x =>
      obtain ⟨u, h1, h2⟩ := h.get q
      rw [h1]
      exact .cons h2 (pmI_rel js h)
theorem args_none {K : PySem.W.Frag} {as : List Addr} {H0 : Hp} {zs : List V} {ss : List Sl} {j : Nat} (h : ArgsOk K as H0 zs ss) (e : ss[j]? = none) : zs[j]? = none := by
  have := args_len h
  have h2 := List.getElem?_eq_none_iff.mp e
  exact List.getElem?_eq_none_iff.mpr (by omega)
theorem pmI_arg {K : PySem.W.Frag} {as : List Addr} {H0 : Hp} : ∀ (js : List Nat) {zs : List V} {ss : List Sl}, ArgsOk K as H0 zs ss → ArgsOk K as H0 (pmI js zs) (pmI js ss)
  | [], _, _, _ => True.intro
  | j :: js, zs, ss, h => by
    unfold pmI
    simp only [List.filterMap_cons]
    cases q : ss[j]? with
    | none =>
      rw [args_none h q]
      exact pmI_arg js h
    | some x =>
      obtain ⟨u, h1, h2⟩ := args_at h q
      rw [h1]
      exact ⟨h2, pmI_arg js h⟩
theorem kwb {K : PySem.W.Frag} {x qual : Str} {st : Stmt} {f : Addr} {fd : FuncData} {ps ks : List Str} {js : List Nat} (F : Fun K x qual st f fd)
    (h : ∀ (kV doc pm : Value) (an : Option Addr) (cdv ct : Value) (ws : List Value), ws.length = ks.length → bindArgs (PySem.W.fnOf x qual (defArgs st) (defBody st) (defScope st) .none kV doc pm an cdv ct) ⟨[], ks.zip ws⟩ = pure (ps.zip (pmI js ws))) : KwBinds fd ps ks (pmI js) := by
  obtain ⟨oc, od, kV, doc, pm, an, cdv, ct, osl, rfl, lk, hcd⟩ := F.ex
  exact ⟨fun s ws hl => .of_eq (h kV doc pm an cdv ct ws hl), pmI_rel js, pmI_arg js⟩
theorem pmI_len : ∀ {js : List Nat} {α : Type} {l : List α} {m : Nat}, (∀ j ∈ js, j < m) → l.length = m → l.length = m ∧ (pmI js l).length = js.length
  | [], _, _, _, _, h => ⟨h, rfl⟩
  | j :: js, _, l, m, hj, h => by
    refine ⟨h, ?_⟩
    have ih := (pmI_len (js := js) (fun i hi => hj i (List.mem_cons_of_mem _ hi)) h).2
    unfold pmI at ih ⊢
    simp only [List.filterMap_cons]
    have h1 : j < l.length := by rw [h]; exact hj j List.mem_cons_self
    rw [List.getElem?_eq_getElem h1, List.length_cons, List.length_cons, ih]
/-- a def that hands back a new list, taken as data -/
def asM (M : XMF) : XM := fun ss os => (M ss os).map fun p => (.list p.1, p.2)
theorem asM_ok {P : Program} {w : World} {K : PySem.W.Frag} {mg : Str → Option Value} {base : Heap} {k n : Nat} {f : Addr} {fd : FuncData} {ps : List Str} {M : XMF} (F : FnG P w K mg base k f fd n ps (spF K n M)) : FnG P w K mg base k f fd n ps (spM K n (asM M)) := by
  refine ⟨F.pl, fun vs H Q E h => h.1, fun A outer s H args us vs Q E hr e0 hb r h => F.run A outer s H args us vs Q E hr e0 hb r ?_⟩
  obtain ⟨hlen, as, ss, os, H0, d, os', h1, h2, h3, h4, h5⟩ := h
  unfold asM at h4
  cases q : M ss os with
  | none => rw [q] at h4; cases h4
  | some p =>
    obtain ⟨ds, os1⟩ := p
    rw [q] at h4
    cases h4
    refine ⟨hlen, as, ss, os, H0, ds, _, h1, h2, h3, q, fun p vs H0' H' hp w2 g2 r1 r2 r3 => ?_⟩
    exact h5 _ _ H' (w2.keep r1 fun z => h2.trk p z hp) (keep_new h1 g2 hp r1 r2) (.lst (SqL.of upd_same) (r3.mono (Ex.new r1)))
theorem bt_len : bootBuiltins "len" = some (.builtin "len") := by decide +kernel
theorem bt_max : bootBuiltins "max" = some (.builtin "max") := by decide +kernel
theorem bt_min : bootBuiltins "min" = some (.builtin "min") := by decide +kernel
theorem bt_sum : bootBuiltins "sum" = some (.builtin "sum") := by decide +kernel
theorem bt_all : bootBuiltins "all" = some (.builtin "all") := by decide +kernel
theorem bt_any : bootBuiltins "any" = some (.builtin "any") := by decide +kernel
theorem bt_repr : bootBuiltins "repr" = some (.builtin "repr") := by decide +kernel
theorem bt_int : bootBuiltins "int" = some (.type "int") := by decide +kernel
theorem bt_bool : bootBuiltins "bool" = some (.type "bool") := by decide +kernel
theorem bt_str : bootBuiltins "str" = some (.type "str") := by decide +kernel
theorem bt_list : bootBuiltins "list" = some (.type "list") := by decide +kernel
theorem bt_tuple : bootBuiltins "tuple" = some (.type "tuple") := by decide +kernel
theorem Rm.u64 {k : Nat} {A : Around} (r : Rm k A) : A.units + 64 < cLine := r.room.units
theorem Rm.u65 {k : Nat} {A : Around} (r : Rm k A) : A.units + 65 < cLine := by have := r.room.un; omega
abbrev ltD := cmpD fun i j => decide (i < j)
abbrev leD := cmpD fun i j => decide (i ≤ j)
abbrev gtD := cmpD fun i j => decide (j < i)
abbrev geD := cmpD fun i j => decide (j ≤ i)
end DL

set_option Elab.async false
set_option linter.all false
set_option maxRecDepth 100000
set_option maxHeartbeats 4000000
namespace DL
open PySem PySem.Spec PyProof.Rows L2 Evl
section
variable {X : Cx} {e : Expr} {es : List Expr} {xe : XE} {ra : XA} {pos p : Pos}
/-- x[::-1] -/
def fRev (xe : XE) : XI := fun ρ os => (xe ρ os).bind fun p => match p.1 with
  | .list c => some (c.reverse, p.2)
  | _ => none
theorem DaAll.app2 {K : PySem.W.Frag} {H : Hp} {vs ws : List V} {ds es : List PyData} (h : DaAll K H vs ds) (g : DaAll K H ws es) : DaAll K H (vs ++ ws) (ds ++ es) := h.app g
theorem DaAll.rev {K : PySem.W.Frag} {H : Hp} : ∀ {vs : List V} {ds : List PyData}, DaAll K H vs ds → DaAll K H vs.reverse ds.reverse
  | _, _, .nil => .nil
  | _, _, .cons a t => by
    rw [List.reverse_cons, List.reverse_cons]
    exact (DaAll.rev t).app (.cons a .nil)
theorem pxf_rev {k : Nat} {p1 p2 p3 : Pos} (he : PX X e xe) : PXF X (.Subscript e (.Slice none none (some (.UnaryOp .USub (.Constant (.int 1) k p1) p2)) p3) pos) (fRev xe) := pe_imp (pe_revL he) fun σ H Q q => by
  obtain ⟨as, ρ, os, H0, ds, os', n, hx, k⟩ := q
  unfold fRev at hx
  cases h1 : xe ρ os with
  | none => rw [h1] at hx; cases hx
  | some p =>
    obtain ⟨d, os1⟩ := p
    rw [h1, Option.bind_some] at hx
    cases d with
    | list cs =>
      cases hx
      refine ⟨as, ρ, os, H0, _, os1, n, h1, fun v H3' H3 n3 g3 r3 => ?_⟩
      cases r3 with
      | lst h4 h5 =>
        refine ⟨_, _, rfl, ex_l n3.sub h4, fun p hp => ?_⟩
        have h0 : H3' p = none := fresh_back n3.sub hp
        have nD : p ∉ as := fun z => n3.ow.trk p z hp
        rename_i a0 xs0
        have gg := fresh_up (o := .lst xs0.reverse) g3 hp
        exact k p _ H3' _ gg.2 (n3.away nD (fun a h => upd_ne h) (by rw [upd_same]; simp) h0) gg.1 h0 nD upd_same h5.rev
    | _ => cases hx
/-- range(i, j, -1) -/
def downD (i : Int) (n : Nat) : List PyData := (List.range n).map fun (k : Nat) => PyData.int (i + (k : Int) * (-1))
theorem walkD_down {K : PySem.W.Frag} {H0 : Hp} {lo : Int} {n : Nat} : WalkD K (Itc lo (-1) n) (downD lo n) H0 := by
  have hl : (downD lo n).length = n := by simp [downD]
  refine ⟨fun i H hi _ => ?_, fun H _ => ?_, fun i H x H' H1 hi e e1 y => ?_⟩
  · rw [hl] at hi
    exact hi
  · rw [hl]
    exact Nat.le_refl _
  · obtain ⟨e2, e3⟩ := (show H' = H ∧ x = .int (lo + (i : Nat) * (-1)) from y)
    subst e2 e3
    rw [hl] at hi
    exact ⟨H1, .int (lo + (i : Nat) * (-1)), Gr.refl e1, by simp [downD, hi], .int _⟩
def iRgN (ra : XA) : XI := fun ρ os => (ra ρ os).bind fun p => match p.1 with
  | [.d (.int i), .d (.int j), .d (.int c)] => if c = -1 ∧ -(2 ^ 62) ≤ i ∧ i < 2 ^ 62 ∧ -(2 ^ 62) ≤ j ∧ j < 2 ^ 62 then some (downD i (i - j).toNat, p.2) else none
  | _ => none
theorem pxi_range3 {a b c : Expr} {tg : Expr} (hg : Gl X "range") (hm : X.mg "range" = none) (ha : PXA X [a, b, c] ra) (hs : starEach [a, b, c] X.env = (false, eval a X.env) :: starEach [b, c] X.env := by rfl) (hpl : (backTo pos (starEach [b, c] X.env)).any (·.1) = false := by rfl) :
    PXI X tg (.Call (.Name "range" p) [a, b, c] [] pos) (iRgN ra) := pi_imp (pi_range3 hg hm ha hs hpl) fun σ H R q => by
  obtain ⟨as, ρ, os, H0, items, os', n, hx, k⟩ := q
  unfold iRgN at hx
  cases h2 : ra ρ os with
  | none => rw [h2] at hx; cases hx
  | some q =>
    obtain ⟨ss, os1⟩ := q
    rw [h2, Option.bind_some] at hx
    simp only at hx
    split at hx
    · rename_i i j c
      split at hx
      · rename_i hc
        obtain ⟨hc, b1, b2, b3, b4⟩ := hc
        cases hx
        refine ⟨as, ρ, os, H0, _, _, n, h2, fun vs H1 H1' n1 g1 r1 => ?_⟩
        match vs, r1 with
        | [v, w, u], r1 =>
          have q1 : Da X.K H1 v (.int i) := r1.1
          have q2 : Da X.K H1 w (.int j) := r1.2.1
          have q3 : Da X.K H1 u (.int c) := r1.2.2.1
          cases q1
          cases q2
          cases q3
          subst hc
          exact ⟨i, j, -1, (i - j).toNat, rfl, RgC.neg b1 b2 b3 b4, k _ H1 H1' n1 g1 walkD_down⟩
      · cases hx
    · cases hx
/-- f(g(..), ..): a new list handed on directly, as one's own -/
def xFnN (M : XM) (xi : XI) (ra : XA) : XE := fun ρ os => (xi ρ os).bind fun p => (ra ρ (p.2 ++ [some (.l p.1)])).bind fun q => (M (.o p.2.length :: q.1) q.2).bind fun z => (cutW p.2.length z.2).map fun w => (z.1, w)
theorem px_fnN {k n : Nat} {f : Addr} {fd : FuncData} {ps : List Str} {M : XM} {xi : XI} {x : Str} (F : FnG X.prog X.w X.K X.mg X.base k f fd n ps (spM X.K n M)) (hr : Rm k X.A) (hg : Gl X x) (hm : X.mg x = some (.ref f)) (hk : PySem.W.keepIn X.K (.ref f) = true) (hb : Binds X.K fd ps [])
    (he0 : PXF X e xi) (ha : PXA X es ra) (hl : ∀ ρ os ss os', ra ρ os = some (ss, os') → ss.length + 1 = n) (hdb : (x == ("__debug__" : Str)) = false := by decide) (he : starEach (e :: es) X.env = (false, eval e X.env) :: starEach es X.env := by rfl) (hpl : (backTo pos (starEach es X.env)).any (·.1) = false := by rfl) :
    PX X (.Call (.Name x p) (e :: es) [] pos) (xFnN M xi ra) := pe_imp (pe_callG F hr hg hm hk hb (pa_cons he0 ha he) hdb he hpl) fun σ H Q q => by
  obtain ⟨as, ρ, os, H0, d, os', n0, hx, k⟩ := q
  unfold xFnN at hx
  cases h1 : xi ρ os with
  | none => rw [h1] at hx; cases hx
  | some pp =>
    obtain ⟨ds, os1⟩ := pp
    rw [h1, Option.bind_some] at hx
    simp only at hx
    cases h5 : ra ρ (os1 ++ [some (.l ds)]) with
    | none => rw [h5] at hx; cases hx
    | some qq =>
      obtain ⟨ss, os2⟩ := qq
      rw [h5, Option.bind_some] at hx
      simp only at hx
      cases h6 : M (.o os1.length :: ss) os2 with
      | none => rw [h6] at hx; cases hx
      | some z =>
        obtain ⟨z, os3⟩ := z
        rw [h6, Option.bind_some] at hx
        simp only at hx
        cases h7 : cutW os1.length os3 with
        | none => rw [h7] at hx; cases hx
        | some os4 =>
        rw [h7] at hx
        cases hx
        refine ⟨as, ρ, os, H0, ds, os1, n0, h1, fun p vs H0' H' hp n1 g1 h2 h3 h4 r => ⟨as ++ [p], ρ, os1 ++ [some (.l ds)], H0', ss, os2, ?_, h5, fun ws H2' H2 n2 g2 r2 => ?_⟩⟩
        · have n5 := n1.own (ob := .l ds) ρ.length h2 h3 h4 r
          rw [List.set_eq_of_length_le (Nat.le_refl _), List.set_eq_of_length_le (by rw [n1.len]; exact Nat.le_refl _)] at n5
          exact n5
        · have lo := n1.ow.len
          have e1 : (as ++ [p])[os1.length]? = some p := by
            rw [← lo, List.getElem?_append_right (Nat.le_refl _)]
            simp
          refine ⟨by rw [List.length_cons, args_len r2]; exact hl _ _ _ _ h5, as ++ [p], .o os1.length :: ss, os2, H2', _, os3, n2.sub, n2.ow, ⟨⟨p, e1, rfl⟩, r2⟩, h6, fun v H3' H3 w3 g3 r3 => ?_⟩
          have gg : Gr as H0 H H3' H3 := g1.trans (g2.tr g3) fun a ha => by
            rcases List.mem_append.mp ha with z | z
            · exact .inl z
            · have : a = p := by simpa using z
              exact .inr (by rw [this]; exact hp)
          have w4 := w3.cut (as := as) (H := H) ⟨[p], rfl, by simpa using hp⟩ (by rw [lo]; exact h7)
          exact k v H3' H3 (n0.call w4 gg) gg r3
end
end DL

set_option Elab.async false
set_option linter.all false
set_option maxRecDepth 100000
set_option maxHeartbeats 4000000
namespace DL
open PySem PySem.Spec PyProof.Rows L2 Evl
section
variable {X : Cx} {a b c e : Expr} {xa xb xc : XE} {pos p p2 : Pos} {op op' : CmpOp} {f f' : PyData → PyData → Option PyData}
/-- a < b < c -/
def xChain (f f' : PyData → PyData → Option PyData) (xa xb xc : XE) : XE := fun ρ os => (xa ρ os).bind fun p => (xb ρ p.2).bind fun q => (f p.1 q.1).bind fun z => match z with
  | .bool true => (xc ρ q.2).bind fun r => (f' q.1 r.1).map fun z => (z, r.2)
  | .bool false => some (.bool false, q.2)
  | _ => none
theorem to_chain {K : PySem.W.Frag} {σ : L2.St} {H : Hp} {Q : VK} (q : teO K (xChain f f' xa xb xc) σ H Q) : tChain (rD K f) (rD K f') (teO K xa) (teO K xb) (teO K xc) σ H Q := by
  obtain ⟨as, ρ, os, H0, d, os', n, hx, k⟩ := q
  unfold xChain at hx
  cases h1 : xa ρ os with
  | none => rw [h1] at hx; cases hx
  | some p =>
    obtain ⟨x, os1⟩ := p
    rw [h1, Option.bind_some] at hx
    simp only at hx
    cases h2 : xb ρ os1 with
    | none => rw [h2] at hx; cases hx
    | some q =>
      obtain ⟨y, os2⟩ := q
      rw [h2, Option.bind_some] at hx
      simp only at hx
      cases h3 : f x y with
      | none => rw [h3] at hx; cases hx
      | some z =>
        rw [h3, Option.bind_some] at hx
        refine ⟨as, ρ, os, H0, x, os1, n, h1, fun v H0' H' n1 g1 r1 => ⟨as, ρ, os1, H0', y, os2, n1, h2, fun u H0'' H'' n2 g2 r2 => ⟨H0'', x, y, z, n2.sub, r1.mono g2.e0, r2, h3, fun w H3' H3 g3 r3 => ?_⟩⟩⟩
        have n3 := n2.grow g3
        have gg := (g1.tr g2).tr0 g3
        cases z with
        | bool b =>
          cases r3
          cases b with
          | false =>
            cases hx
            exact ⟨false, rfl, by
              simp only [Bool.false_eq_true, if_false]
              exact k _ H3' H3 n3 gg (.bl false)⟩
          | true =>
            cases h4 : xc ρ os2 with
            | none => simp only [h4] at hx; cases hx
            | some r =>
              obtain ⟨w, os3⟩ := r
              simp only [h4, Option.bind_some] at hx
              cases h5 : f' y w with
              | none => rw [h5] at hx; cases hx
              | some z2 =>
                rw [h5] at hx
                cases hx
                refine ⟨true, rfl, ?_⟩
                simp only [if_true]
                exact ⟨as, ρ, os2, H3', w, _, n3, h4, fun w2 H4' H4 n4 g4 r4 => ⟨H4', y, w, _, n4.sub, (r2.mono g3.e0).mono g4.e0, r4, h5, fun w5 H5' H5 g5 r5 => k w5 H5' H5 (n4.grow g5) ((gg.tr g4).tr0 g5) r5⟩⟩
        | _ => cases hx
theorem px_chain (ho : OpR X (compareOp op) (rD X.K f)) (ho' : OpR X (compareOp op') (rD X.K f')) (ha : PX X a xa) (hb : PX X b xb) (hc : PX X c xc) (hm : lastMarks [op, op'] [b, c] = false := by with_unfolding_all rfl) : PX X (.Compare a [op, op'] [b, c] pos) (xChain f f' xa xb xc) :=
  pe_imp (pe_chain ho ho' ha hb hc hm) fun _ _ _ q => to_chain q
theorem pxt_chain (ho : OpR X (compareOp op) (rD X.K f)) (ho' : OpR X (compareOp op') (rD X.K f')) (ha : PX X a xa) (hb : PX X b xb) (hc : PX X c xc) (hm : lastMarks [op, op'] [b, c] = false := by with_unfolding_all rfl) : PXT X (.Compare a [op, op'] [b, c] pos) (xBool (xChain f f' xa xb xc)) :=
  pt_imp (pt_chain ho ho' ha hb hc hm) fun σ H Q q => by
    obtain ⟨as, ρ, os, H0, d, os', n, hx, k⟩ := q
    unfold xBool at hx
    cases h1 : xChain f f' xa xb xc ρ os with
    | none => rw [h1] at hx; cases hx
    | some p =>
      obtain ⟨y, os1⟩ := p
      rw [h1, Option.bind_some] at hx
      cases y with
      | bool c =>
        cases hx
        exact to_chain ⟨as, ρ, os, H0, _, _, n, h1, fun v H1 H1' n1 g1 r1 => by
          cases r1
          exact ⟨_, rfl, k H1 H1' n1 g1⟩⟩
      | _ => cases hx
/-- reversed(range(..)) -/
abbrev XR := List Sl → Os → Option ((Int × Int) × Os)
def trO (K : PySem.W.Frag) (x : XR) : L2.St → Hp → (Int → Int → Hp → Prop) → Prop := fun σ H Q => ∃ as ρ os H0 r os', En K as ρ os σ H0 H ∧ x ρ os = some (r, os') ∧ ∀ H0' H', En K as ρ os' σ H0' H' → Gr as H0 H H0' H' → Q r.1 r.2 H'
abbrev PXR (X : Cx) (e : Expr) (x : XR) : Prop := PRg X e (trO X.K x)
theorem prg_imp {t t' : L2.St → Hp → (Int → Int → Hp → Prop) → Prop} (h : PRg X e t) (k : ∀ σ H Q, t' σ H Q → t σ H Q) : PRg X e t' := fun pins s σ H Q I q => h pins s σ H Q I (k _ _ _ q)
def rg1 (xa : XE) : XR := fun ρ os => (xa ρ os).bind fun p => match p.1 with
  | .int n => some ((0, n), p.2)
  | _ => none
def rg2 (xa xb : XE) : XR := fun ρ os => (xa ρ os).bind fun p => (xb ρ p.2).bind fun q => match p.1, q.1 with
  | .int i, .int j => some ((i, j), q.2)
  | _, _ => none
theorem pxr_1 (hg : Gl X "range") (hm : X.mg "range" = none) (ha : PX X a xa) (na : starEach [a] X.env = (false, eval a X.env) :: starEach [] X.env := by rfl) : PXR X (.Call (.Name "range" p) [a] [] pos) (rg1 xa) := prg_imp (prg_1 hg hm ha na) fun σ H Q q => by
  obtain ⟨as, ρ, os, H0, r, os', n, hx, k⟩ := q
  unfold rg1 at hx
  cases h1 : xa ρ os with
  | none => rw [h1] at hx; cases hx
  | some p =>
    obtain ⟨x, os1⟩ := p
    rw [h1, Option.bind_some] at hx
    cases x with
    | int i =>
      cases hx
      refine ⟨as, ρ, os, H0, _, _, n, h1, fun v H0' H' n1 g1 r1 => ?_⟩
      cases r1
      exact ⟨i, rfl, k H0' H' n1 g1⟩
    | _ => cases hx
theorem pxr_2 (hg : Gl X "range") (hm : X.mg "range" = none) (ha : PX X a xa) (hb : PX X b xb) (na : starEach [a, b] X.env = (false, eval a X.env) :: starEach [b] X.env := by rfl) (nb : starEach [b] X.env = (false, eval b X.env) :: starEach [] X.env := by rfl) (hp : (backTo pos (starEach [b] X.env)).any (·.1) = false := by rfl) : PXR X (.Call (.Name "range" p) [a, b] [] pos) (rg2 xa xb) := prg_imp (prg_2 hg hm ha hb na nb hp) fun σ H Q q => by
  obtain ⟨as, ρ, os, H0, r, os', n, hx, k⟩ := q
  unfold rg2 at hx
  cases h1 : xa ρ os with
  | none => rw [h1] at hx; cases hx
  | some p =>
    obtain ⟨x, os1⟩ := p
    rw [h1, Option.bind_some] at hx
    simp only at hx
    cases h2 : xb ρ os1 with
    | none => rw [h2] at hx; cases hx
    | some q =>
      obtain ⟨y, os2⟩ := q
      rw [h2, Option.bind_some] at hx
      simp only at hx
      split at hx
      · rename_i i j
        cases hx
        refine ⟨as, ρ, os, H0, _, _, n, h1, fun v H0' H' n1 g1 r1 => ⟨as, ρ, os1, H0', _, _, n1, h2, fun u H2' H2 n2 g2 r2 => ?_⟩⟩
        cases r1
        cases r2
        exact ⟨i, j, rfl, rfl, k H2' H2 n2 (g1.tr g2)⟩
      · cases hx
def iRgR (xr : XR) : XI := fun ρ os => (xr ρ os).bind fun p => if -(2 ^ 62) ≤ p.1.1 ∧ p.1.1 < 2 ^ 62 ∧ -(2 ^ 62) ≤ p.1.2 ∧ p.1.2 < 2 ^ 62 then some (downD (p.1.1 + (((p.1.2 - p.1.1).toNat : Nat) : Int) - 1) (p.1.2 - p.1.1).toNat, p.2) else none
theorem pxi_revR {tg : Expr} {xr : XR} (h : ∀ t, PRg X e t → PI X tg (.Call (.Name "reversed" p) [e] [] pos) (iRevR t)) (he : PXR X e xr) : PXI X tg (.Call (.Name "reversed" p) [e] [] pos) (iRgR xr) := pi_imp (h _ he) fun σ H R q => by
  obtain ⟨as, ρ, os, H0, items, os', n, hx, k⟩ := q
  unfold iRgR at hx
  cases h2 : xr ρ os with
  | none => rw [h2] at hx; cases hx
  | some q =>
    obtain ⟨⟨i, j⟩, os1⟩ := q
    rw [h2, Option.bind_some] at hx
    simp only at hx
    split at hx
    · rename_i hc
      cases hx
      exact ⟨as, ρ, os, H0, (i, j), _, n, h2, fun H1 H1' n1 g1 => ⟨hc.1, hc.2.1, hc.2.2.1, hc.2.2.2, k _ H1 H1' n1 g1 walkD_down⟩⟩
    · cases hx
/-- list(range(..)) -/
def fRng (xr : XR) : XI := fun ρ os => (xr ρ os).bind fun p => if -(2 ^ 62) ≤ p.1.1 ∧ p.1.1 < 2 ^ 62 ∧ -(2 ^ 62) ≤ p.1.2 ∧ p.1.2 < 2 ^ 62 ∧ (p.1.2 - p.1.1).toNat ≤ 2 ^ 24 then some (rangeD p.1.1 (p.1.2 - p.1.1).toNat, p.2) else none
theorem da_rg {K : PySem.W.Frag} {H : Hp} {a b : Int} : DaAll K H (rgV a b) (rangeD a (b - a).toNat) := by
  unfold rgV rangeD
  generalize List.range (b - a).toNat = l
  induction l with
  | nil => exact .nil
  | cons x r ih => exact .cons (.int _) ih
theorem pxf_rng {xr : XR} (hc : X.calm = true) (hg : Gl X "list") (hm : X.mg "list" = none) (he : PXR X e xr) (na : starEach [e] X.env = (false, eval e X.env) :: starEach [] X.env := by rfl) : PXF X (.Call (.Name "list" p) [e] [] pos) (fRng xr) := pe_imp (pe_listRg hc hg hm he na) fun σ H Q q => by
  obtain ⟨as, ρ, os, H0, ds, os', n, hx, k⟩ := q
  unfold fRng at hx
  cases h2 : xr ρ os with
  | none => rw [h2] at hx; cases hx
  | some q =>
    obtain ⟨⟨i, j⟩, os1⟩ := q
    rw [h2, Option.bind_some] at hx
    simp only at hx
    split at hx
    · rename_i hc
      cases hx
      refine ⟨as, ρ, os, H0, (i, j), _, n, h2, fun H3' H3 n3 g3 => ⟨hc, fun p hp => ?_⟩⟩
      have h0 : H3' p = none := fresh_back n3.sub hp
      have nD : p ∉ as := fun z => n3.ow.trk p z hp
      have gg := fresh_up (o := .lst (rgV i j)) g3 hp
      exact k p _ H3' _ gg.2 (n3.away nD (fun a h => upd_ne h) (by rw [upd_same]; simp) h0) gg.1 h0 nD upd_same da_rg
    · cases hx
end
end DL

set_option Elab.async false
set_option linter.all false
set_option maxRecDepth 100000
set_option maxHeartbeats 4000000
namespace DL
open PySem PySem.Spec PyProof.Rows L2 Evl
/-! ### comprehensions of two fors -/
def lc2Run (xg : XG) (tt : XT) (xi1 : XI) (xg1 : XG) (tt1 : XT) (te : XE) (vs1 : List Nat) (ρ : List Sl) : List PyData → List PyData → Os → Option (List PyData × Os)
  | [], acc, os => some (acc, os)
  | d :: r, acc, os => (xg d ρ).bind fun ρ1 => (tt ρ1 os).bind fun p => if p.1 = true then (xi1 ρ1 p.2).bind fun it => (lcRun xg1 tt1 te (wipeR ρ1 vs1) it.1 acc it.2).bind fun q => lc2Run xg tt xi1 xg1 tt1 te vs1 ρ r q.1 q.2 else lc2Run xg tt xi1 xg1 tt1 te vs1 ρ r acc p.2
def lc2D (xi : XI) (xg : XG) (tt : XT) (xi1 : XI) (xg1 : XG) (tt1 : XT) (te : XE) (vs vs1 : List Nat) : XI := fun ρ os => (xi ρ os).bind fun p => lc2Run xg tt xi1 xg1 tt1 te vs1 (wipeR ρ vs) p.1 [] p.2
/-- what stands between two turns, over a list D that grows; R tells what is to come -/
def LcW (K : PySem.W.Frag) (as : List Addr) (Ha Hb Hw : Hp) (D : Addr) (ρw : List Sl) (σw : L2.St) (R : List PyData → Os → Prop) (H2 : Hp) : Prop :=
  ∃ acc osi H2' vacc, En K as ρw osi σw H2' H2 ∧ Gr as Ha Hb H2' H2 ∧ Ex Hw H2' ∧ H2' D = none ∧ H2 D = some (.lst vacc) ∧ DaAll K H2' vacc acc ∧ R acc osi
theorem keep_none {as : List Addr} {D : Addr} {H0 H H0' H' : Hp} (g : Gr as H0 H H0' H') (nD : D ∉ as) (h0 : H0 D = none) (h1 : H D ≠ none) : H0' D = none := by
  cases z : H0' D with
  | none => rfl
  | some u =>
    have := g.nw D u nD z h1
    rw [h0] at this
    cases this
theorem gr_upd {as : List Addr} {D : Addr} {Ha Hb H' H : Hp} {o : HO} (g : Gr as Ha Hb H' H) (hD : Hb D = none) (h0 : H' D = none) : Gr as Ha Hb H' (upd H D o) := by
  refine ⟨g.e0, fun a o h e => ?_, g.nw, fun a h => ?_, fun a o e => ?_⟩
  · rw [upd_ne (ne_of_none e hD)]
    exact g.e1 a o h e
  · rw [upd_ne (fun z => h (by rw [z]; exact hD))]
    exact g.kp a h
  · rw [upd_ne (ne_of_none e h0)]
    exact g.sub a o e
/-- one turn of the inner walk -/
theorem lc_turn {K : PySem.W.Frag} {as : List Addr} {Ha Hb Hw : Hp} {D : Addr} {xg : XG} {tt : XT} {te : XE} {ρw : List Sl} {σw : L2.St} {vs js : List Nat} {fin : List PyData × Os} {J : It} {items : List PyData}
    (hj : ∀ j ∈ js, j ∈ vs) (nD : D ∉ as) (hD : Hb D = none) (w : WalkD K J items Hw) {i : Nat} {H2 : Hp} (hi : i ≤ items.length) (L : LcW K as Ha Hb Hw D ρw σw (fun acc osi => lcRun xg tt te ρw (items.drop i) acc osi = some fin) H2) :
    (J.stop i H2 ∧ i = items.length ∧ LcW K as Ha Hb Hw D ρw σw (fun acc osi => (acc, osi) = fin) H2) ∨
    (i < items.length ∧ J.go i H2 ∧ ∀ x H3, J.yld i H2 x H3 → gO K xg js x σw H3 fun σ4 H4 => wipe σ4 vs = wipe σw vs ∧ ttO K tt σ4 H4 fun b H5 =>
      if b = true then teO K te σ4 H5 fun y H6 => ∃ acc, H6 D = some (.lst acc) ∧ acc.length < sizeLine ∧ LcW K as Ha Hb Hw D ρw σw (fun acc osi => lcRun xg tt te ρw (items.drop (i + 1)) acc osi = some fin) (upd H6 D (.lst (acc ++ [y])))
      else LcW K as Ha Hb Hw D ρw σw (fun acc osi => lcRun xg tt te ρw (items.drop (i + 1)) acc osi = some fin) H5) := by
  obtain ⟨acc, osi, H2', vacc, nI, gI, eI, h2, h3, h4, hr⟩ := L
  by_cases hlt : i < items.length
  · refine .inr ⟨hlt, w.goes i H2 hlt (eI.trans nI.sub), fun x H3 y => ?_⟩
    obtain ⟨H3', d, g3, hd, r3⟩ := w.yields i H2 x H3 H2' hlt eI nI.sub y
    have n3 := nI.grow g3
    have e3 : items.drop i = d :: items.drop (i + 1) := by
      obtain ⟨_, e⟩ := List.getElem?_eq_some_iff.mp hd
      rw [← e]
      exact List.drop_eq_getElem_cons hlt
    rw [e3] at hr
    simp only [lcRun] at hr
    cases q1 : xg d ρw with
    | none => rw [q1] at hr; cases hr
    | some ρ1 =>
      rw [q1, Option.bind_some] at hr
      refine ⟨as, ρw, osi, H3', d, ρ1, n3, r3, q1, fun σ4 n4 w4 => ⟨w4 vs hj, ?_⟩⟩
      cases q2 : tt ρ1 osi with
      | none => rw [q2] at hr; cases hr
      | some p =>
        obtain ⟨b, os5⟩ := p
        rw [q2, Option.bind_some] at hr
        simp only at hr
        have D3 : H3 D = some (.lst vacc) := g3.e1 D _ (by simp) h3
        have D3' : H3' D = none := keep_none g3 (by simp) h2 (by rw [h3]; simp)
        refine ⟨as, ρ1, osi, H3', b, os5, n4, q2, fun H5' H5 n5 g5 => ?_⟩
        have D5 : H5 D = some (.lst vacc) := g5.e1 D _ nD D3
        have D5' : H5' D = none := keep_none g5 nD D3' (by rw [D3]; simp)
        have gA : Gr as Ha Hb H5' H5 := (gI.tr0 g3).tr g5
        cases b with
        | false =>
          simp only [Bool.false_eq_true, if_false] at hr ⊢
          exact ⟨acc, os5, H5', vacc, n5.back nI (g3.e0.trans g5.e0), gA, eI.trans (g3.e0.trans g5.e0), D5', D5, DaAll.mono (g3.e0.trans g5.e0) _ _ h4, hr⟩
        | true =>
          simp only [if_true] at hr ⊢
          cases q3 : te ρ1 os5 with
          | none => rw [q3] at hr; cases hr
          | some p =>
            obtain ⟨yv, os6⟩ := p
            rw [q3, Option.bind_some] at hr
            simp only at hr
            split at hr
            · rename_i hz
              refine ⟨as, ρ1, os5, H5', yv, os6, n5, q3, fun v H6' H6 n6 g6 r6 => ?_⟩
              have D6 : H6 D = some (.lst vacc) := g6.e1 D _ nD D5
              have D6' : H6' D = none := keep_none g6 nD D5' (by rw [D5]; simp)
              have e6 := (g3.e0.trans g5.e0).trans g6.e0
              have h46 : DaAll K H6' vacc acc := DaAll.mono e6 _ _ h4
              exact ⟨vacc, D6, by rw [h46.len]; exact hz, acc ++ [yv], os6, H6', vacc ++ [v], (n6.back nI e6).away nD (fun a h => upd_ne h) (by rw [upd_same]; simp) D6', gr_upd (gA.tr g6) hD D6', eI.trans e6, D6', upd_same, h46.app (.cons r6 .nil), hr⟩
            · cases hr
  · have e : items.drop i = [] := List.drop_eq_nil_of_le (by omega)
    rw [e] at hr
    exact .inl ⟨by
      have ei : i = items.length := by omega
      rw [ei]
      exact w.stops H2 (eI.trans nI.sub), by omega, acc, osi, H2', vacc, nI, gI, eI, h2, h3, h4, by simpa [lcRun] using hr⟩
section
variable {X : Cx} {elt tg iter tg1 iter1 : Expr} {ifs ifs1 : List Expr} {scope : Scope} {own : List (Str × Nat)} {pos : Pos} {xi xi1 : XI} {xg xg1 : XG} {js js1 : List Nat} {tt tt1 : XT} {te : XE}
theorem to_lc2 {K : PySem.W.Frag} {vs vs1 : List Nat} (hj : ∀ j ∈ js, j ∈ vs) (hj1 : ∀ j ∈ js1, j ∈ vs1) {σ : L2.St} {H : Hp} {Q : VK} (hv : ∀ j ∈ vs1, j ∈ vs) (q : teF K (lc2D xi xg tt xi1 xg1 tt1 te vs vs1) σ H Q) : tLc2 (tiO K xi) (gO K xg js) (ttO K tt) (tiO K xi1) (gO K xg1 js1) (ttO K tt1) (teO K te) vs vs1 σ H Q := by
  obtain ⟨as, ρ, os, H0, ds, os', n, hx, k⟩ := q
  unfold lc2D at hx
  cases h1 : xi ρ os with
  | none => rw [h1] at hx; cases hx
  | some q =>
    obtain ⟨items, os1⟩ := q
    rw [h1, Option.bind_some] at hx
    refine ⟨as, ρ, os, H0, items, os1, n, h1, fun J Ha Hb n1 g1 w => ?_⟩
    intro D hD
    have nD : D ∉ as := fun z => n1.ow.trk D z hD
    refine ⟨fun i m H2 => m = items.length - i ∧ i ≤ items.length ∧ LcW K as Ha Hb Ha D (wipeR ρ vs) (wipe σ vs) (fun acc osi => lc2Run xg tt xi1 xg1 tt1 te vs1 (wipeR ρ vs) (items.drop i) acc osi = some (ds, os')) H2, ⟨items.length, by simp, Nat.zero_le _, [], os1, Ha, [], ?_, ?_, Ex.refl _, fresh_back n1.sub hD, upd_same, .nil, hx⟩, ?_⟩
    · exact (n1.wipe vs).away nD (fun a h => upd_ne h) (by rw [upd_same]; simp) (fresh_back n1.sub hD)
    · exact gr_upd (Gr.refl n1.sub) hD (fresh_back n1.sub hD)
    rintro i m H2 ⟨rfl, hi, acc, osi, H2', vacc, nI, gI, eI, h2, h3, h4, hr⟩
    by_cases hlt : i < items.length
    · refine .inr ⟨w.goes i H2 hlt (eI.trans nI.sub), LcW K as Ha Hb Ha D (wipeR ρ vs) (wipe σ vs) (fun acc osi => lc2Run xg tt xi1 xg1 tt1 te vs1 (wipeR ρ vs) (items.drop (i + 1)) acc osi = some (ds, os')), fun H3 p3 => ⟨items.length - (i + 1), by omega, rfl, hlt, p3⟩, fun x H3 y => ?_⟩
      obtain ⟨H3', d, g3, hd, r3⟩ := w.yields i H2 x H3 H2' hlt eI nI.sub y
      have n3 := nI.grow g3
      have e3 : items.drop i = d :: items.drop (i + 1) := by
        obtain ⟨_, e⟩ := List.getElem?_eq_some_iff.mp hd
        rw [← e]
        exact List.drop_eq_getElem_cons hlt
      rw [e3] at hr
      simp only [lc2Run] at hr
      cases q1 : xg d (wipeR ρ vs) with
      | none => rw [q1] at hr; cases hr
      | some ρ1 =>
        rw [q1, Option.bind_some] at hr
        refine ⟨as, wipeR ρ vs, osi, H3', d, ρ1, n3, r3, q1, fun σ4 n4 w4 => ⟨(w4 vs hj).trans wipe_wipe, ?_⟩⟩
        cases q2 : tt ρ1 osi with
        | none => rw [q2] at hr; cases hr
        | some p =>
          obtain ⟨b, os5⟩ := p
          rw [q2, Option.bind_some] at hr
          simp only at hr
          have D3 : H3 D = some (.lst vacc) := g3.e1 D _ (by simp) h3
          have D3' : H3' D = none := keep_none g3 (by simp) h2 (by rw [h3]; simp)
          refine ⟨as, ρ1, osi, H3', b, os5, n4, q2, fun H5' H5 n5 g5 => ?_⟩
          have D5 : H5 D = some (.lst vacc) := g5.e1 D _ nD D3
          have D5' : H5' D = none := keep_none g5 nD D3' (by rw [D3]; simp)
          have gA : Gr as Ha Hb H5' H5 := (gI.tr0 g3).tr g5
          cases b with
          | false =>
            simp only [Bool.false_eq_true, if_false] at hr ⊢
            exact ⟨acc, os5, H5', vacc, n5.back nI (g3.e0.trans g5.e0), gA, eI.trans (g3.e0.trans g5.e0), D5', D5, DaAll.mono (g3.e0.trans g5.e0) _ _ h4, hr⟩
          | true =>
            simp only [if_true] at hr ⊢
            cases q3 : xi1 ρ1 os5 with
            | none => rw [q3] at hr; cases hr
            | some p =>
              obtain ⟨items1, os6⟩ := p
              rw [q3, Option.bind_some] at hr
              simp only at hr
              cases q4 : lcRun xg1 tt1 te (wipeR ρ1 vs1) items1 acc os6 with
              | none => rw [q4] at hr; cases hr
              | some fin =>
                rw [q4, Option.bind_some] at hr
                refine ⟨as, ρ1, os5, H5', items1, os6, n5, q3, fun J1 H6' H6 n6 g6 w1 => ?_⟩
                have D6 : H6 D = some (.lst vacc) := g6.e1 D _ nD D5
                have D6' : H6' D = none := keep_none g6 nD D5' (by rw [D5]; simp)
                have e6 := (g3.e0.trans g5.e0).trans g6.e0
                refine ⟨fun j kk H => kk = items1.length - j ∧ j ≤ items1.length ∧ LcW K as Ha Hb H6' D (wipeR ρ1 vs1) (wipe σ4 vs1) (fun acc osi => lcRun xg1 tt1 te (wipeR ρ1 vs1) (items1.drop j) acc osi = some fin) H, ⟨items1.length, by simp, Nat.zero_le _, acc, os6, H6', vacc, n6.wipe vs1, gA.tr g6, Ex.refl _, D6', D6, DaAll.mono e6 _ _ h4, by simpa using q4⟩, ?_⟩
                rintro j kk H7 ⟨rfl, hjl, L⟩
                rcases lc_turn hj1 nD hD w1 hjl L with ⟨st, je, acc2, os7, H7', vacc2, n7, g7, e7, z2, z3, z4, z5⟩ | ⟨hlt1, go, ty⟩
                · cases z5
                  refine .inl ⟨st, acc2, os7, H7', vacc2, ?_, g7, eI.trans (e6.trans e7), z2, z3, z4, hr⟩
                  exact n7.back nI (e6.trans e7)
                · refine .inr ⟨go, LcW K as Ha Hb H6' D (wipeR ρ1 vs1) (wipe σ4 vs1) (fun acc osi => lcRun xg1 tt1 te (wipeR ρ1 vs1) (items1.drop (j + 1)) acc osi = some fin), fun H' p' => ⟨items1.length - (j + 1), by omega, rfl, hlt1, p'⟩, fun x H8 y8 => ?_⟩
                  have := ty x H8 y8
                  obtain ⟨as', ρ', os', Hx, dx, ρx, na, ra, xa, ka⟩ := this
                  refine ⟨as', ρ', os', Hx, dx, ρx, na, ra, xa, fun σ9 n9 w9 => ?_⟩
                  obtain ⟨u1, u2⟩ := ka σ9 n9 w9
                  exact ⟨u1.trans wipe_wipe, u2⟩
    · have e : items.drop i = [] := List.drop_eq_nil_of_le (by omega)
      rw [e] at hr
      cases hr
      have ei : i = items.length := by omega
      subst ei
      refine .inl ⟨w.stops H2 (eI.trans nI.sub), k D vacc H2' H2 ?_ ?_ (g1.tr gI) h2 nD h3 h4⟩
      · cases z : H D with
        | none => rfl
        | some u => exact absurd hD (g1.kp D (by rw [z]; simp))
      · exact nI.back n1 gI.e0
theorem pxf_lc2 {vs1 : List Nat} (hc : X.calm = true) (hN : X.N.Nodup) (hi : PXI X tg iter xi) (ok : BlkOk X.N X.env.scope scope own) (hv : ∀ i ∈ vs1, i ∈ own.map (·.2))
    (hg : ∀ (s : Shared) (H : Hp) (C : Addr) (cl : List (Str × Addr)) (fp : List Addr), PXG (X.blk s H scope (compEnvC scope cl C X.env) fp) tg xg js)
    (ht : ∀ (s : Shared) (H : Hp) (C : Addr) (cl : List (Str × Addr)) (fp : List Addr), PXTs (X.blk s H scope (compEnvC scope cl C X.env) fp) ifs tt)
    (hi1 : ∀ (s : Shared) (H : Hp) (C : Addr) (cl : List (Str × Addr)) (fp : List Addr), PXI (X.blk s H scope (compEnvC scope cl C X.env) fp) tg1 iter1 xi1)
    (hg1 : ∀ (s : Shared) (H : Hp) (C : Addr) (cl : List (Str × Addr)) (fp : List Addr), PXG (X.blk s H scope (compEnvC scope cl C X.env) fp) tg1 xg1 js1)
    (ht1 : ∀ (s : Shared) (H : Hp) (C : Addr) (cl : List (Str × Addr)) (fp : List Addr), PXTs (X.blk s H scope (compEnvC scope cl C X.env) fp) ifs1 tt1)
    (he : ∀ (s : Shared) (H : Hp) (C : Addr) (cl : List (Str × Addr)) (fp : List Addr), PX (X.blk s H scope (compEnvC scope cl C X.env) fp) elt te)
    (hj : ∀ j ∈ js, j ∈ own.map (·.2)) (hj1 : ∀ j ∈ js1, j ∈ vs1) (hs : ∀ x, foldedSetIterable iter X.env x = pure x := by intro _; rfl) (hs1 : ∀ env x, foldedSetIterable iter1 env x = pure x := by intro _ _; rfl) :
    PXF X (.ListComp elt [⟨tg, iter, ifs, 0⟩, ⟨tg1, iter1, ifs1, 0⟩] scope pos) (lc2D xi xg tt xi1 xg1 tt1 te (own.map (·.2)) vs1) :=
  pe_imp (pe_lc2 hc hN hi ok hv hg ht hi1 hg1 ht1 he hs hs1) fun _ _ _ q => to_lc2 hj hj1 hv q
end
end DL

set_option Elab.async false
set_option linter.all false
set_option maxRecDepth 100000
set_option maxHeartbeats 4000000
namespace DL
open PySem PySem.Spec PyProof.Rows L2 Evl
/-! ### sorted, of whole numbers -/
def insI (x : Int) : List Int → List Int
  | [] => [x]
  | y :: r => if x ≤ y then x :: y :: r else y :: insI x r
def sortI : List Int → List Int
  | [] => []
  | x :: r => insI x (sortI r)
theorem insI_perm (x : Int) : ∀ l : List Int, (insI x l).Perm (x :: l)
  | [] => List.Perm.refl _
  | y :: r => by
    unfold insI
    split
    · exact List.Perm.refl _
    · exact ((insI_perm x r).cons y).trans (List.Perm.swap x y r)
theorem sortI_perm : ∀ l : List Int, (sortI l).Perm l
  | [] => List.Perm.refl _
  | x :: r => (insI_perm x _).trans ((sortI_perm r).cons x)
theorem insI_sorted (x : Int) : ∀ {l : List Int}, l.Pairwise (· ≤ ·) → (insI x l).Pairwise (· ≤ ·)
  | [], _ => by simp [insI]
  | y :: r, h => by
    obtain ⟨h1, h2⟩ := List.pairwise_cons.mp h
    unfold insI
    split
    · rename_i hxy
      refine List.pairwise_cons.mpr ⟨fun z hz => ?_, h⟩
      rcases List.mem_cons.mp hz with e | e
      · rw [e]
        exact hxy
      · exact Int.le_trans hxy (h1 z e)
    · rename_i hxy
      refine List.pairwise_cons.mpr ⟨fun z hz => ?_, insI_sorted x h2⟩
      rcases List.mem_cons.mp ((insI_perm x r).mem_iff.mp hz) with e | e
      · rw [e]
        omega
      · exact h1 z e
theorem sortI_sorted : ∀ l : List Int, (sortI l).Pairwise (· ≤ ·)
  | [] => .nil
  | x :: r => insI_sorted x (sortI_sorted r)
theorem sort_uniq : ∀ {l m : List Int}, l.Perm m → l.Pairwise (· ≤ ·) → m.Pairwise (· ≤ ·) → l = m
  | [], m, p, _, _ => (List.Perm.nil_eq p)
  | x :: r, [], p, _, _ => absurd p.length_eq (by simp)
  | x :: r, y :: t, p, h1, h2 => by
    obtain ⟨a1, a2⟩ := List.pairwise_cons.mp h1
    obtain ⟨b1, b2⟩ := List.pairwise_cons.mp h2
    have e : x = y := by
      have i1 : y ∈ x :: r := p.mem_iff.mpr (by simp)
      have i2 : x ∈ y :: t := p.mem_iff.mp (by simp)
      have l1 : x ≤ y := by
        rcases List.mem_cons.mp i1 with q | q
        · omega
        · exact a1 y q
      have l2 : y ≤ x := by
        rcases List.mem_cons.mp i2 with q | q
        · omega
        · exact b1 x q
      omega
    subst e
    rw [sort_uniq ((List.perm_cons x).mp p) a2 b2]
def sortedD : List PyData → Option PyData
  | [.list c] => (intsOf c).map fun ns => .list ((sortI ns).map .int)
  | _ => none
theorem da_ints {K : PySem.W.Frag} {H : Hp} : ∀ {vs : List V} {ns : List Int}, DaAll K H vs (ns.map .int) → vs = ns.map V.int
  | [], [], _ => rfl
  | v :: vs, n :: ns, h => by
    cases h with
    | cons h1 h2 =>
      cases h1
      rw [da_ints h2]
      rfl
  | [], _ :: _, h => by cases h
  | _ :: _, [], h => by cases h
theorem ints_da {K : PySem.W.Frag} {H : Hp} : ∀ ns : List Int, DaAll K H (ns.map V.int) (ns.map .int)
  | [] => .nil
  | n :: r => .cons (.int n) (ints_da r)
theorem c_sorted {X : Cx} : CallR X (.builtin "sorted") (rC X.K sortedD) := callC fun pins s σ H H0 xs us Q ds z I r s0 ha hf q => by
  unfold sortedD at hf
  split at hf
  · rename_i c
    cases h3 : intsOf c with
    | none => rw [h3] at hf; cases hf
    | some ns =>
      rw [h3] at hf
      cases hf
      obtain ⟨x, rfl, h⟩ := da1 ha
      have hc := intsOf_eq h3
      subst hc
      cases h with
      | lst h1 h2 =>
        have hv := da_ints h2
        subst hv
        refine cr_sortedI pins s σ H _ us Q I r ⟨_, ns, rfl, ex_l s0 h1, fun ns' p hp hs hn => ?_⟩
        have e : ns' = sortI ns := sort_uniq (hp.trans (sortI_perm ns).symm) hs (sortI_sorted ns)
        subst e
        have g := Gr.new (o := HO.lst ((sortI ns).map V.int)) s0 hn
        exact q _ _ _ g (.lst (SqL.of upd_same) (ints_da _))
  · cases hf
theorem bt_sorted : bootBuiltins "sorted" = some (.builtin "sorted") := by decide +kernel
end DL

set_option Elab.async false
set_option linter.all false
set_option maxRecDepth 100000
set_option maxHeartbeats 4000000
namespace DL
open PySem PySem.Spec PyProof.Rows L2 Evl
section
variable {X : Cx} {a b : Expr} {xl : XI} {xb : XE} {pos : Pos}
/-- a new list, so many times -/
def fRep (xl : XI) (xb : XE) : XI := fun ρ os => (xl ρ os).bind fun p => (xb ρ p.2).bind fun q => match q.1 with
  | .int k => if -(2 ^ 63) ≤ k ∧ k < 2 ^ 63 ∧ p.1.length * k.toNat ≤ sizeLine then some ((List.replicate k.toNat p.1).flatten, q.2) else none
  | _ => none
theorem da_rep {K : PySem.W.Frag} {H : Hp} {vs : List V} {ds : List PyData} (h : DaAll K H vs ds) : ∀ n : Nat, DaAll K H (List.replicate n vs).flatten (List.replicate n ds).flatten
  | 0 => .nil
  | n + 1 => by
    rw [List.replicate_succ, List.replicate_succ, List.flatten_cons, List.flatten_cons]
    exact h.app (da_rep h n)
theorem pxf_rep (ha : PXF X a xl) (hb : PX X b xb) : PXF X (.BinOp a .Mult b pos) (fRep xl xb) := pe_imp (pe_op op_rep ha hb) fun σ H Q q => by
  obtain ⟨as, ρ, os, H0, ds, os', n, hx, k⟩ := q
  unfold fRep at hx
  cases h1 : xl ρ os with
  | none => rw [h1] at hx; cases hx
  | some p =>
    obtain ⟨ds1, os1⟩ := p
    rw [h1, Option.bind_some] at hx
    simp only at hx
    cases h2 : xb ρ os1 with
    | none => rw [h2] at hx; cases hx
    | some q =>
      obtain ⟨d, os2⟩ := q
      rw [h2, Option.bind_some] at hx
      simp only at hx
      split at hx
      · rename_i kk
        split at hx
        · rename_i hc
          cases hx
          refine ⟨as, ρ, os, H0, ds1, os1, n, h1, fun p vs H0' H' hp n1 g1 e1 e2 e3 r => ⟨as, ρ, os1, H0', _, _, n1, h2, fun v H2' H2 n2 g2 r2 => ?_⟩⟩
          cases r2
          have e4 : H2 p = some (.lst vs) := g2.e1 p _ e2 e3
          have r4 := DaAll.mono g2.e0 _ _ r
          refine ⟨p, kk, vs, rfl, rfl, e4, hc.1, hc.2.1, by rw [r.len]; exact hc.2.2, fun z hz => ?_⟩
          have h0 : H2' z = none := fresh_back n2.sub hz
          have nD : z ∉ as := fun y => n2.ow.trk z y hz
          have gg := fresh_up (o := .lst (List.replicate kk.toNat vs).flatten) (g1.tr g2) hz
          exact k z _ H2' _ gg.2 (n2.away nD (fun a h => upd_ne h) (by rw [upd_same]; simp) h0) gg.1 h0 nD upd_same (da_rep r4 _)
        · cases hx
      · cases hx
end
end DL

set_option Elab.async false
set_option linter.all false
set_option maxRecDepth 100000
set_option maxHeartbeats 4000000
namespace DL
open PySem PySem.Spec PyProof.Rows L2 Evl
/-! ### expressions that may hand on an object of one's own -/
abbrev XS := List Sl → Os → Option (Sl × Os)
/-- nothing new is held -/
def teR (K : PySem.W.Frag) (x : XS) : TE := fun σ H Q => ∃ as ρ os H0 s os', En K as ρ os σ H0 H ∧ x ρ os = some (s, os') ∧ ∀ v H0' H', En K as ρ os' σ H0' H' → Gr as H0 H H0' H' → ArgOk K as H0' v s → Q v H'
/-- new ones may be held -/
def teS (K : PySem.W.Frag) (x : XS) : TE := fun σ H Q => ∃ as ρ os H0 s os', En K as ρ os σ H0 H ∧ x ρ os = some (s, os') ∧ ∀ v as' H0' H', Exs as H as' → En K as' ρ os' σ H0' H' → Gr as H0 H H0' H' → ArgOk K as' H0' v s → Q v H'
abbrev PXV (X : Cx) (e : Expr) (x : XS) : Prop := PE X e (teR X.K x)
abbrev PXS (X : Cx) (e : Expr) (x : XS) : Prop := PE X e (teS X.K x)
section
variable {X : Cx} {W : WX} {fr : Option Nat} {a b c e : Expr} {es : List Expr} {xa xb xe : XE} {xr xs : XS} {ra : XA} {pos p apos : Pos} {f m : Str} {C : Addr} {st : Stmt}
theorem pxs_r (h : PXV X e xr) : PXS X e xr := pe_imp h fun σ H Q q => by
  obtain ⟨as, ρ, os, H0, s, os', n, hx, k⟩ := q
  exact ⟨as, ρ, os, H0, s, os', n, hx, fun v H0' H' n1 g1 r1 => k v as H0' H' Exs.refl n1 g1 r1⟩
def xrD (xe : XE) : XS := fun ρ os => (xe ρ os).map fun p => (.d p.1, p.2)
theorem pxv_d (h : PX X e xe) : PXV X e (xrD xe) := pe_imp h fun σ H Q q => by
  obtain ⟨as, ρ, os, H0, s, os', n, hx, k⟩ := q
  unfold xrD at hx
  cases h1 : xe ρ os with
  | none => rw [h1] at hx; cases hx
  | some p =>
    rw [h1] at hx
    cases hx
    exact ⟨as, ρ, os, H0, p.1, p.2, n, h1, fun v H0' H' n1 g1 r1 => k v H0' H' n1 g1 r1⟩
/-- it is data -/
def xeD (xr : XS) : XE := fun ρ os => (xr ρ os).bind fun p => match p.1 with
  | .d x => some (x, p.2)
  | _ => none
theorem px_of_r (h : PXV X e xr) : PX X e (xeD xr) := pe_imp h fun σ H Q q => by
  obtain ⟨as, ρ, os, H0, d, os', n, hx, k⟩ := q
  unfold xeD at hx
  cases h1 : xr ρ os with
  | none => rw [h1] at hx; cases hx
  | some p =>
    obtain ⟨s, os1⟩ := p
    rw [h1, Option.bind_some] at hx
    cases s with
    | d x =>
      cases hx
      exact ⟨as, ρ, os, H0, _, _, n, h1, fun v H0' H' n1 g1 r1 => k v H0' H' n1 g1 r1⟩
    | _ => cases hx
def xrVar (i : Nat) : XS := fun ρ os => match ρ[i]? with
  | some .u => none
  | some s => some (s, os)
  | none => none
theorem pxv_var {i : Nat} (h : PE X e (tVar i)) : PXV X e (xrVar i) := pe_imp h fun σ H Q q => by
  obtain ⟨as, ρ, os, H0, d, os', n, hx, k⟩ := q
  unfold xrVar at hx
  split at hx
  · cases hx
  · rename_i s hs hi
    cases hx
    obtain ⟨v, hv, r⟩ := n.val hi hs
    exact ⟨v, hv, k v H0 H n (Gr.refl n.sub) r⟩
  · cases hx
/-! attributes -/
theorem fs_at {K : PySem.W.Frag} {as : List Addr} {H0 : Hp} : ∀ {gs : List (Str × V)} {fs : List (Str × Sl)} {f : Str} {s : Sl}, FsOk K as H0 gs fs → fs.lookup f = some s → ∃ v, gs.lookup f = some v ∧ ArgOk K as H0 v s
  | [], [], _, _, _, h => by cases h
  | g :: gs, q :: fs, f, s, h, e => by
    obtain ⟨h1, h2, h3⟩ := h
    obtain ⟨gn, gv⟩ := g
    obtain ⟨qn, qs⟩ := q
    cases h1
    cases hb : (f == gn) with
    | true =>
      simp only [List.lookup, hb] at e ⊢
      cases e
      exact ⟨gv, rfl, h2⟩
    | false =>
      simp only [List.lookup, hb] at e ⊢
      exact fs_at h3 e
  | [], _ :: _, _, _, h, _ => h.elim
  | _ :: _, [], _, _, h, _ => h.elim
theorem fs_no {K : PySem.W.Frag} {as : List Addr} {H0 : Hp} : ∀ {gs : List (Str × V)} {fs : List (Str × Sl)} {f : Str}, FsOk K as H0 gs fs → fs.lookup f = none → gs.lookup f = none
  | [], [], _, _, _ => rfl
  | g :: gs, q :: fs, f, h, e => by
    obtain ⟨h1, h2, h3⟩ := h
    obtain ⟨gn, gv⟩ := g
    obtain ⟨qn, qs⟩ := q
    cases h1
    cases hb : (f == gn) with
    | true =>
      simp only [List.lookup, hb] at e
      cases e
    | false =>
      simp only [List.lookup, hb] at e ⊢
      exact fs_no h3 e
  | [], _ :: _, _, h, _ => h.elim
  | _ :: _, [], _, h, _ => h.elim
theorem fs_len {K : PySem.W.Frag} {as : List Addr} {H0 : Hp} : ∀ {gs : List (Str × V)} {fs : List (Str × Sl)}, FsOk K as H0 gs fs → gs.length = fs.length
  | [], [], _ => rfl
  | _ :: _, _ :: _, h => by rw [List.length_cons, List.length_cons, fs_len h.2.2]
  | [], _ :: _, h => h.elim
  | _ :: _, [], h => h.elim
def putS (f : Str) (s : Sl) : List (Str × Sl) → List (Str × Sl)
  | [] => [(f, s)]
  | (g, x) :: r => if g = f then (g, s) :: r else (g, x) :: putS f s r
theorem fs_put {K : PySem.W.Frag} {as : List Addr} {H0 : Hp} {f : Str} {v : V} {s : Sl} (r : ArgOk K as H0 v s) : ∀ {gs : List (Str × V)} {fs : List (Str × Sl)}, FsOk K as H0 gs fs → FsOk K as H0 (putF f v gs) (putS f s fs)
  | [], [], _ => ⟨rfl, r, True.intro⟩
  | (gn, gv) :: gs, (qn, qs) :: fs, h => by
    obtain ⟨h1, h2, h3⟩ := h
    cases h1
    simp only [putF, putS]
    split
    · exact ⟨rfl, r, h3⟩
    · exact ⟨rfl, h2, fs_put r h3⟩
  | [], _ :: _, h => h.elim
  | _ :: _, [], h => h.elim
/-- an instance of the class at C, by its number -/
def insAt (C : Addr) (os : Os) : Sl → Option (Nat × List (Str × Sl))
  | .o k => match os[k]? with
    | some (some (.i C' fs)) => if C' = C then some (k, fs) else none
    | _ => none
  | _ => none
theorem insAt_some {os : Os} {s : Sl} {k : Nat} {fs : List (Str × Sl)} (h : insAt C os s = some (k, fs)) : s = .o k ∧ os[k]? = some (some (.i C fs)) := by
  unfold insAt at h
  split at h
  · split at h
    · rename_i C' fs' h1
      split at h
      · rename_i hc
        cases h
        subst hc
        exact ⟨rfl, h1⟩
      · cases h
    · cases h
  · cases h
def slU : Sl → Bool
  | .u => true
  | _ => false
/-- e.f -/
def xrFld (C : Addr) (f : Str) (xr : XS) : XS := fun ρ os => (xr ρ os).bind fun p => (insAt C p.2 p.1).bind fun q => (q.2.lookup f).map fun s => (s, p.2)
theorem pxv_fld (hc : Cls X.K C) (hn : NoAttr X.K C f) (he : PXV X e xr) (hb : attributeBase e f X.env (eval e X.env) = eval e X.env := by rfl) : PXV X (.Attribute e f pos) (xrFld C f xr) := pe_imp (pe_fld he hb) fun σ H Q q => by
  obtain ⟨as, ρ, os, H0, s, os', n, hx, k⟩ := q
  unfold xrFld at hx
  cases h1 : xr ρ os with
  | none => rw [h1] at hx; cases hx
  | some p =>
    obtain ⟨s1, os1⟩ := p
    rw [h1, Option.bind_some] at hx
    simp only at hx
    cases h2 : insAt C os1 s1 with
    | none => rw [h2] at hx; cases hx
    | some q2 =>
      obtain ⟨j, fs⟩ := q2
      rw [h2, Option.bind_some] at hx
      simp only at hx
      cases h3 : fs.lookup f with
      | none => rw [h3] at hx; cases hx
      | some s2 =>
        rw [h3] at hx
        cases hx
        obtain ⟨rfl, h4⟩ := insAt_some h2
        refine ⟨as, ρ, os, H0, _, _, n, h1, fun v H0' H' n1 g1 r1 => ?_⟩
        obtain ⟨ad, e1, rfl⟩ := r1
        obtain ⟨q1, o, q2, q3⟩ := n1.ow.at_ j ad _ e1 h4
        obtain ⟨dx, gs, rfl, r⟩ := q3.i_of
        obtain ⟨u, l1, l2⟩ := fs_at r h3
        exact ⟨ad, C, dx, gs, u, rfl, q2, hc, hn, l1, k u H0' H' n1 g1 l2⟩
end
end DL

set_option Elab.async false
set_option linter.all false
set_option maxRecDepth 100000
set_option maxHeartbeats 4000000
namespace DL
open PySem PySem.Spec PyProof.Rows L2 Evl
/-! ### dicts of one's own -/
def keyOf : PyData → Option Key
  | .int i => some (.inl i)
  | .str x => some (.inr x)
  | _ => none
def keysOf : List PyData → Option (List Key)
  | [] => some []
  | d :: r => (keyOf d).bind fun k => (keysOf r).map fun ks => k :: ks
section
variable {κ : Type} [DecidableEq κ]
def valP (ps : List (κ × PyData)) (k : κ) : Option PyData := (ps.find? fun kv => decide (kv.1 = k)).map (·.2)
def putP (ps : List (κ × PyData)) (k : κ) (v : PyData) : List (κ × PyData) :=
  if (ps.any fun kv => decide (kv.1 = k)) = true then ps.map (fun kv => if kv.1 = k then (kv.1, v) else kv) else ps ++ [(k, v)]
theorem val_rel {K : PySem.W.Frag} {H0 : Hp} {k : κ} : ∀ {kvs : List (κ × V)} {ps : List (κ × PyData)}, PsOk K H0 kvs ps → (valP ps k = none → valV kvs k = none) ∧ ∀ d, valP ps k = some d → ∃ v, valV kvs k = some v ∧ Da K H0 v d
  | [], [], _ => ⟨fun _ => rfl, fun d h => by cases h⟩
  | p :: kvs, q :: ps, h => by
    obtain ⟨h1, h2, h3⟩ := h
    have ih := val_rel (k := k) h3
    unfold valP valV at ih ⊢
    by_cases e : p.1 = k
    · have e2 : q.1 = k := h1.symm.trans e
      simp only [List.find?_cons, e, e2, decide_true]
      exact ⟨fun h => by simp at h, fun d h => ⟨p.2, rfl, by simp at h; rw [← h]; exact h2⟩⟩
    · have e2 : ¬ q.1 = k := fun z => e (h1.trans z)
      simp only [List.find?_cons, e, e2, decide_false]
      exact ih
  | [], _ :: _, h => h.elim
  | _ :: _, [], h => h.elim
theorem any_rel {K : PySem.W.Frag} {H0 : Hp} {k : κ} : ∀ {kvs : List (κ × V)} {ps : List (κ × PyData)}, PsOk K H0 kvs ps → (kvs.any fun kv => decide (kv.1 = k)) = (ps.any fun kv => decide (kv.1 = k))
  | [], [], _ => rfl
  | p :: kvs, q :: ps, h => by
    simp only [List.any_cons]
    rw [any_rel h.2.2, h.1]
  | [], _ :: _, h => h.elim
  | _ :: _, [], h => h.elim
theorem ps_len {K : PySem.W.Frag} {H0 : Hp} : ∀ {kvs : List (κ × V)} {ps : List (κ × PyData)}, PsOk K H0 kvs ps → kvs.length = ps.length
  | [], [], _ => rfl
  | _ :: _, _ :: _, h => by rw [List.length_cons, List.length_cons, ps_len h.2.2]
  | [], _ :: _, h => h.elim
  | _ :: _, [], h => h.elim
theorem map_rel {K : PySem.W.Frag} {H0 : Hp} {k : κ} {v : V} {d : PyData} (r : Da K H0 v d) : ∀ {kvs : List (κ × V)} {ps : List (κ × PyData)}, PsOk K H0 kvs ps → PsOk K H0 (kvs.map fun kv => if kv.1 = k then (kv.1, v) else kv) (ps.map fun kv => if kv.1 = k then (kv.1, d) else kv)
  | [], [], _ => True.intro
  | p :: kvs, q :: ps, h => by
    obtain ⟨h1, h2, h3⟩ := h
    simp only [List.map_cons]
    refine ⟨?_, ?_, map_rel r h3⟩
    · by_cases e : p.1 = k
      · rw [if_pos e, if_pos (h1.symm.trans e)]
        exact h1
      · rw [if_neg e, if_neg (fun z => e (h1.trans z))]
        exact h1
    · by_cases e : p.1 = k
      · rw [if_pos e, if_pos (h1.symm.trans e)]
        exact r
      · rw [if_neg e, if_neg (fun z => e (h1.trans z))]
        exact h2
  | [], _ :: _, h => h.elim
  | _ :: _, [], h => h.elim
theorem psOk_app {K : PySem.W.Frag} {H0 : Hp} : ∀ {kvs lvs : List (κ × V)} {ps qs : List (κ × PyData)}, PsOk K H0 kvs ps → PsOk K H0 lvs qs → PsOk K H0 (kvs ++ lvs) (ps ++ qs)
  | [], _, [], _, _, g => g
  | _ :: _, _, _ :: _, _, h, g => ⟨h.1, h.2.1, psOk_app h.2.2 g⟩
  | [], _, _ :: _, _, h, _ => h.elim
  | _ :: _, _, [], _, h, _ => h.elim
theorem put_rel {K : PySem.W.Frag} {H0 : Hp} {k : κ} {v : V} {d : PyData} (r : Da K H0 v d) {kvs : List (κ × V)} {ps : List (κ × PyData)} (h : PsOk K H0 kvs ps) : PsOk K H0 (putK kvs k v) (putP ps k d) := by
  unfold putK putP
  rw [any_rel h]
  split
  · exact map_rel r h
  · exact psOk_app h ⟨rfl, r, True.intro⟩
end
theorem key_rel {K : PySem.W.Frag} {H : Hp} {v : V} {d : PyData} {k : Key} (h : Da K H v d) (e : keyOf d = some k) : v = kV k := by
  cases h <;> first | (cases e; rfl) | cases e
theorem keys_rel {K : PySem.W.Frag} {H : Hp} : ∀ {vs : List V} {ds : List PyData} {ks : List Key}, DaAll K H vs ds → keysOf ds = some ks → vs = ks.map kV
  | _, _, ks, .nil, e => by cases e; rfl
  | _, _, ks, .cons (d := d) (ds := ds) h t, e => by
    simp only [keysOf] at e
    cases h1 : keyOf d with
    | none => rw [h1] at e; cases e
    | some k =>
      rw [h1, Option.bind_some] at e
      cases h2 : keysOf ds with
      | none => rw [h2] at e; cases e
      | some kk =>
        rw [h2] at e
        cases e
        rw [key_rel h h1, keys_rel t h2]
        rfl
/-- what a dict holds at a key -/
def getO : Ob → PyData → Option (Option PyData)
  | .k ps, d => (keyOf d).map fun k => valP ps k
  | .T ps, .tuple ds => (keysOf ds).map fun ks => valP ps ks
  | _, _ => none
def putO : Ob → PyData → PyData → Option Ob
  | .k ps, d, v => (keyOf d).bind fun k => if ps.length < sizeLine then some (.k (putP ps k v)) else none
  | .T ps, .tuple ds, v => (keysOf ds).bind fun ks => if ps.length < sizeLine then some (.T (putP ps ks v)) else none
  | _, _, _ => none
theorem getO_ok {K : PySem.W.Frag} {as : List Addr} {H0 H : Hp} {a : Addr} {ob : Ob} {o : HO} {y : V} {d : PyData} {r : Option PyData} (s : Ex H0 H) (h : H a = some o) (c : Cont K as H0 o ob) (hy : Da K H0 y d) (e : getO ob d = some r) :
    ∃ r', DGet H a y r' ∧ ((r = none ∧ r' = none) ∨ ∃ x v, r = some x ∧ r' = some v ∧ Da K H0 v x) := by
  cases ob with
  | k ps =>
    obtain ⟨kvs, rfl, c⟩ := c.k_of
    simp only [getO] at e
    cases h1 : keyOf d with
    | none => rw [h1] at e; cases e
    | some k =>
      rw [h1] at e
      cases e
      have ey := key_rel hy h1
      subst ey
      refine ⟨valV kvs k, DGet.k h, ?_⟩
      obtain ⟨r1, r2⟩ := val_rel (k := k) c
      cases h3 : valP ps k with
      | none => exact .inl ⟨h3, r1 h3⟩
      | some x =>
        obtain ⟨v, h4, h5⟩ := r2 x h3
        exact .inr ⟨x, v, h3, h4, h5⟩
  | T ps =>
    obtain ⟨kvs, rfl, c⟩ := c.T_of
    cases d with
    | tuple ds =>
      simp only [getO] at e
      cases h1 : keysOf ds with
      | none => rw [h1] at e; cases e
      | some ks =>
        rw [h1] at e
        cases e
        cases hy with
        | tup h6 h7 =>
          have ey := keys_rel h7 h1
          subst ey
          refine ⟨valV kvs ks, DGet.t h (s _ _ h6), ?_⟩
          obtain ⟨r1, r2⟩ := val_rel (k := ks) c
          cases h3 : valP ps ks with
          | none => exact .inl ⟨h3, r1 h3⟩
          | some x =>
            obtain ⟨v, h4, h5⟩ := r2 x h3
            exact .inr ⟨x, v, h3, h4, h5⟩
    | _ => cases e
  | _ => cases e
theorem putO_ok {K : PySem.W.Frag} {as : List Addr} {H0 H : Hp} {a : Addr} {ob ob' : Ob} {o : HO} {y v : V} {d x : PyData} (s : Ex H0 H) (h : H a = some o) (c : Cont K as H0 o ob) (hy : Da K H0 y d) (hv : Da K H0 v x) (e : putO ob d x = some ob') :
    ∃ o', DPut H a y v (upd H a o') ∧ Cont K as H0 o' ob' := by
  cases ob with
  | k ps =>
    obtain ⟨kvs, rfl, c⟩ := c.k_of
    simp only [putO] at e
    cases h1 : keyOf d with
    | none => rw [h1] at e; cases e
    | some k =>
      rw [h1, Option.bind_some] at e
      split at e
      · rename_i hl
        cases e
        have ey := key_rel hy h1
        subst ey
        exact ⟨_, DPut.k h (by rw [ps_len c]; exact hl), put_rel hv c⟩
      · cases e
  | T ps =>
    obtain ⟨kvs, rfl, c⟩ := c.T_of
    cases d with
    | tuple ds =>
      simp only [putO] at e
      cases h1 : keysOf ds with
      | none => rw [h1] at e; cases e
      | some ks =>
        rw [h1, Option.bind_some] at e
        split at e
        · rename_i hl
          cases e
          cases hy with
          | tup h6 h7 =>
            have ey := keys_rel h7 h1
            subst ey
            exact ⟨_, DPut.t h (s _ _ h6) (by rw [ps_len c]; exact hl), put_rel hv c⟩
        · cases e
    | _ => cases e
  | _ => cases e
def obAt (os : Os) : Sl → Option (Nat × Ob)
  | .o k => match os[k]? with
    | some (some ob) => some (k, ob)
    | _ => none
  | _ => none
theorem obAt_some {os : Os} {s : Sl} {k : Nat} {ob : Ob} (h : obAt os s = some (k, ob)) : s = .o k ∧ os[k]? = some (some ob) := by
  unfold obAt at h
  split at h
  · split at h
    · rename_i ob' h1
      cases h
      exact ⟨rfl, h1⟩
    · cases h
  · cases h
section
variable {X : Cx} {W : WX} {fr : Option Nat} {a b c e : Expr} {es : List Expr} {xa xb xe xk xv xz : XE} {xr xs xd : XS} {ra : XA} {pos p apos pos' : Pos} {f m : Str} {C : Addr} {st : Stmt}
/-- d[k] -/
def xGetK (xd : XS) (xk : XE) : XE := fun ρ os => (xd ρ os).bind fun p => (xk ρ p.2).bind fun q => (obAt q.2 p.1).bind fun ob => (getO ob.2 q.1).bind fun r => r.map fun v => (v, q.2)
theorem px_getK (hu : X.A.units + 1 < cLine) (hd : PXV X a xd) (hk : PX X b xk) (hs : NoSl b := by exact fun _ _ => rfl) : PX X (.Subscript a b pos) (xGetK xd xk) := pe_imp (pe_dget hu hd hk hs) fun σ H Q q => by
  obtain ⟨as, ρ, os, H0, d, os', n, hx, k⟩ := q
  unfold xGetK at hx
  cases h1 : xd ρ os with
  | none => rw [h1] at hx; cases hx
  | some p =>
    obtain ⟨s, os1⟩ := p
    rw [h1, Option.bind_some] at hx
    cases h2 : xk ρ os1 with
    | none => simp only [h2] at hx; cases hx
    | some q =>
      obtain ⟨y, os2⟩ := q
      simp only [h2, Option.bind_some] at hx
      cases h3 : obAt os2 s with
      | none => rw [h3] at hx; cases hx
      | some r =>
        obtain ⟨j, ob⟩ := r
        rw [h3, Option.bind_some] at hx
        simp only at hx
        cases h4 : getO ob y with
        | none => rw [h4] at hx; cases hx
        | some r2 =>
          rw [h4, Option.bind_some] at hx
          cases r2 with
          | none => cases hx
          | some z =>
            cases hx
            obtain ⟨rfl, h5⟩ := obAt_some h3
            refine ⟨as, ρ, os, H0, _, _, n, h1, fun v H0' H' n1 g1 r1 => ⟨as, ρ, os1, H0', y, _, n1, h2, fun w H2' H2 n2 g2 r2 => ?_⟩⟩
            obtain ⟨ad, e1, rfl⟩ := r1
            obtain ⟨q1, o, q2, q3⟩ := n2.ow.at_ j ad _ e1 h5
            obtain ⟨r', hg, hr⟩ := getO_ok n2.sub q2 q3 r2 h4
            rcases hr with ⟨z1, _⟩ | ⟨x, v2, z1, z2, z3⟩
            · cases z1
            · cases z1
              subst z2
              exact ⟨ad, v2, rfl, hg, k v2 H2' H2 n2 (g1.tr g2) z3⟩
/-- k in d, k not in d -/
def xInK (neg : Bool) (xk : XE) (xd : XS) : XE := fun ρ os => (xk ρ os).bind fun q => (xd ρ q.2).bind fun p => (obAt p.2 p.1).bind fun ob => (getO ob.2 q.1).map fun r => (.bool (r.isSome != neg), p.2)
theorem to_inK {K : PySem.W.Frag} {neg : Bool} {σ : L2.St} {H : Hp} {Q : VK} (q : teO K (xInK neg xk xd) σ H Q) : (fun σ H Q => teO K xk σ H fun y H1 => teR K xd σ H1 fun x H2 => ∃ a o, x = .ref a ∧ DGet H2 a y o ∧ Q (.bl (o.isSome != neg)) H2 : TE) σ H Q := by
  obtain ⟨as, ρ, os, H0, d, os', n, hx, k⟩ := q
  unfold xInK at hx
  cases h1 : xk ρ os with
  | none => rw [h1] at hx; cases hx
  | some p =>
    obtain ⟨y, os1⟩ := p
    rw [h1, Option.bind_some] at hx
    simp only at hx
    cases h2 : xd ρ os1 with
    | none => rw [h2] at hx; cases hx
    | some q =>
      obtain ⟨s, os2⟩ := q
      rw [h2, Option.bind_some] at hx
      simp only at hx
      cases h3 : obAt os2 s with
      | none => rw [h3] at hx; cases hx
      | some r =>
        obtain ⟨j, ob⟩ := r
        rw [h3, Option.bind_some] at hx
        simp only at hx
        cases h4 : getO ob y with
        | none => rw [h4] at hx; cases hx
        | some r2 =>
          rw [h4] at hx
          cases hx
          obtain ⟨rfl, h5⟩ := obAt_some h3
          refine ⟨as, ρ, os, H0, _, _, n, h1, fun v H0' H' n1 g1 r1 => ⟨as, ρ, os1, H0', _, _, n1, h2, fun w H2' H2 n2 g2 rr => ?_⟩⟩
          obtain ⟨ad, e1, rfl⟩ := rr
          obtain ⟨q1, o, q2, q3⟩ := n2.ow.at_ j ad _ e1 h5
          obtain ⟨r', hg, hr⟩ := getO_ok n2.sub q2 q3 (r1.mono g2.e0) h4
          refine ⟨ad, r', rfl, hg, ?_⟩
          have e5 : r'.isSome = r2.isSome := by
            rcases hr with ⟨z1, z2⟩ | ⟨x, v2, z1, z2, z3⟩ <;> rw [z1, z2] <;> rfl
          rw [e5]
          exact k _ H2' H2 n2 (g1.tr g2) (.bl _)
theorem px_inK (hu : X.A.units + 1 < cLine) (hk : PX X b xk) (hd : PXV X a xd) (hm : behindInMarks .In a = false := by rfl) : PX X (.Compare b [.In] [a] pos) (xInK false xk xd) := pe_imp (pe_cmp (pc_din hu hk hd) hm) fun σ H Q q => by
  have := to_inK q
  simp only [Bool.bne_false] at this
  exact this
theorem px_niK (hu : X.A.units + 1 < cLine) (hk : PX X b xk) (hd : PXV X a xd) (hm : behindInMarks .NotIn a = false := by rfl) : PX X (.Compare b [.NotIn] [a] pos) (xInK true xk xd) := pe_imp (pe_cmp (pc_dnotin hu hk hd) hm) fun σ H Q q => by
  have := to_inK q
  simp only [Bool.bne_true] at this
  exact this
theorem to_bool {K : PySem.W.Frag} {x : XE} {σ : L2.St} {H : Hp} {Q : Bool → Hp → Prop} (q : ttO K (xBool x) σ H Q) : teO K x σ H fun v H1 => ∃ c, v = .bl c ∧ Q c H1 := by
  obtain ⟨as, ρ, os, H0, d, os', n, hx, k⟩ := q
  unfold xBool at hx
  cases h1 : x ρ os with
  | none => rw [h1] at hx; cases hx
  | some p =>
    obtain ⟨y, os1⟩ := p
    rw [h1, Option.bind_some] at hx
    cases y with
    | bool c =>
      cases hx
      exact ⟨as, ρ, os, H0, _, _, n, h1, fun v H1 H1' n1 g1 r1 => by
        cases r1
        exact ⟨_, rfl, k H1 H1' n1 g1⟩⟩
    | _ => cases hx
theorem pxt_inK (hu : X.A.units + 1 < cLine) (hk : PX X b xk) (hd : PXV X a xd) (hm : behindInMarks .In a = false := by rfl) : PXT X (.Compare b [.In] [a] pos) (xBool (xInK false xk xd)) := pt_imp (pt_cmp (pc_din hu hk hd) hm) fun σ H Q q => by
  have := to_inK (to_bool q)
  simp only [Bool.bne_false] at this
  exact this
theorem pxt_niK (hu : X.A.units + 1 < cLine) (hk : PX X b xk) (hd : PXV X a xd) (hm : behindInMarks .NotIn a = false := by rfl) : PXT X (.Compare b [.NotIn] [a] pos) (xBool (xInK true xk xd)) := pt_imp (pt_cmp (pc_dnotin hu hk hd) hm) fun σ H Q q => by
  have := to_inK (to_bool q)
  simp only [Bool.bne_true] at this
  exact this
/-- d[k] = v -/
def sPutK (xd : XS) (xk xv : XE) : SE := fun ρ os => (xv ρ os).bind fun z => (xd ρ z.2).bind fun p => (xk ρ p.2).bind fun q => (obAt q.2 p.1).bind fun ob => (putO ob.2 q.1 z.1).map fun ob' => .nx ρ (q.2.set ob.1 (some ob'))
theorem psx_putK (hu : X.A.units + 1 < cLine) (hd : PXV X a xd) (hk : PX X b xk) (hv : PX X c xv) (hs : swapsWith c (some (.Subscript a b pos')) pos.line X.env = pure false := by rfl) : PSX X W fr (.Assign [.Subscript a b pos'] c pos) (sPutK xd xk xv) := ps_imp (ps_dput hu hd hk hv hs) fun D σ H q => by
  obtain ⟨as0, Hs, as, ρ, os, H0, o, bs0, n, hx, k⟩ := q
  unfold sPutK at hx
  cases h0 : xv ρ os with
  | none => rw [h0] at hx; cases hx
  | some z =>
    obtain ⟨z, os0⟩ := z
    rw [h0, Option.bind_some] at hx
    simp only at hx
    cases h1 : xd ρ os0 with
    | none => rw [h1] at hx; cases hx
    | some p =>
      obtain ⟨s, os1⟩ := p
      rw [h1, Option.bind_some] at hx
      simp only at hx
      cases h2 : xk ρ os1 with
      | none => rw [h2] at hx; cases hx
      | some q =>
        obtain ⟨y, os2⟩ := q
        rw [h2, Option.bind_some] at hx
        simp only at hx
        cases h3 : obAt os2 s with
        | none => rw [h3] at hx; cases hx
        | some r =>
          obtain ⟨j, ob⟩ := r
          rw [h3, Option.bind_some] at hx
          simp only at hx
          cases h4 : putO ob y z with
          | none => rw [h4] at hx; cases hx
          | some ob' =>
            rw [h4] at hx
            cases hx
            obtain ⟨rfl, h5⟩ := obAt_some h3
            refine ⟨as, ρ, os, H0, z, os0, n, h0, fun vz H1' H1 n1 g1 r1 => ⟨as, ρ, os0, H1', _, _, n1, h1, fun v H2' H2 n2 g2 r2 => ⟨as, ρ, os1, H2', y, os2, n2, h2, fun w H3' H3 n3 g3 r3 => ?_⟩⟩⟩
            obtain ⟨ad, e1, rfl⟩ := r2
            obtain ⟨q1, o, q2, q3⟩ := n3.ow.at_ j ad _ e1 h5
            obtain ⟨o', hp, hc⟩ := putO_ok n3.sub q2 q3 r3 (r1.mono (g2.e0.trans g3.e0)) h4
            have hm : ad ∈ as := List.mem_of_getElem? e1
            exact ⟨ad, _, rfl, hp, k as σ H3' _ Exs.refl (n3.mut e1 h5 hc) (((g1.tr g2).tr g3).tr (Gr.mut n3.sub hm q1 (n3.ow.trk _ hm)))⟩
end
end DL

set_option Elab.async false
set_option linter.all false
set_option maxRecDepth 100000
set_option maxHeartbeats 4000000
namespace DL
open PySem PySem.Spec PyProof.Rows L2 Evl
/-! ### methods, new instances -/
def tMethG (C : Addr) (m : Str) (sp : Sp) (ta : TE) (t : TA) : TE := fun σ H Q => ta σ H fun x H1 => ∃ a dx fs, x = .ref a ∧ H1 a = some (.ins C dx fs) ∧ fs.lookup m = none ∧ t σ H1 fun vs H2 => sp (x :: vs) H2 Q E0
def tMakeG (C : Addr) (sp : Sp) (t : TA) : TE := fun σ H Q => t σ H fun vs H1 => ∀ x dx, H1 x = none → H1 dx = none → dx ≠ x →
  sp (.ref x :: vs) (upd (upd H1 dx (.own x)) x (.ins C dx [])) (fun v H2 => v = .non ∧ Q (.ref x) H2) E0
theorem make_guards {A : Around} {C : Addr} {us : List Value} {kw : List (Str × Value)} : (A.under (.builtin "type.__call__" ⟨.ref C :: us, kw⟩)).guards = A.guards := by
  first | rfl | simp [Around.under, Code.weight, Code.isCreation, Code.isGuard, Code.isCaller, Code.frames, Code.isFrame, guardIds]
theorem Rm.make {k : Nat} {A : Around} (r : Rm (k + 1) A) (C : Addr) (us : List Value) (kw : List (Str × Value)) : Rm k (A.under (.builtin "type.__call__" ⟨.ref C :: us, kw⟩)) := ⟨r.room.make C us kw, by rw [make_guards]; exact r.gd⟩
section
variable {X : Cx} {W : WX} {fr : Option Nat} {k n : Nat} {a b c e o : Expr} {es : List Expr} {xa xb xe xk xv xz : XE} {xr xs xd : XS} {ra : XA} {pos p apos pos' tpos : Pos} {x : Str} {m : Str} {C f : Addr} {st : Stmt} {fd : FuncData} {ps : List Str} {sp : Sp} {ta : TE} {t : TA} {M : XM}
theorem pe_methG {pl : Sem Bool} (he : PE X o ta) (c : Cls X.K C) (hm : Meth X.K C m f) (F : FnG X.prog X.w X.K X.mg X.base k f fd n ps sp) (hr : Rm k X.A) (hb : Binds X.K fd ps []) (ha : PA X (e :: es) t)
    (hst : starEach (e :: es) X.env = (false, eval e X.env) :: starEach es X.env := by rfl) (hpl : (backTo pos (starEach es X.env)).any (·.1) = false := by rfl)
    (ht : eval (.Call (.Attribute o m apos) (e :: es) [] pos) X.env = (do
      let ov ← eval o X.env
      standAt apos.atName
      let (f, first) ← holding [ov] (getMethod ov m pl)
      callWith pos f first (backTo pos (starEach (e :: es) X.env)) (backToKw pos (keywordEach [] X.env))) := by rfl) :
    PE X (.Call (.Attribute o m apos) (e :: es) [] pos) (tMethG C m sp ta t) := by
  refine ⟨fun pins s σ H Q I h => ?_⟩
  refine PySem.W.methodCall_KW (pl := pl) (thn (he.run pins s σ H _ I h) fun u s1 ⟨x, H1, I1, rx, a, dx, fs, ex, ea, l, q⟩ => ?_) ht
  subst ex
  obtain rfl : u = Value.ref a := rx
  refine getmeth_ok I1 ea c hm l ?_
  refine PySem.W.callWith_K (first := [.ref a]) (h₀ := X.base) I.ok.mod.kin hm.kp (thn (ha.run pos pins s1 σ H1 _ I1 q) fun us s2 ⟨vs, H2, I2, r, q2⟩ => ⟨I2.kIn, ?_⟩) hst hpl
  have hl : (Value.ref a :: us).length = ps.length := by rw [List.length_cons, ← r.length, F.pl]; exact F.len _ _ _ _ q2
  refine run_g (us := .ref a :: us) (vs := .ref a :: vs) (args := ⟨.ref a :: us, []⟩) F hr ?_ I2 (.cons rfl r) q2
  have := hb s2 (.ref a :: us) I2.kIn (by rw [List.append_nil]; exact hl)
  rw [List.append_nil] at this
  exact this
theorem pe_methG0 {pl : Sem Bool} (he : PE X o ta) (c : Cls X.K C) (hm : Meth X.K C m f) (F : FnG X.prog X.w X.K X.mg X.base k f fd n ps sp) (hr : Rm k X.A) (hb : Binds X.K fd ps [])
    (ht : eval (.Call (.Attribute o m apos) [] [] pos) X.env = (do
      let ov ← eval o X.env
      standAt apos.atName
      let (f, first) ← holding [ov] (getMethod ov m pl)
      callWith pos f first (backTo pos (starEach [] X.env)) (backToKw pos (keywordEach [] X.env))) := by rfl) :
    PE X (.Call (.Attribute o m apos) [] [] pos) (tMethG C m sp ta tNil) := by
  refine ⟨fun pins s σ H Q I h => ?_⟩
  refine PySem.W.methodCall_KW (pl := pl) (thn (he.run pins s σ H _ I h) fun u s1 ⟨x, H1, I1, rx, a, dx, fs, ex, ea, l, q⟩ => ?_) ht
  subst ex
  obtain rfl : u = Value.ref a := rx
  refine getmeth_ok I1 ea c hm l ?_
  have hl : ([Value.ref a]).length = ps.length := by rw [F.pl]; exact F.len _ _ _ _ q
  refine PySem.W.callWith_K0 (first := [.ref a]) I1.kIn hm.kp (run_g (us := [.ref a]) (vs := [.ref a]) (args := ⟨[.ref a], []⟩) F hr ?_ I1 (.cons rfl .nil) q)
  have := hb s1 [.ref a] I1.kIn (by rw [List.append_nil]; exact hl)
  rw [List.append_nil] at this
  exact this
theorem run_makeG {pins : List (Addr × Obj)} {σ : L2.St} {H : Hp} {s : Shared} {Q : VK} {us : List Value} {vs : List V} (M : Mk X.K C f) (F : FnG X.prog X.w X.K X.mg X.base k f fd n ps sp) (hr : Rm (k + 1) X.A) (hb : Binds X.K fd ps [])
    (I : Inv X pins σ H s) (r : Vals vs us)
    (h : ∀ x dx, H x = none → H dx = none → dx ≠ x → sp (.ref x :: vs) (upd (upd H dx (.own x)) x (.ins C dx [])) (fun v H2 => v = .non ∧ Q (.ref x) H2) E0) :
    wpAny (model X.prog X.w) X.A (call (.ref C) us) (EP X pins σ Q) X.xe s := by
  have hq := h (s.heap.objs.size + 1) s.heap.objs.size (I.hok.fresh (Nat.le_succ _)) (I.hok.fresh (Nat.le_refl _)) (Nat.ne_of_lt (Nat.lt_succ_self _))
  have I2 := Inv.made (C := C) I
  have r2 : Vals (V.ref (s.heap.objs.size + 1) :: vs) (Value.ref (s.heap.objs.size + 1) :: us) := .cons rfl r
  have hl : (Value.ref (s.heap.objs.size + 1) :: us).length = ps.length := by
    have e := r2.length
    rw [F.len _ _ _ _ hq, ← F.pl] at e
    exact e.symm
  have hb2 := hb _ (Value.ref (s.heap.objs.size + 1) :: us) I2.kIn (by rw [List.append_nil]; exact hl)
  rw [List.append_nil] at hb2
  refine wpAny_call (make_map (f := f) I.kIn M.makes M.init (beq_iff_eq.mp M.fn) (codeAny_mono (F.run _ X.stack _ _ ⟨Value.ref (s.heap.objs.size + 1) :: us, []⟩ (Value.ref (s.heap.objs.size + 1) :: us) _ _ E0 (hr.make C us [])
    (I2.env0.make C us []) hb2 r2 hq) fun r s' hq' => ?_))
  cases r with
  | error e => exact passL pins σ _ _ e s' I2 hq'
  | ok fl =>
    cases fl with
    | ret u =>
      obtain ⟨v, H', I3, rv, ev, q3⟩ := I2.after hq'
      subst ev
      exact ⟨rv, ⟨V.ref (s.heap.objs.size + 1), H', I3, rfl, q3⟩⟩
    | next => exact False.elim hq'
    | brk => exact False.elim hq'
    | cont => exact False.elim hq'
theorem pe_makeG (M : Mk X.K C f) (F : FnG X.prog X.w X.K X.mg X.base k f fd n ps sp) (hr : Rm (k + 1) X.A) (hg : Gl X x) (hm : X.mg x = some (.ref C)) (hb : Binds X.K fd ps [])
    (ha : PA X (e :: es) t) (hdb : (x == ("__debug__" : Str)) = false := by decide) (he : starEach (e :: es) X.env = (false, eval e X.env) :: starEach es X.env := by rfl) (hpl : (backTo pos (starEach es X.env)).any (·.1) = false := by rfl) :
    PE X (.Call (.Name x p) (e :: es) [] pos) (tMakeG C sp t) := by
  refine ⟨fun pins s σ H Q I h => ?_⟩
  refine wpAny_Call_Name_kw (ld_glob I hg hm ?_ hdb)
  refine PySem.W.callWith_K (h₀ := X.base) I.ok.mod.kin M.kp (thn (ha.run pos pins s σ H _ I h) fun us s1 ⟨vs, H1, I1, r, q⟩ => ⟨I1.kIn, ?_⟩) he hpl
  exact run_makeG M F hr hb I1 r q
theorem pe_makeG0 (M : Mk X.K C f) (F : FnG X.prog X.w X.K X.mg X.base k f fd n ps sp) (hr : Rm (k + 1) X.A) (hg : Gl X x) (hm : X.mg x = some (.ref C)) (hb : Binds X.K fd ps [])
    (hdb : (x == ("__debug__" : Str)) = false := by decide) : PE X (.Call (.Name x p) [] [] pos) (tMakeG C sp tNil) := by
  refine ⟨fun pins s σ H Q I h => ?_⟩
  refine wpAny_Call_Name_kw (ld_glob I hg hm ?_ hdb)
  exact PySem.W.callWith_K0 I.kIn M.kp (run_makeG (us := []) M F hr hb I .nil h)
/-! method: o.m(..) gives data -/
def xMeth (C : Addr) (m : Str) (M : XM) (xr : XS) (ra : XA) : XE := fun ρ os => (xr ρ os).bind fun p => (insAt C p.2 p.1).bind fun q => match q.2.lookup m with
  | none => (ra ρ p.2).bind fun z => M (.o q.1 :: z.1) z.2
  | some _ => none
theorem to_meth {K : PySem.W.Frag} {σ : L2.St} {H : Hp} {Q : VK} (hl : ∀ ρ os ss os', ra ρ os = some (ss, os') → ss.length + 1 = n) (q : teO K (xMeth C m M xr ra) σ H Q) : tMethG C m (spM K n M) (teR K xr) (taO K ra) σ H Q := by
  obtain ⟨as, ρ, os, H0, d, os', n0, hx, k⟩ := q
  unfold xMeth at hx
  cases h1 : xr ρ os with
  | none => rw [h1] at hx; cases hx
  | some p =>
    obtain ⟨s, os1⟩ := p
    rw [h1, Option.bind_some] at hx
    simp only at hx
    cases h2 : insAt C os1 s with
    | none => rw [h2] at hx; cases hx
    | some q2 =>
      obtain ⟨j, fs⟩ := q2
      rw [h2, Option.bind_some] at hx
      simp only at hx
      cases h3 : fs.lookup m with
      | some _ => rw [h3] at hx; cases hx
      | none =>
        rw [h3] at hx
        simp only at hx
        cases h4 : ra ρ os1 with
        | none => rw [h4] at hx; cases hx
        | some z =>
          obtain ⟨ss, os2⟩ := z
          rw [h4, Option.bind_some] at hx
          simp only at hx
          obtain ⟨rfl, h5⟩ := insAt_some h2
          refine ⟨as, ρ, os, H0, _, _, n0, h1, fun v H1 H1' n1 g1 r1 => ?_⟩
          obtain ⟨ad, e1, rfl⟩ := r1
          obtain ⟨q1, o, q2, q3⟩ := n1.ow.at_ j ad _ e1 h5
          obtain ⟨dx, gs, rfl, r⟩ := q3.i_of
          refine ⟨ad, dx, gs, rfl, q2, fs_no r h3, as, ρ, os1, H1, ss, os2, n1, h4, fun vs H2 H2' n2 g2 r2 => ?_⟩
          exact ⟨by rw [List.length_cons, args_len r2]; exact hl _ _ _ _ h4, as, .o j :: ss, os2, H2, d, os', n2.sub, n2.ow, ⟨⟨ad, e1, rfl⟩, r2⟩, hx, fun v H3 H3' w3 g3 r3 => k v H3 H3' (n0.call w3 ((g1.tr g2).tr g3)) ((g1.tr g2).tr g3) r3⟩
theorem px_meth {pl : Sem Bool} (he : PXV X o xr) (c : Cls X.K C) (hm : Meth X.K C m f) (F : FnG X.prog X.w X.K X.mg X.base k f fd n ps (spM X.K n M)) (hr : Rm k X.A) (hb : Binds X.K fd ps []) (ha : PXA X (e :: es) ra)
    (hl : ∀ ρ os ss os', ra ρ os = some (ss, os') → ss.length + 1 = n) (hst : starEach (e :: es) X.env = (false, eval e X.env) :: starEach es X.env := by rfl) (hpl : (backTo pos (starEach es X.env)).any (·.1) = false := by rfl)
    (ht : eval (.Call (.Attribute o m apos) (e :: es) [] pos) X.env = (do
      let ov ← eval o X.env
      standAt apos.atName
      let (f, first) ← holding [ov] (getMethod ov m pl)
      callWith pos f first (backTo pos (starEach (e :: es) X.env)) (backToKw pos (keywordEach [] X.env))) := by rfl) : PX X (.Call (.Attribute o m apos) (e :: es) [] pos) (xMeth C m M xr ra) :=
  pe_imp (pe_methG he c hm F hr hb ha hst hpl ht) fun _ _ _ q => to_meth hl q
theorem ta_nil {K : PySem.W.Frag} {σ : L2.St} {H : Hp} {Q : List V → Hp → Prop} (q : taO K xaNil σ H Q) : tNil σ H Q := by
  obtain ⟨as, ρ, os, H0, d, os', n, hx, k⟩ := q
  cases hx
  exact k [] H0 H n (Gr.refl n.sub) True.intro
theorem px_meth0 {pl : Sem Bool} (he : PXV X o xr) (c : Cls X.K C) (hm : Meth X.K C m f) (F : FnG X.prog X.w X.K X.mg X.base k f fd 1 ps (spM X.K 1 M)) (hr : Rm k X.A) (hb : Binds X.K fd ps [])
    (ht : eval (.Call (.Attribute o m apos) [] [] pos) X.env = (do
      let ov ← eval o X.env
      standAt apos.atName
      let (f, first) ← holding [ov] (getMethod ov m pl)
      callWith pos f first (backTo pos (starEach [] X.env)) (backToKw pos (keywordEach [] X.env))) := by rfl) : PX X (.Call (.Attribute o m apos) [] [] pos) (xMeth C m M xr xaNil) :=
  pe_imp (pe_methG0 he c hm F hr hb ht) fun σ H Q q => by
    have q2 := to_meth (n := 1) (fun ρ os ss os' h => by cases h; rfl) q
    obtain ⟨as, ρ, os, H0, s, os', n0, h1, k2⟩ := q2
    exact ⟨as, ρ, os, H0, s, os', n0, h1, fun v H1 H1' n1 g1 r1 => by
      obtain ⟨ad, dx, gs, e1, e2, e3, e4⟩ := k2 v H1 H1' n1 g1 r1
      exact ⟨ad, dx, gs, e1, e2, e3, ta_nil e4⟩⟩
/-! a new instance -/
def xNew (C : Addr) (M : XM) (ra : XA) : XS := fun ρ os => (ra ρ os).bind fun p => (M (.o p.2.length :: p.1) (p.2 ++ [some (.i C [])])).bind fun q => match q.1 with
  | .none => some (.o p.2.length, q.2)
  | _ => none
theorem En.newObj {K : PySem.W.Frag} {as : List Addr} {ρ : List Sl} {os : Os} {σ : L2.St} {H0 H : Hp} {x dx : Addr} (n : En K as ρ os σ H0 H) (hx : H x = none) (hd : H dx = none) (hn : dx ≠ x) :
    En K (as ++ [x]) ρ (os ++ [some (.i C [])]) σ H0 (upd (upd H dx (.own x)) x (.ins C dx [])) ∧ Gr as H0 H H0 (upd (upd H dx (.own x)) x (.ins C dx [])) := by
  have e1 : ∀ b o, H b = some o → upd (upd H dx (.own x)) x (.ins C dx []) b = some o := fun b o e => by
    rw [upd_ne (ne_of_none e hx), upd_ne (ne_of_none e hd)]
    exact e
  have g : Gr as H0 H H0 (upd (upd H dx (.own x)) x (.ins C dx [])) := ⟨Ex.refl _, fun b o _ e => e1 b o e, fun _ _ _ e _ => e, fun b hb => by
    cases q : H b with
    | none => exact absurd q hb
    | some o =>
      rw [e1 b o q]
      simp, fun b o e => e1 b o (n.sub b o e)⟩
  have n2 : En K as ρ os σ H0 (upd (upd H dx (.own x)) x (.ins C dx [])) := ⟨g.sub, n.len, n.dat, n.ref, ⟨n.ow.nd, n.ow.len, fun a ha => g.kp a (n.ow.trk a ha), fun k a ob h1 h2 => by
    obtain ⟨q1, o, q2, q3⟩ := n.ow.at_ k a ob h1 h2
    exact ⟨q1, o, e1 a o q2, q3⟩⟩⟩
  have n3 := n2.own (ob := .i C []) (ho := .ins C dx []) ρ.length (fresh_back n.sub hx) (fun z => n.ow.trk x z hx) upd_same ⟨rfl, True.intro⟩
  rw [List.set_eq_of_length_le (Nat.le_refl _), List.set_eq_of_length_le (by rw [n.len]; exact Nat.le_refl _)] at n3
  exact ⟨n3, g⟩
theorem to_new {K : PySem.W.Frag} {σ : L2.St} {H : Hp} {Q : VK} (hl : ∀ ρ os ss os', ra ρ os = some (ss, os') → ss.length + 1 = n) (q : teS K (xNew C M ra) σ H Q) : tMakeG C (spN K n M) (taO K ra) σ H Q := by
  obtain ⟨as, ρ, os, H0, d, os', n0, hx, k⟩ := q
  unfold xNew at hx
  cases h1 : ra ρ os with
  | none => rw [h1] at hx; cases hx
  | some p =>
    obtain ⟨ss, os1⟩ := p
    rw [h1, Option.bind_some] at hx
    simp only at hx
    cases h2 : M (.o os1.length :: ss) (os1 ++ [some (.i C [])]) with
    | none => rw [h2] at hx; cases hx
    | some q =>
      obtain ⟨z, os2⟩ := q
      rw [h2, Option.bind_some] at hx
      cases z with
      | none =>
        cases hx
        refine ⟨as, ρ, os, H0, ss, os1, n0, h1, fun vs H1 H1' n1 g1 r1 x dx hx0 hd0 hne => ?_⟩
        obtain ⟨n2, g2⟩ := n1.newObj (C := C) hx0 hd0 hne
        have lo := n1.ow.len
        have e1 : (as ++ [x])[os1.length]? = some x := by
          rw [← lo, List.getElem?_append_right (Nat.le_refl _)]
          simp
        have hxn : ∀ a ∈ [x], H a = none := fun a ha => by
          have : a = x := by simpa using ha
          rw [this]
          cases z : H x with
          | none => rfl
          | some u => exact absurd hx0 (g1.kp x (by rw [z]; simp))
        refine ⟨by rw [List.length_cons, args_len r1]; exact hl _ _ _ _ h1, as ++ [x], .o os1.length :: ss, os1 ++ [some (.i C [])], H1, _, _, n2.sub, n2.ow, ⟨⟨x, e1, rfl⟩, ArgsOk.app r1⟩, h2, fun v as' H3 H3' e3 w3 g3 r3 => ?_⟩
        cases r3
        refine ⟨rfl, ?_⟩
        have ex0 : Exs as H (as ++ [x]) := ⟨[x], rfl, hxn⟩
        have ex2 : Exs as H as' := ex0.trans e3 (g1.tr g2).kp
        have g4 : Gr as H0 H H3 H3' := (g1.tr g2).trans g3 fun a ha => ex0.mem a ha
        obtain ⟨bs, rfl, hbs⟩ := id e3
        refine k (.ref x) _ H3 H3' ex2 ?_ g4 ⟨x, by rw [List.getElem?_append_left (by rw [List.length_append, lo]; simp)]; exact e1, rfl⟩
        exact ⟨g3.sub, n0.len, fun i y h => by
          obtain ⟨v, e1, r⟩ := n0.dat i y h
          exact ⟨v, e1, Da.mono g4.e0 _ _ r⟩, fun i j h => by
          obtain ⟨ad, q1, q2⟩ := n0.ref i j h
          have hj := (List.getElem?_eq_some_iff.mp q1).1
          exact ⟨ad, by rw [List.getElem?_append_left (by rw [List.length_append]; omega), List.getElem?_append_left hj]; exact q1, q2⟩, w3⟩
      | _ => cases hx
theorem pxs_new (M' : Mk X.K C f) (F : FnG X.prog X.w X.K X.mg X.base k f fd n ps (spN X.K n M)) (hr : Rm (k + 1) X.A) (hg : Gl X x) (hm : X.mg x = some (.ref C)) (hb : Binds X.K fd ps [])
    (ha : PXA X (e :: es) ra) (hl : ∀ ρ os ss os', ra ρ os = some (ss, os') → ss.length + 1 = n) (hdb : (x == ("__debug__" : Str)) = false := by decide) (he : starEach (e :: es) X.env = (false, eval e X.env) :: starEach es X.env := by rfl) (hpl : (backTo pos (starEach es X.env)).any (·.1) = false := by rfl) :
    PXS X (.Call (.Name x p) (e :: es) [] pos) (xNew C M ra) := pe_imp (pe_makeG M' F hr hg hm hb ha hdb he hpl) fun _ _ _ q => to_new hl q
theorem pxs_new0 (M' : Mk X.K C f) (F : FnG X.prog X.w X.K X.mg X.base k f fd 1 ps (spN X.K 1 M)) (hr : Rm (k + 1) X.A) (hg : Gl X x) (hm : X.mg x = some (.ref C)) (hb : Binds X.K fd ps []) (hdb : (x == ("__debug__" : Str)) = false := by decide) :
    PXS X (.Call (.Name x p) [] [] pos) (xNew C M xaNil) := pe_imp (pe_makeG0 M' F hr hg hm hb hdb) fun _ _ _ q => ta_nil (to_new (n := 1) (fun ρ os ss os' h => by cases h; rfl) q)
end
end DL

set_option Elab.async false
set_option linter.all false
set_option maxRecDepth 100000
set_option maxHeartbeats 4000000
/-! ### min(xs, default=None) of whole numbers -/
namespace MinD
open PySem
abbrev dk : List (Str × Value) := [("default", .none)]
theorem args_min_dk (a : Value) : argsOk "min" ⟨[a], dk⟩ := by unfold argsOk; kernel_rfl
section
variable {prog : Program} {w : World} {A : Around} {R : Result → Shared → Prop} {I : Addr} {fp wr : List Addr} {n : Nat} {P : Nat → Value → Prop} {St : Nat → Heap → Prop}
theorem open_loop {S : Addr} {s : Shared} {vs : Array Value} {c : Nat} {kw : List (Str × Value)} (hS : s.heap.get? S = some { cls := .type "list", dict := none, data := .seq vs c, slots := #[] })
    (h : wpAny (model prog w) A.in1 (Builtin.«min.loop» ⟨[.ref I, .none, .ref S], kw⟩) (fun fin s' => match fin with
      | .done f => R (.ok f) s'
      | .again c' => c'.quiet = true ∧ codeAny (model prog w) A c' R s') (fun e s' => R (.error e) s') s) : codeAny (model prog w) A (.builtin "min.loop" ⟨[.ref I, .none, .ref S], kw⟩) R s := by
  refine codeAny_builtin F.entry_min_loop ?_; rw [Around.under_plainId F.plain_min_loop _]; exact h
theorem nm : (toString "min" ++ toString ".loop" : String) = "min.loop" := by decide
theorem go (W : Walks prog w A.in1 I fp wr n P St) (bt : Nat → Nat → Bool) (hcmp : CmpOf prog w A.in1 .Lt P bt) (S : Addr) (hSf : S ∉ fp) :
    ∀ (k j : Nat) (s : Shared) (vb : Value) (c : Nat), n - (j + 1) = k → j + 1 ≤ n → St (j + 1) s.heap → P (argBest bt j) vb → s.heap.get? S = some { cls := .type "list", dict := none, data := .seq #[vb, vb] c, slots := #[] } →
      (∀ v h' tk, P (argBest bt (n - 1)) v → (∀ b o, b ∉ wr → b ≠ S → s.heap.get? b = some o → h'.get? b = some o) → R (.ok (.ret v)) { s with heap := h', toks := tk }) → codeAny (model prog w) A (.builtin "min.loop" ⟨[.ref I, .none, .ref S], dk⟩) R s := by
  have hSw : S ∉ wr := fun h => hSf (W.sub _ h)
  intro k; induction k with
  | zero =>
    intro j s vb c hk hj hst hPb hS hR
    have hin : j + 1 = n := by omega
    refine open_loop hS ?_; show wpAny _ A.in1 (seqItems? (.ref S) >>= _) _ _ s
    refine wpAny_bind (wpAny_seqItems hS rfl ?_); show wpAny _ A.in1 (tryCatch (pyNext (.ref I)) _ >>= _) _ _ s
    refine wpAny_bind (wpAny_tryCatch (W.done s _ _ (hin ▸ hst) fun h' tk hk' => ?_)); have hS' := hk' S _ hSw hS
    show wpAny _ A.in1 (updateSeq S (fun _ => #[]) >>= _) _ _ _
    refine wpAny_bind ?_; refine wpAny_updateSeq hS' rfl (wpAny_bind (wpAny_letGo (wpAny_pure ?_)))
    exact hR vb _ tk (by rw [← hin]; exact hPb) fun b o hbw hbS e => (Heap.get?_update_other _ _ (Ne.symm hbS)).trans (hk' b o hbw e)
  | succ k ih =>
    intro j s vb c hk hj hst hPb hS hR
    have hlt : j + 1 < n := by omega
    refine open_loop hS ?_; show wpAny _ A.in1 (seqItems? (.ref S) >>= _) _ _ s
    refine wpAny_bind (wpAny_seqItems hS rfl ?_); show wpAny _ A.in1 (tryCatch (pyNext (.ref I)) _ >>= _) _ _ s
    refine wpAny_bind (wpAny_tryCatch (W.item (j + 1) s _ _ hlt hst fun v h' tk hP hst' hk' => ?_)); have hS' := hk' S _ hSw hS
    show wpAny _ A.in1 (tryCatch (holding [v, v] (richCompare .Lt v vb >>= _)) _ >>= _) _ _ _
    refine wpAny_bind (wpAny_tryCatch (wpAny_holding (wpAny_bind (hcmp (j + 1) (argBest bt j) v vb _ _ _ hP hPb ?_)))); refine wpAny_bind (wpAny_holding (wpAny_truthy_bool ?_)); refine wpAny_bind (wpAny_letGo (wpAny_pure ?_))
    cases hb : bt (j + 1) (argBest bt j) with
    | true =>
      simp only [if_true]; refine wpAny_bind ?_; refine wpAny_updateSeq hS' rfl (wpAny_bind (wpAny_letGo ?_)); rw [nm]
      refine wpAny_pure ⟨plainId_quiet F.plain_min_loop _, ih (j + 1) _ v _ (by omega) hlt (W.frame _ _ _ hst' fun b hbf o e => (Heap.get?_update_other _ _ (fun h : S = b => hSf (by rw [h]; exact hbf))).trans e) (by simp only [argBest, hb, if_true]; exact hP) (Heap.get?_update_self _ hS' rfl) fun v' h'' tk'' hP' hk'' => ?_⟩
      exact hR v' h'' tk'' hP' fun b o hbw hbS e => hk'' b o hbw hbS ((Heap.get?_update_other _ _ (Ne.symm hbS)).trans (hk' b o hbw e))
    | false =>
      simp only [Bool.false_eq_true, if_false]; refine wpAny_bind (wpAny_letGo ?_); rw [nm]
      refine wpAny_pure ⟨plainId_quiet F.plain_min_loop _, ih (j + 1) _ vb c (by omega) hlt hst' (by simp only [argBest, hb, Bool.false_eq_true, if_false]; exact hPb) hS' fun v' h'' tk'' hP' hk'' => hR v' h'' tk'' hP' fun b o hbw hbS e => hk'' b o hbw hbS (hk' b o hbw e)⟩
/-- from the beginning: the best one, or None -/
theorem start (W : Walks prog w A.in1 I fp wr n P St) (bt : Nat → Nat → Bool) (hcmp : CmpOf prog w A.in1 .Lt P bt) (S : Addr) (hSf : S ∉ fp) {s : Shared} {c : Nat} (hst : St 0 s.heap)
    (hS : s.heap.get? S = some { cls := .type "list", dict := none, data := .seq #[] c, slots := #[] })
    (h0 : n = 0 → ∀ h' tk, (∀ b o, b ∉ wr → b ≠ S → s.heap.get? b = some o → h'.get? b = some o) → R (.ok (.ret .none)) { s with heap := h', toks := tk })
    (hR : 0 < n → ∀ v h' tk, P (argBest bt (n - 1)) v → (∀ b o, b ∉ wr → b ≠ S → s.heap.get? b = some o → h'.get? b = some o) → R (.ok (.ret v)) { s with heap := h', toks := tk }) : codeAny (model prog w) A (.builtin "min.loop" ⟨[.ref I, .none, .ref S], dk⟩) R s := by
  have hSw : S ∉ wr := fun h => hSf (W.sub _ h)
  refine open_loop hS ?_; show wpAny _ A.in1 (seqItems? (.ref S) >>= _) _ _ s
  refine wpAny_bind (wpAny_seqItems hS rfl ?_); show wpAny _ A.in1 (tryCatch (pyNext (.ref I)) _ >>= _) _ _ s
  by_cases hn : n = 0
  · refine wpAny_bind (wpAny_tryCatch (W.done s _ _ (hn ▸ hst) fun h' tk hk' => ?_))
    show wpAny _ A.in1 (rule _ >>= _) _ _ _
    refine wpAny_bind (wpAny_rule ?_)
    show wpAny _ A.in1 (pure _) _ _ _
    refine wpAny_pure ?_
    exact h0 hn h' tk fun b o h1 _ e => hk' b o h1 e
  · refine wpAny_bind (wpAny_tryCatch (W.item 0 s _ _ (by omega) hst fun v h' tk hP hst' hk' => ?_)); have hS' := hk' S _ hSw hS
    show wpAny _ A.in1 (updateSeq S (fun _ => #[v, v]) >>= _) _ _ _
    refine wpAny_bind ?_; refine wpAny_updateSeq hS' rfl ?_; rw [nm]
    refine wpAny_pure ⟨plainId_quiet F.plain_min_loop _, go W bt hcmp S hSf _ 0 _ v _ rfl (by omega) (W.frame _ _ _ hst' fun b hbf o e => (Heap.get?_update_other _ _ (fun h : S = b => hSf (by rw [h]; exact hbf))).trans e) hP (Heap.get?_update_self _ hS' rfl) fun v' h'' tk'' hP' hk'' => ?_⟩
    exact hR (by omega) v' h'' tk'' hP' fun b o hbw hbS e => hk'' b o hbw hbS ((Heap.get?_update_other _ _ (Ne.symm hbS)).trans (hk' b o hbw e))
end
end MinD

namespace MinD
open PySem
section
variable {prog : Program} {w : World} {A : Around} {E : Value → Shared → Prop} {s : Shared}
theorem call_kw {id : String} {b : Builtin} {args : List Value} {kw : List (Str × Value)} {Q : Value → Shared → Prop} (hk : builtinKind id = none) (hp : plainId id = true) (hb : entryFor table id = some b) (ha : argsOk id ⟨args, kw⟩)
    (hc : wpAny (model prog w) A.in1 (b ⟨args, kw⟩) (fun fin s' => match fin with
      | .done f => (match (Except.ok f : Result) with | .ok (.ret v) => Q v s' | .ok _ => False | .error e => E e s')
      | .again c' => c'.quiet = true ∧ codeAny (model prog w) A c' (fun r s'' => match r with | .ok (.ret v) => Q v s'' | .ok _ => False | .error e => E e s'') s') E s) : wpAny (model prog w) A (call (.builtin id) args kw) Q E s := by
  refine wpAny_call (codeAny_call_builtin hp hb ?_); simp only [checkBuiltinCall, hk]
  cases hsig : Manifest.signature? id with
  | none => exact wpAny_pure hc
  | some sig =>
    simp only [argsOk, hsig] at ha; have h2 : Bind.checkArgs id sig ⟨args, kw⟩ = pure () := ha
    show wpAny _ A.in1 (Bind.checkArgs id sig ⟨args, kw⟩) _ _ s; rw [h2]; exact wpAny_pure hc
theorem call_walk {x : Value} {Q : Value → Shared → Prop}
    (h : wpAny (model prog w) A.in1 (pyIter x) (fun it s₂ => ∃ I fp wr n P St bt, it = .ref I ∧ Walks prog w A.in1 I fp wr n P St ∧ St 0 s₂.heap ∧ (∀ b ∈ fp, b < s₂.heap.objs.size) ∧ CmpOf prog w A.in1 .Lt P bt ∧
      (n = 0 → ∀ h' tk, (∀ b o, b ∉ wr → s₂.heap.get? b = some o → h'.get? b = some o) → Q .none { s₂ with heap := h', toks := tk }) ∧
      (0 < n → ∀ v h' tk, P (argBest bt (n - 1)) v → (∀ b o, b ∉ wr → s₂.heap.get? b = some o → h'.get? b = some o) → Q v { s₂ with heap := h', toks := tk })) E s) :
    wpAny (model prog w) A (call (.builtin "min") [x] dk) Q E s := by
  refine call_kw F.kind_min F.plain_min F.entry_min (args_min_dk _) ?_
  show wpAny _ A.in1 (Builtin.Builtins.bindParams "min" ["key", "default"] 0 ⟨[], dk⟩ >>= _) _ _ s
  refine wpAny_bind (wpAny_of_eq (show Builtin.Builtins.bindParams "min" ["key", "default"] 0 ⟨[], dk⟩ = pure [none, some .none] from rfl) ?_)
  refine wpAny_bind (wpAny_pure ?_)
  refine wpAny_bind (wpAny_mono h (fun it s₂ h₂ => ?_) fun _ _ e => e)
  obtain ⟨I, fp, wr, n, P, St, bt, rfl, W, hst, hfp, hcmp, hQ0, hQ⟩ := h₂
  refine wpAny_bind (wpAny_newObj_type ?_)
  have hSf : s₂.heap.objs.size ∉ fp := fun hm => Nat.lt_irrefl _ (hfp _ hm); rw [nm]
  refine wpAny_pure ⟨plainId_quiet F.plain_min_loop _, start W bt hcmp s₂.heap.objs.size hSf (W.frame _ _ _ hst fun b _ o e => Heap.get?_push_of_some _ e) (Heap.get?_push_size _ rfl) (fun hn h' tk hk => ?_) fun hn v h' tk hP hk => ?_⟩
  · exact hQ0 hn h' tk fun b o hbw e => hk b o hbw (Nat.ne_of_lt (Heap.lt_size e)) (Heap.get?_push_of_some _ e)
  · exact hQ hn v h' tk hP fun b o hbw e => hk b o hbw (Nat.ne_of_lt (Heap.lt_size e)) (Heap.get?_push_of_some _ e)
theorem of_ints {xs : Array (Int × Tok)} {l : Addr} {Q : Value → Shared → Prop} (hh : A.handled = none) (hl : s.heap.IsList l (intItems xs))
    (h0 : xs.size = 0 → ∀ h' tk, (∀ b o, s.heap.get? b = some o → h'.get? b = some o) → Q .none { s with heap := h', toks := tk })
    (h : 0 < xs.size → ∀ v h' tk, (intItems xs)[argBest (fun i j => decide (numAt xs i < numAt xs j)) (xs.size - 1)]? = some v → (∀ b o, s.heap.get? b = some o → h'.get? b = some o) → Q v { s with heap := h', toks := tk }) :
    wpAny (model prog w) A (call (.builtin "min") [.ref l] dk) Q E s := by
  refine call_walk (iter_intList hl fun s₂ e st hfp hlI => ?_); subst e
  refine ⟨_, _, _, _, _, _, _, rfl, Walks.list (A := A.in1) hh _ l hlI (intItems xs), st, hfp, CmpOf.ints_lt (numAt xs) (fun _ _ => intItems_at), fun hn h' tk hk => h0 (by simpa [intItems] using hn) h' tk (old_kept hk), fun hn v h' tk hP hk => ?_⟩
  exact h (by simpa [intItems] using hn) v h' tk (by simpa [intItems] using hP) (old_kept hk)
end
end MinD

set_option Elab.async false
set_option linter.all false
set_option maxRecDepth 100000
set_option maxHeartbeats 4000000
namespace DL
open PySem PySem.Spec PyProof.Rows L2 Evl
def minDefD : List PyData → Option PyData
  | [.list c] => (intsOf c).map fun ns => if ns = [] then .none else .int (minL ns)
  | _ => none
section
variable {X : Cx} {W : WX} {fr : Option Nat} {k n : Nat} {a b c e o : Expr} {es : List Expr} {xa xb xe xk xv xz : XE} {xr xs xd : XS} {ra : XA} {pos p p2 apos pos' tpos kpos cpos : Pos} {x f : Str} {C : Addr} {st : Stmt}
def rMinDef (K : PySem.W.Frag) : List V → List V → Hp → VK → Prop := fun us zs H Q => zs = [.non] ∧ rC K minDefD us H Q
theorem c_minDef (hc : X.calm = true) : CallRK X (.builtin "min") ["default"] (rMinDef X.K) := by
  intro pins s σ H us zs vs ws Q I r rz q
  obtain ⟨rfl, H0, ds, z, s0, ha, hf, q⟩ := q
  cases rz with
  | cons r1 r2 =>
  cases r2
  cases r1
  unfold minDefD at hf
  split at hf
  · rename_i c
    obtain ⟨x, rfl, h⟩ := da1 ha
    cases h4 : intsOf c with
    | none => rw [h4] at hf; cases hf
    | some ns =>
      rw [h4] at hf
      have e := intsOf_eq h4
      subst e
      cases h with
      | lst h1 h2 =>
        have e2 := h2.ints
        subst e2
        obtain ⟨its, rv, hl, _⟩ := I.list (ex_l s0 h1)
        rw [Vals.ref1 r]
        have hi := rv.ints
        obtain ⟨ys, e⟩ := hi.allInts.items
        have hn : numsOf (intItems ys).toList = ns := by rw [← e]; exact hi.numsOf
        rw [nums_intItems] at hn
        have hl2 : s.heap.IsList _ its.toArray := hl.isList
        rw [e] at hl2
        refine MinD.of_ints (I.ok.hd hc) hl2 (fun hz h' tk hk => ?_) fun hz v h' tk hv hk => ?_
        · have en : ns = [] := by
            rw [← hn]
            have : ys = #[] := Array.eq_empty_of_size_eq_zero hz
            rw [this]
            rfl
          simp only [Option.map_some, if_pos en] at hf
          cases hf
          exact ⟨.non, H, I.kept hk, rfl, q _ H0 H (Gr.refl s0) .non⟩
        · have hns : 0 < ns.length := by rw [← hn, List.length_map, Array.length_toList]; exact hz
          have en : ns ≠ [] := by
            intro z
            rw [z] at hns
            cases hns
          simp only [Option.map_some, if_neg en] at hf
          cases hf
          obtain ⟨t, rfl⟩ := intItems_at hv
          obtain ⟨g1, g2⟩ := argBest_lt (numAt ys) (ys.size - 1)
          have hm : numAt ys (argBest (fun i j => decide (numAt ys i < numAt ys j)) (ys.size - 1)) ∈ ns := by
            rw [← hn, numAt_eq]
            exact PySem.getD_mem (by rw [List.length_map, Array.length_toList]; omega)
          have hle : ∀ y ∈ ns, numAt ys (argBest (fun i j => decide (numAt ys i < numAt ys j)) (ys.size - 1)) ≤ y := fun y hy => by
            rw [← hn] at hy
            obtain ⟨j, hj, rfl⟩ := mem_getD hy
            rw [List.length_map, Array.length_toList] at hj
            rw [← numAt_eq]
            exact g2 j (by omega)
          have e3 : numAt ys (argBest (fun i j => decide (numAt ys i < numAt ys j)) (ys.size - 1)) = minL ns := Int.le_antisymm (hle _ (minL_mem hns)) (minL_le hm)
          rw [e3]
          exact ⟨.int _, H, I.kept hk, ⟨_, rfl⟩, q _ H0 H (Gr.refl s0) (.int _)⟩
  · cases hf
theorem bt_min0 : bootBuiltins "min" = some (.builtin "min") := by decide +kernel
/-- min(xs, default=None) -/
theorem px_minDef {j : Nat} (hc : X.calm = true) (hg : Gl X "min") (hm : X.mg "min" = none) (ha : PXA X [e] ra)
    (he : backTo pos (starEach [e] X.env) = (false, eval e X.env) :: backTo pos (starEach [] X.env) := by rfl) (hpl : (backTo pos (starEach [e] X.env)).any (·.1) = false := by rfl)
    (hall : (backToKw pos (keywordEach [⟨some "default", .Constant .none j p2, kpos⟩] X.env)).all (·.1.isSome) = true := by rfl) (hnone : (backToKw pos (keywordEach [⟨some "default", .Constant .none j p2, kpos⟩] X.env)).any (·.1.isNone) = false := by rfl) (hks : (backToKw pos (keywordEach [⟨some "default", .Constant .none j p2, kpos⟩] X.env)).filterMap (·.1) = ([Str.ofString "default"] : List Str) := by rfl) :
    PX X (.Call (.Name "min" p) [e] [⟨some "default", .Constant .none j p2, kpos⟩] pos) (xCall minDefD ra) :=
  pe_imp (pe_callBK (c_minDef hc) hg hm bt_min0 ha (pk_cons pe_non pk_nil) (by decide) (by decide) he hpl hall hnone hks) fun σ H Q q => by
    obtain ⟨as, ρ, os, H0, d, os', n, hx, k⟩ := q
    obtain ⟨ss, ds, h1, h2, h3⟩ := xCall_some hx
    exact ⟨as, ρ, os, H0, ss, os', n, h1, fun vs H1 H1' n1 g1 r1 => ⟨rfl, H1, ds, d, n1.sub, args_datas r1 h2, h3, fun w H3 H3' g3 r3 => k w H3 H3' (n1.grow g3) (g1.tr0 g3) r3⟩⟩
/-! ### statements over objects of one's own -/
theorem En.setV {K : PySem.W.Frag} {as : List Addr} {ρ : List Sl} {os : Os} {σ : L2.St} {H0 H : Hp} {v : V} {s : Sl} (n : En K as ρ os σ H0 H) (i : Nat) (r : ArgOk K as H0 v s) : En K as (ρ.set i s) os (σ.set i (some v)) H0 H := by
  cases s with
  | u => exact r.elim
  | d x => exact n.set i r
  | o k =>
    obtain ⟨a, h1, rfl⟩ := r
    refine ⟨n.sub, by rw [List.length_set, List.length_set]; exact n.len, fun j x h => ?_, fun j m h => ?_, n.ow⟩
    · by_cases e : i = j
      · subst e
        by_cases hl : i < ρ.length
        · rw [List.getElem?_set_self hl] at h
          cases h
        · rw [List.getElem?_eq_none_iff.mpr (by rw [List.length_set]; omega)] at h
          cases h
      · rw [List.getElem?_set_ne e] at h ⊢
        exact n.dat j x h
    · by_cases e : i = j
      · subst e
        by_cases hl : i < ρ.length
        · rw [List.getElem?_set_self hl] at h
          cases h
          exact ⟨a, h1, List.getElem?_set_self (by rw [n.len]; exact hl)⟩
        · rw [List.getElem?_eq_none_iff.mpr (by rw [List.length_set]; omega)] at h
          cases h
      · rw [List.getElem?_set_ne e] at h ⊢
        exact n.ref j m h
/-- name = value -/
def sAsgV (i : Nat) (xs : XS) : SE := fun ρ os => (xs ρ os).map fun p => .nx (ρ.set i p.1) p.2
theorem psx_asgV0 {i : Nat} (h : PS X st (tAsg (teS X.K xs) (gName i))) : PSX X W fr st (sAsgV i xs) := ps_imp h fun D σ H q => by
  obtain ⟨as0, Hs, as, ρ, os, H0, o, bs0, n, hx, k⟩ := q
  unfold sAsgV at hx
  cases h1 : xs ρ os with
  | none => rw [h1] at hx; cases hx
  | some p =>
    obtain ⟨s, os1⟩ := p
    rw [h1] at hx
    cases hx
    exact ⟨as, ρ, os, H0, s, os1, n, h1, fun v as' H0' H' e2 n1 g1 r1 => k as' _ H0' H' e2 (n1.setV i r1) g1⟩
theorem psx_asgV {i : Nat} {y : Str} (hN : X.N.Nodup) (hi : X.N[i]? = some y) (hx : Loc X.env.scope y) (he : PXS X e xs) (hs : swapsWith e (some (.Name y pos')) pos.line X.env = pure false := by rfl) (hf : X.fn y = true ∨ X.env.scope.names.lookup y = some .local := by first | exact .inl rfl | exact .inr rfl | assumption) :
    PSX X W fr (.Assign [.Name y pos'] e pos) (sAsgV i xs) := psx_asgV0 (ps_set hN hi hx he hs hf)
/-- o.f = value -/
def sFldV (C : Addr) (f : Str) (xr xs : XS) : SE := fun ρ os => (xs ρ os).bind fun p => (xr ρ p.2).bind fun q => (insAt C q.2 q.1).bind fun z => if z.2.length < 1000 then some (.nx ρ (q.2.set z.1 (some (.i C (putS f p.1 z.2))))) else none
theorem psx_fldV (hc : Cls X.K C) (hn : NoAttr X.K C f) (ha : PXV X o xr) (hv : PXS X e xs) (hs : swapsWith e (some (.Attribute o f pos')) pos.line X.env = pure false := by rfl) : PSX X W fr (.Assign [.Attribute o f pos'] e pos) (sFldV C f xr xs) := ps_imp (ps_fld ha hv hs) fun D σ H q => by
  obtain ⟨as0, Hs, as, ρ, os, H0, out, bs0, n, hx, k⟩ := q
  unfold sFldV at hx
  cases h1 : xs ρ os with
  | none => rw [h1] at hx; cases hx
  | some p =>
    obtain ⟨s, os1⟩ := p
    rw [h1, Option.bind_some] at hx
    simp only at hx
    cases h2 : xr ρ os1 with
    | none => rw [h2] at hx; cases hx
    | some q =>
      obtain ⟨t, os2⟩ := q
      rw [h2, Option.bind_some] at hx
      simp only at hx
      cases h3 : insAt C os2 t with
      | none => rw [h3] at hx; cases hx
      | some z =>
        obtain ⟨j, fs⟩ := z
        rw [h3, Option.bind_some] at hx
        simp only at hx
        split at hx
        · rename_i hl
          cases hx
          obtain ⟨rfl, h4⟩ := insAt_some h3
          refine ⟨as, ρ, os, H0, s, os1, n, h1, fun v as' H1 H1' e2 n1 g1 r1 => ⟨as', ρ, os1, H1, _, _, n1, h2, fun u H2 H2' n2 g2 r2 => ?_⟩⟩
          obtain ⟨ad, e1, rfl⟩ := r2
          obtain ⟨q1, ho, q2, q3⟩ := n2.ow.at_ j ad _ e1 h4
          obtain ⟨dx, gs, rfl, r⟩ := q3.i_of
          have hm : ad ∈ as' := List.mem_of_getElem? e1
          refine ⟨ad, C, dx, gs, rfl, q2, hc, hn, by rw [fs_len r]; exact hl, ?_⟩
          have g12 : Gr as' H1 H1' H2 (upd H2' ad (.ins C dx (putF f v gs))) := g2.tr (Gr.mut n2.sub hm q1 (n2.ow.trk _ hm))
          exact k as' σ H2 _ e2 (n2.mut (ob := .i C (putS f s fs)) e1 h4 ⟨rfl, fs_put (r1.mono g2.e0) r⟩) (g1.trans g12 e2.mem)
        · cases hx
/-- o.f += e, of whole numbers -/
def sFldAug (C : Addr) (f : Str) (g : Int → Int → Int) (xr : XS) (xe : XE) : SE := fun ρ os => (xr ρ os).bind fun q => (insAt C q.2 q.1).bind fun z => match z.2.lookup f with
  | some (.d (.int v)) => (xe ρ q.2).bind fun p => match p.1 with
    | .int w => (insAt C p.2 q.1).bind fun z2 => if z2.2.length < 1000 then some (.nx ρ (p.2.set z2.1 (some (.i C (putS f (.d (.int (g v w))) z2.2))))) else none
    | _ => none
  | _ => none
theorem psx_fldAug {op : Operator} {g : Int → Int → Int} (hc : Cls X.K C) (hn : NoAttr X.K C f) (ha : PXV X o xr) (hv : PX X e xe) (hop : InOp X op (ipI g)) : PSX X W fr (.AugAssign (.Attribute o f tpos) op e pos) (sFldAug C f g xr xe) := ps_imp (ps_fldaug ha hv hop) fun D σ H q => by
  obtain ⟨as0, Hs, as, ρ, os, H0, out, bs0, n, hx, k⟩ := q
  unfold sFldAug at hx
  cases h2 : xr ρ os with
  | none => rw [h2] at hx; cases hx
  | some q =>
    obtain ⟨t, os2⟩ := q
    rw [h2, Option.bind_some] at hx
    simp only at hx
    cases h3 : insAt C os2 t with
    | none => rw [h3] at hx; cases hx
    | some z =>
      obtain ⟨j, fs⟩ := z
      rw [h3, Option.bind_some] at hx
      simp only at hx
      split at hx
      · rename_i v hv2
        cases h5 : xe ρ os2 with
        | none => rw [h5] at hx; cases hx
        | some p =>
          obtain ⟨d, os3⟩ := p
          rw [h5, Option.bind_some] at hx
          simp only at hx
          cases d with
          | int w =>
            simp only at hx
            cases h6 : insAt C os3 t with
            | none => rw [h6] at hx; cases hx
            | some z2 =>
              obtain ⟨j2, fs2⟩ := z2
              rw [h6, Option.bind_some] at hx
              simp only at hx
              split at hx
              · rename_i hl
                cases hx
                obtain ⟨rfl, h4⟩ := insAt_some h3
                obtain ⟨e4, h7⟩ := insAt_some h6
                cases e4
                refine ⟨as, ρ, os, H0, _, os2, n, h2, fun u H1 H1' n1 g1 r1 => ?_⟩
                obtain ⟨ad, e1, rfl⟩ := r1
                obtain ⟨q1, ho, q2, q3⟩ := n1.ow.at_ j ad _ e1 h4
                obtain ⟨dx, gs, rfl, r⟩ := q3.i_of
                obtain ⟨vv, l1, l2⟩ := fs_at r hv2
                have el := da_intI l2
                subst el
                refine ⟨ad, C, dx, gs, _, rfl, q2, hc, hn, l1, as, ρ, os2, H1, _, os3, n1, h5, fun y H2 H2' n2 g2 r2 => ?_⟩
                have ey := da_intI r2
                subst ey
                obtain ⟨p1, ho2, p2, p3⟩ := n2.ow.at_ j ad _ e1 h7
                obtain ⟨dx2, gs2, rfl, rr⟩ := p3.i_of
                have hm : ad ∈ as := List.mem_of_getElem? e1
                refine ⟨v, w, rfl, rfl, dx2, gs2, p2, by rw [fs_len rr]; exact hl, ?_⟩
                exact k as σ H2 _ Exs.refl (n2.mut (ob := .i C (putS f (.d (.int (g v w))) fs2)) e1 h7 ⟨rfl, fs_put (s := .d (.int (g v w))) (.int _) rr⟩) ((g1.tr g2).tr (Gr.mut n2.sub hm p1 (n2.ow.trk _ hm)))
              · cases hx
          | _ => cases hx
      · cases hx
end
end DL

set_option Elab.async false
set_option linter.all false
set_option maxRecDepth 100000
set_option maxHeartbeats 4000000
namespace DL
open PySem PySem.Spec PyProof.Rows L2 Evl
section
variable {X : Cx} {W : WX} {fr : Option Nat} {k n : Nat} {a b c e o tg iter elt : Expr} {es : List Expr} {xa xb xe xk xv xz : XE} {xr xs xd : XS} {ra : XA} {pos p p2 apos pos' tpos kpos cpos : Pos} {x f : Str} {C : Addr} {st : Stmt}
/-! ### arguments that may be new objects -/
def taS (K : PySem.W.Frag) (x : XA) : TA := fun σ H Q => ∃ as ρ os H0 ss os', En K as ρ os σ H0 H ∧ x ρ os = some (ss, os') ∧ ∀ vs as' H0' H', Exs as H as' → En K as' ρ os' σ H0' H' → Gr as H0 H H0' H' → ArgsOk K as' H0' vs ss → Q vs H'
abbrev PXAS (X : Cx) (es : List Expr) (x : XA) : Prop := PA X es (taS X.K x)
theorem pxas_of (h : PXA X es ra) : PXAS X es ra := pa_imp h fun σ H Q q => by
  obtain ⟨as, ρ, os, H0, s, os', n, hx, k⟩ := q
  exact ⟨as, ρ, os, H0, s, os', n, hx, fun v H0' H' n1 g1 r1 => k v as H0' H' Exs.refl n1 g1 r1⟩
def xaS (xs : XS) (r : XA) : XA := fun ρ os => (xs ρ os).bind fun p => (r ρ p.2).map fun q => (p.1 :: q.1, q.2)
theorem ArgOk.exs {K : PySem.W.Frag} {as as' : List Addr} {H H0 : Hp} {v : V} {s : Sl} (e : Exs as H as') (h : ArgOk K as H0 v s) : ArgOk K as' H0 v s := by
  obtain ⟨bs, rfl, _⟩ := e
  exact h.app
theorem pxas_s (ha : PXS X e xs) (hr : PXAS X es ra) (hs : starEach (e :: es) X.env = (false, eval e X.env) :: starEach es X.env := by rfl) : PXAS X (e :: es) (xaS xs ra) := pa_imp (pa_cons ha hr hs) fun σ H Q q => by
  obtain ⟨as, ρ, os, H0, d, os', n, hx, k⟩ := q
  unfold xaS at hx
  cases h1 : xs ρ os with
  | none => rw [h1] at hx; cases hx
  | some p =>
    obtain ⟨s, os1⟩ := p
    rw [h1, Option.bind_some] at hx
    simp only at hx
    cases h2 : ra ρ os1 with
    | none => rw [h2] at hx; cases hx
    | some q =>
      rw [h2] at hx
      cases hx
      refine ⟨as, ρ, os, H0, s, os1, n, h1, fun v as1 H1 H1' e1 n1 g1 r1 => ⟨as1, ρ, os1, H1, q.1, q.2, n1, h2, fun vs as2 H2 H2' e2 n2 g2 r2 => ?_⟩⟩
      exact k (v :: vs) as2 H2 H2' (e1.trans e2 g1.kp) n2 (g1.trans g2 e1.mem) ⟨(r1.exs e2).mono g2.e0, r2⟩
/-- f(..) where an argument is a new object; it gives data -/
def xFnG (M : XM) (ra : XA) : XE := fun ρ os => (ra ρ os).bind fun p => (M p.1 p.2).bind fun q => (cutW os.length q.2).map fun w => (q.1, w)
theorem px_fnG {m : Nat} {g : Addr} {fd : FuncData} {ps : List Str} {M : XM} (F : FnG X.prog X.w X.K X.mg X.base k g fd m ps (spM X.K m M)) (hr : Rm k X.A) (hg : Gl X x) (hm : X.mg x = some (.ref g)) (hk : PySem.W.keepIn X.K (.ref g) = true) (hb : Binds X.K fd ps []) (ha : PXAS X (e :: es) ra)
    (hl : ∀ ρ os ss os', ra ρ os = some (ss, os') → ss.length = m) (hdb : (x == ("__debug__" : Str)) = false := by decide) (he : starEach (e :: es) X.env = (false, eval e X.env) :: starEach es X.env := by rfl) (hpl : (backTo pos (starEach es X.env)).any (·.1) = false := by rfl) :
    PX X (.Call (.Name x p) (e :: es) [] pos) (xFnG M ra) := pe_imp (pe_callG F hr hg hm hk hb ha hdb he hpl) fun σ H Q q => by
  obtain ⟨as, ρ, os, H0, d, os', n0, hx, k⟩ := q
  unfold xFnG at hx
  cases h1 : ra ρ os with
  | none => rw [h1] at hx; cases hx
  | some p =>
    obtain ⟨ss, os1⟩ := p
    rw [h1, Option.bind_some] at hx
    simp only at hx
    cases h2 : M ss os1 with
    | none => rw [h2] at hx; cases hx
    | some q =>
      obtain ⟨z, os2⟩ := q
      rw [h2, Option.bind_some] at hx
      simp only at hx
      cases h3 : cutW os.length os2 with
      | none => rw [h3] at hx; cases hx
      | some w =>
        rw [h3] at hx
        cases hx
        refine ⟨as, ρ, os, H0, ss, os1, n0, h1, fun vs as1 H1 H1' e1 n1 g1 r1 => ⟨by rw [args_len r1]; exact hl _ _ _ _ h1, as1, ss, os1, H1, _, os2, n1.sub, n1.ow, r1, h2, fun v H2 H2' w2 g2 r2 => ?_⟩⟩
        have gg : Gr as H0 H H2 H2' := g1.trans g2 e1.mem
        have w4 := w2.cut (as := as) (H := H) e1 (by rw [n0.ow.len]; exact h3)
        exact k v H2 H2' (n0.call w4 gg) gg r2
/-! new objects: a list of anything, dicts -/
theorem En.newOb {K : PySem.W.Frag} {as : List Addr} {ρ : List Sl} {os : Os} {σ : L2.St} {H0 H : Hp} {q : Addr} {ho : HO} {ob : Ob} (n : En K as ρ os σ H0 H) (hq : H q = none) (c : Cont K as H0 ho ob) :
    En K (as ++ [q]) ρ (os ++ [some ob]) σ H0 (upd H q ho) ∧ Gr as H0 H H0 (upd H q ho) ∧ (as ++ [q])[os.length]? = some q := by
  have e1 : ∀ b u, H b = some u → upd H q ho b = some u := fun b u e => by
    rw [upd_ne (ne_of_none e hq)]
    exact e
  have g : Gr as H0 H H0 (upd H q ho) := ⟨Ex.refl _, fun b o _ e => e1 b o e, fun _ _ _ e _ => e, fun b hb => by
    cases z : H b with
    | none => exact absurd z hb
    | some u =>
      rw [e1 b u z]
      simp, fun b o e => e1 b o (n.sub b o e)⟩
  have n2 : En K as ρ os σ H0 (upd H q ho) := ⟨g.sub, n.len, n.dat, n.ref, ⟨n.ow.nd, n.ow.len, fun a ha => g.kp a (n.ow.trk a ha), fun k a ob h1 h2 => by
    obtain ⟨q1, o, q2, q3⟩ := n.ow.at_ k a ob h1 h2
    exact ⟨q1, o, e1 a o q2, q3⟩⟩⟩
  have n3 := n2.own (ob := ob) (ho := ho) ρ.length (fresh_back n.sub hq) (fun z => n.ow.trk q z hq) upd_same c
  rw [List.set_eq_of_length_le (Nat.le_refl _), List.set_eq_of_length_le (by rw [n.len]; exact Nat.le_refl _)] at n3
  exact ⟨n3, g, by rw [← n.ow.len, List.getElem?_append_right (Nat.le_refl _)]; simp⟩
theorem exs_one {as : List Addr} {H : Hp} {q : Addr} (hq : H q = none) : Exs as H (as ++ [q]) := ⟨[q], rfl, by simpa using hq⟩
def xsDictK : XS := fun _ os => some (.o os.length, os ++ [some (.k [])])
def xsDictT : XS := fun _ os => some (.o os.length, os ++ [some (.T [])])
theorem pxs_dictK : PXS X (.Dict [] [] pos) xsDictK := pe_imp pe_dnewK fun σ H Q q => by
  obtain ⟨as, ρ, os, H0, d, os', n, hx, k⟩ := q
  cases hx
  intro q hq
  obtain ⟨n2, g2, e2⟩ := n.newOb (ob := .k []) (ho := .dK []) hq True.intro
  exact k _ _ _ _ (exs_one hq) n2 g2 ⟨q, e2, rfl⟩
theorem pxs_dictT : PXS X (.Dict [] [] pos) xsDictT := pe_imp pe_dnewT fun σ H Q q => by
  obtain ⟨as, ρ, os, H0, d, os', n, hx, k⟩ := q
  cases hx
  intro q hq
  obtain ⟨n2, g2, e2⟩ := n.newOb (ob := .T []) (ho := .dT []) hq True.intro
  exact k _ _ _ _ (exs_one hq) n2 g2 ⟨q, e2, rfl⟩
def xsLst (ra : XA) : XS := fun ρ os => (ra ρ os).bind fun p => if p.1.length ≤ sizeLine then some (.o p.2.length, p.2 ++ [some (.r p.1)]) else none
theorem pxs_lst (h : PXAS X es ra) : PXS X (.List es pos) (xsLst ra) := pe_imp (pe_lst h) fun σ H Q q => by
  obtain ⟨as, ρ, os, H0, d, os', n, hx, k⟩ := q
  unfold xsLst at hx
  cases h1 : ra ρ os with
  | none => rw [h1] at hx; cases hx
  | some p =>
    obtain ⟨ss, os1⟩ := p
    rw [h1, Option.bind_some] at hx
    simp only at hx
    split at hx
    · rename_i hz
      cases hx
      refine ⟨as, ρ, os, H0, ss, os1, n, h1, fun vs as1 H1 H1' e1 n1 g1 r1 => ⟨by rw [args_len r1]; exact hz, fun q hq => ?_⟩⟩
      obtain ⟨n2, g2, e2⟩ := n1.newOb (ob := .r ss) (ho := .lst vs) hq r1
      exact k _ _ _ _ (e1.trans (exs_one hq) g1.kp) n2 (g1.trans g2 e1.mem) ⟨q, e2, rfl⟩
    · cases hx
/-- a list of data, as a new object of one's own -/
def xsOwn (xi : XI) : XS := fun ρ os => (xi ρ os).map fun p => (.o p.2.length, p.2 ++ [some (.l p.1)])
theorem pxs_own {xi : XI} (h : PXF X e xi) : PXS X e (xsOwn xi) := pe_imp h fun σ H Q q => by
  obtain ⟨as, ρ, os, H0, s, os', n, hx, k⟩ := q
  unfold xsOwn at hx
  cases h1 : xi ρ os with
  | none => rw [h1] at hx; cases hx
  | some p =>
    obtain ⟨ds, os1⟩ := p
    rw [h1] at hx
    cases hx
    refine ⟨as, ρ, os, H0, ds, os1, n, h1, fun q vs H1 H1' hq n1 g1 h2 h3 h4 r => ?_⟩
    have n3 := n1.own (ob := .l ds) (ho := .lst vs) ρ.length h2 h3 h4 r
    rw [List.set_eq_of_length_le (Nat.le_refl _), List.set_eq_of_length_le (by rw [n1.len]; exact Nat.le_refl _)] at n3
    exact k _ _ _ _ (exs_one hq) n3 g1 ⟨q, by rw [← n1.ow.len, List.getElem?_append_right (Nat.le_refl _)]; simp, rfl⟩
/-! reading lists: data, or one's own -/
def lenV (os : Os) : Sl → Option Int
  | .d (.list c) => some c.length
  | .d (.tuple c) => some c.length
  | .o k => match os[k]? with
    | some (some (.l c)) => some c.length
    | some (some (.r c)) => some c.length
    | _ => none
  | _ => none
def xLenV (xr : XS) : XE := fun ρ os => (xr ρ os).bind fun p => (lenV p.2 p.1).map fun i => (.int i, p.2)
theorem px_lenV (hg : Gl X "len") (hm : X.mg "len" = none) (ha : PXV X e xr) (he : starEach [e] X.env = (false, eval e X.env) :: starEach [] X.env := by rfl) (hpl : (backTo pos (starEach [] X.env)).any (·.1) = false := by rfl) : PX X (.Call (.Name "len" p) [e] [] pos) (xLenV xr) :=
  pe_imp (pe_callB call_len_seq hg hm bt_len (pa_cons ha pa_nil he) (by decide) (by decide) he hpl) fun σ H Q q => by
    obtain ⟨as, ρ, os, H0, d, os', n, hx, k⟩ := q
    unfold xLenV at hx
    cases h1 : xr ρ os with
    | none => rw [h1] at hx; cases hx
    | some p =>
      obtain ⟨s, os1⟩ := p
      rw [h1, Option.bind_some] at hx
      simp only at hx
      cases h2 : lenV os1 s with
      | none => rw [h2] at hx; cases hx
      | some i =>
        rw [h2] at hx
        cases hx
        refine ⟨as, ρ, os, H0, s, _, n, h1, fun v H1 H1' n1 g1 r1 => ?_⟩
        have fin := k (.int i) H1 H1' n1 g1 (.int i)
        unfold lenV at h2
        split at h2
        · cases h2
          cases (show Da _ _ _ _ from r1) with
          | lst l1 l2 => exact ⟨_, _, rfl, .inl (ex_l n1.sub l1), by rw [l2.len]; exact fin⟩
        · cases h2
          cases (show Da _ _ _ _ from r1) with
          | tup l1 l2 => exact ⟨_, _, rfl, .inr (SqT.of (n1.sub _ _ l1)), by rw [l2.len]; exact fin⟩
        · obtain ⟨ad, e1, rfl⟩ := r1
          split at h2
          · rename_i c hc
            cases h2
            obtain ⟨q1, vs, q2, q3⟩ := n1.ow.l _ ad _ e1 hc
            exact ⟨_, _, rfl, .inl (SqL.of q2), by rw [q3.len]; exact fin⟩
          · rename_i c hc
            cases h2
            obtain ⟨q1, ho, q2, q3⟩ := n1.ow.at_ _ ad _ e1 hc
            obtain ⟨vs, rfl, r⟩ := q3.r_of
            exact ⟨_, _, rfl, .inl (SqL.of q2), by rw [args_len r]; exact fin⟩
          · cases h2
        · cases h2
/-- e[i] -/
def ixV (os : Os) (s : Sl) (i : PyData) : Option Sl := match s, i with
  | .d x, i => (ixD x i).map .d
  | .o k, .int j => match os[k]? with
    | some (some (.l c)) => (atI c j).map .d
    | some (some (.r c)) => atI c j
    | some (some (.t c)) => atI c j
    | _ => none
  | _, _ => none
def xrIx (xr : XS) (xi : XE) : XS := fun ρ os => (xr ρ os).bind fun p => (xi ρ p.2).bind fun q => (ixV q.2 p.1 q.1).map fun s => (s, q.2)
theorem args_atI {K : PySem.W.Frag} {as : List Addr} {H : Hp} {vs : List V} {ss : List Sl} {k : Int} {s : Sl} (h : ArgsOk K as H vs ss) (e : L2.atI ss k = some s) : ∃ v, L2.atI vs k = some v ∧ ArgOk K as H v s := by
  unfold L2.atI at e ⊢
  rw [args_len h]
  cases q : ixN ss.length k with
  | none => rw [q] at e; cases e
  | some j =>
    rw [q, Option.bind_some] at e
    obtain ⟨v, h1, h2⟩ := args_at h e
    exact ⟨v, by rw [Option.bind_some]; exact h1, h2⟩
theorem pxv_ix {xi : XE} (ha : PXV X a xr) (hb : PX X b xi) (hs : PlainIx b := by exact fun _ _ => rfl) : PXV X (.Subscript a b pos) (xrIx xr xi) := pe_imp (pe_ix ix_seq ha hb hs) fun σ H Q q => by
  obtain ⟨as, ρ, os, H0, d, os', n, hx, k⟩ := q
  unfold xrIx at hx
  cases h1 : xr ρ os with
  | none => rw [h1] at hx; cases hx
  | some p =>
    obtain ⟨s, os1⟩ := p
    rw [h1, Option.bind_some] at hx
    simp only at hx
    cases h2 : xi ρ os1 with
    | none => rw [h2] at hx; cases hx
    | some q =>
      obtain ⟨i, os2⟩ := q
      rw [h2, Option.bind_some] at hx
      simp only at hx
      cases h3 : ixV os2 s i with
      | none => rw [h3] at hx; cases hx
      | some z =>
        rw [h3] at hx
        cases hx
        refine ⟨as, ρ, os, H0, s, os1, n, h1, fun v H1 H1' n1 g1 r1 => ⟨as, ρ, os1, H1, i, _, n1, h2, fun u H2 H2' n2 g2 r2 => ?_⟩⟩
        have r3 := r1.mono g2.e0
        clear r1
        have fin := fun w (h : ArgOk X.K as H2 w d) => k w H2 H2' n2 (g1.tr g2) h
        unfold ixV at h3
        split at h3
        · rename_i y
          cases h4 : ixD y i with
          | none => rw [h4] at h3; cases h3
          | some z2 =>
            rw [h4] at h3
            cases h3
            have r1 : Da X.K H2 v y := r3
            cases r2 with
            | int j =>
              cases r1 with
              | lst l1 l2 =>
                obtain ⟨w, l3, l4⟩ := l2.atI h4
                exact .inl ⟨_, _, j, w, rfl, rfl, ex_l n2.sub l1, l3, fin w l4⟩
              | tup l1 l2 =>
                obtain ⟨w, l3, l4⟩ := l2.atI h4
                exact .inr (.inl ⟨_, _, j, w, rfl, rfl, SqT.of (n2.sub _ _ l1), l3, fin w l4⟩)
              | str z =>
                simp only [ixD] at h4
                split at h4
                · rename_i hz
                  cases h5 : atI z.cps.toList j with
                  | none => rw [h5] at h4; cases h4
                  | some c =>
                    rw [h5] at h4
                    cases h4
                    exact .inr (.inr ⟨z, j, c, rfl, rfl, hz, h5, fin _ (show Da _ _ _ _ from .str _)⟩)
                · cases h4
              | _ => cases h4
            | _ => cases r1 <;> cases h4
        · rename_i j
          cases r2
          obtain ⟨ad, e1, rfl⟩ := r3
          split at h3
          · rename_i c hc
            cases h4 : atI c j with
            | none => rw [h4] at h3; cases h3
            | some z2 =>
              rw [h4] at h3
              cases h3
              obtain ⟨q1, vs, q2, q3⟩ := n2.ow.l _ ad _ e1 hc
              obtain ⟨w, l3, l4⟩ := q3.atI h4
              exact .inl ⟨_, _, j, w, rfl, rfl, SqL.of q2, l3, fin w l4⟩
          · rename_i c hc
            obtain ⟨q1, ho, q2, q3⟩ := n2.ow.at_ _ ad _ e1 hc
            obtain ⟨vs, rfl, r⟩ := q3.r_of
            obtain ⟨w, l3, l4⟩ := args_atI r h3
            exact .inl ⟨_, _, j, w, rfl, rfl, SqL.of q2, l3, fin w l4⟩
          · rename_i c hc
            obtain ⟨q1, ho, q2, q3⟩ := n2.ow.at_ _ ad _ e1 hc
            obtain ⟨vs, rfl, r⟩ := q3.t_of
            obtain ⟨w, l3, l4⟩ := args_atI r h3
            exact .inr (.inl ⟨_, _, j, w, rfl, rfl, SqT.of q2, l3, fin w l4⟩)
          · cases h3
        · cases h3
end
end DL

set_option Elab.async false
set_option linter.all false
set_option maxRecDepth 100000
set_option maxHeartbeats 4000000
namespace DL
open PySem PySem.Spec PyProof.Rows L2 Evl
/-! ### walks over lists of one's own -/
def itemO (os : Os) (k i : Nat) : Option (Option Sl) := match os[k]? with
  | some (some (.l c)) => some (c[i]?.map .d)
  | some (some (.r c)) => some c[i]?
  | _ => none
/-- what stands there -/
def ListAt (K : PySem.W.Frag) (as : List Addr) (H0 H : Hp) (a : Addr) (os : Os) (k : Nat) : Prop := ∃ vs, H a = some (.lst vs) ∧ ∀ i r, itemO os k i = some r → match r with
  | none => vs.length ≤ i
  | some s => ∃ v, vs[i]? = some v ∧ ArgOk K as H0 v s
theorem listAt {K : PySem.W.Frag} {as : List Addr} {ρ : List Sl} {os : Os} {σ : L2.St} {H0 H : Hp} {a : Addr} {k i : Nat} {r : Option Sl} (n : En K as ρ os σ H0 H) (h : as[k]? = some a) (e : itemO os k i = some r) : ListAt K as H0 H a os k := by
  unfold itemO at e
  split at e
  · rename_i c hc
    obtain ⟨q1, vs, q2, q3⟩ := n.ow.l k a c h hc
    refine ⟨vs, q2, fun j r hj => ?_⟩
    simp only [itemO, hc] at hj
    cases hj
    cases z : c[j]? with
    | none =>
      simp only [Option.map_none]
      rw [q3.len]
      exact List.getElem?_eq_none_iff.mp z
    | some d =>
      simp only [Option.map_some]
      exact q3.at_ z
  · rename_i c hc
    obtain ⟨q1, ho, q2, q3⟩ := n.ow.at_ k a _ h hc
    obtain ⟨vs, rfl, rr⟩ := q3.r_of
    refine ⟨vs, q2, fun j r hj => ?_⟩
    simp only [itemO, hc] at hj
    cases hj
    cases z : c[j]? with
    | none =>
      simp only
      rw [args_len rr]
      exact List.getElem?_eq_none_iff.mp z
    | some d =>
      simp only
      exact args_at rr z
  · cases e
abbrev XGL := Sl → List Sl → Option (List Sl)
def gLO (K : PySem.W.Frag) (g : XGL) (js : List Nat) : TG := fun v σ H Q => ∃ as ρ os H0 s ρ', En K as ρ os σ H0 H ∧ ArgOk K as H0 v s ∧ g s ρ = some ρ' ∧ ∀ σ', En K as ρ' os σ' H0 H → (∀ vs, (∀ j ∈ js, j ∈ vs) → wipe σ' vs = wipe σ vs) → Q σ' H
abbrev PGL (X : Cx) (tg : Expr) (g : XGL) (js : List Nat) : Prop := PG X tg (gLO X.K g js)
def gLNm (i : Nat) : XGL := fun s ρ => some (ρ.set i s)
def gLD (xg : XG) : XGL := fun s ρ => match s with
  | .d x => xg x ρ
  | _ => none
def forLive (k : Nat) (g : XGL) (b : SE) : Nat → Nat → List Sl → Os → Option Out
  | 0, _, _, _ => none
  | m + 1, i, ρ, os => (itemO os k i).bind fun r => match r with
    | none => some (.nx ρ os)
    | some s => (g s ρ).bind fun ρ1 => (b ρ1 os).bind fun o => match o with
      | .nx ρ2 w => forLive k g b m (i + 1) ρ2 w
      | .ct ρ2 w => forLive k g b m (i + 1) ρ2 w
      | .bk ρ2 w => some (.nx ρ2 w)
      | .rt d w => some (.rt d w)
      | .ex C x r w => some (.ex C x r w)
      | .rv s w => some (.rv s w)
def lenO (os : Os) (k : Nat) : Option Nat := match os[k]? with
  | some (some (.l c)) => some c.length
  | some (some (.r c)) => some c.length
  | _ => none
def sForL (xr : XS) (g : XGL) (b : SE) : SE := fun ρ os => (xr ρ os).bind fun p => match p.1 with
  | .o k => (lenO p.2 k).bind fun n => forLive k g b (n + 1) 0 ρ p.2
  | _ => none
theorem item_of_len {os : Os} {k n : Nat} (h : lenO os k = some n) : ∃ r, itemO os k 0 = some r := by
  unfold lenO at h
  unfold itemO
  split at h <;> rename_i c hc
  · exact ⟨_, rfl⟩
  · exact ⟨_, rfl⟩
  · cases h
section
variable {X : Cx} {W : WX} {fr : Option Nat} {tg iter elt e : Expr} {sts : List Stmt} {s : SE} {xr : XS} {g : XGL} {xg : XG} {js : List Nat} {pos : Pos} {i : Nat}
theorem pgl_nm (h : PG X tg (gName i)) : PGL X tg (gLNm i) [i] := pg_imp h fun v σ H Q q => by
  obtain ⟨as, ρ, os, H0, s, ρ', n, r, hx, k⟩ := q
  cases hx
  exact k _ (n.setV i r) fun vs hv => wipe_set (hv i (by simp))
theorem pgl_d (h : PXG X tg xg js) : PGL X tg (gLD xg) js := pg_imp h fun v σ H Q q => by
  obtain ⟨as, ρ, os, H0, s, ρ', n, r, hx, k⟩ := q
  cases s with
  | d x => exact ⟨as, ρ, os, H0, x, ρ', n, r, hx, k⟩
  | _ => cases hx
theorem psx_forL (hp : PassesOwn (model X.prog X.w) X.A X.env X.xe) (hc : X.calm = true) (hi : PXV X iter xr) (hg : PGL X tg g js) (hb : PSXs X W fr sts s) (hs : ∀ x, foldedSetIterable iter X.env x = pure x := by intro _; rfl) :
    PSX X W fr (.For tg iter sts [] pos) (sForL xr g s) := ps_imp (ps_for hp hc (pi_list hi) hg hb hs) fun D σ H q => by
  obtain ⟨as0, Hs, as, ρ, os, H0, o, bs0, n, hx, k⟩ := q
  unfold sForL at hx
  cases h : xr ρ os with
  | none => rw [h] at hx; cases hx
  | some p =>
    obtain ⟨t, os1⟩ := p
    rw [h, Option.bind_some] at hx
    cases t with
    | o kk =>
      simp only at hx
      cases hl : lenO os1 kk with
      | none => rw [hl] at hx; cases hx
      | some n0 =>
        rw [hl, Option.bind_some] at hx
        refine ⟨as, ρ, os, H0, _, os1, n, h, fun v Ha Hb n1 g1 r1 => ?_⟩
        obtain ⟨ad, ek, rfl⟩ := r1
        obtain ⟨r0, e0⟩ := item_of_len hl
        have L0 := listAt n1 ek e0
        refine ⟨ad, rfl, ⟨_, SqL.of L0.choose_spec.1⟩, ?_⟩
        have kk2 := k.step Exs.refl g1
        refine ⟨fun i m σ2 H2 => ∃ as2 ρ2 os2 H2' f, Exs as Hb as2 ∧ En X.K as2 ρ2 os2 σ2 H2' H2 ∧ Gr as Ha Hb H2' H2 ∧ m = f ∧ forLive kk g s f i ρ2 os2 = some o,
          ⟨n0 + 1, as, ρ, os1, Ha, n0 + 1, Exs.refl, n1, Gr.refl n1.sub, rfl, hx⟩, ?_⟩
        rintro i m σ2 H2 ⟨as2, ρ2, os2, H2', f, e2, n2, g2, rfl, hr⟩
        have ek2 : as2[kk]? = some ad := by
          obtain ⟨bs, rfl, _⟩ := e2
          rw [List.getElem?_append_left (List.getElem?_eq_some_iff.mp ek).1]
          exact ek
        cases m with
        | zero => cases hr
        | succ m =>
          simp only [forLive] at hr
          cases q0 : itemO os2 kk i with
          | none => rw [q0] at hr; cases hr
          | some r =>
            rw [q0, Option.bind_some] at hr
            obtain ⟨vs, hv, hit⟩ := listAt n2 ek2 q0
            have hq := hit i r q0
            cases r with
            | none =>
              cases hr
              exact .inl ⟨⟨vs, SqL.of hv, hq⟩, kk2 as2 σ2 H2' H2 e2 n2 g2⟩
            | some t =>
              obtain ⟨v, hv2, ra⟩ := hq
              simp only at hr
              have hlt : i < vs.length := (List.getElem?_eq_some_iff.mp hv2).1
              refine .inr ⟨(walk_list (K := X.K) (a := ad) (xs := vs)).goes i H2 hlt (SqL.of hv), fun σ3 H3 => ∃ as2 ρ2 os2 H2', Exs as Hb as2 ∧ En X.K as2 ρ2 os2 σ3 H2' H3 ∧ Gr as Ha Hb H2' H3 ∧ forLive kk g s m (i + 1) ρ2 os2 = some o,
                fun σ3 H3 ⟨a1, a2, a3, a4, a5, a6, a7, a8⟩ => ⟨m, Nat.lt_succ_self m, a1, a2, a3, a4, m, a5, a6, a7, rfl, a8⟩, fun x H3 y => ?_⟩
              obtain ⟨e3, e4⟩ := (walk_list (K := X.K) (a := ad) (xs := vs)).yields i H2 x H3 hlt (SqL.of hv) y
              subst e3
              rw [hv2] at e4
              cases e4
              cases q1 : g t ρ2 with
              | none => rw [q1] at hr; cases hr
              | some ρ3 =>
                rw [q1, Option.bind_some] at hr
                refine ⟨as2, ρ2, os2, H2', t, ρ3, n2, ra, q1, fun σ4 n4 _ => ?_⟩
                cases q2 : s ρ3 os2 with
                | none => rw [q2] at hr; cases hr
                | some ob =>
                  rw [q2, Option.bind_some] at hr
                  have g23' : Gr as H0 H H2' H3 := g1.tr g2
                  have e2' : Exs as H as2 := Exs.refl.trans e2 g1.kp
                  refine ⟨as0, Hs, as2, ρ3, os2, H2', ob, bs0.step e2' g23'.kp, n4, q2, ?_⟩
                  cases ob with
                  | nx r4 w4 => exact fun as5 σ5 H5' H5 e5 n5 g5 => ⟨as5, r4, w4, H5', e2.trans e5 g2.kp, n5, g2.trans g5 e2.mem, hr⟩
                  | ct r4 w4 => exact fun as5 σ5 H5' H5 e5 n5 g5 => ⟨as5, r4, w4, H5', e2.trans e5 g2.kp, n5, g2.trans g5 e2.mem, hr⟩
                  | bk r4 w4 =>
                    cases hr
                    exact NxOk.step e2 g2 kk2
                  | rt d4 w4 =>
                    cases hr
                    exact RtOk.step e2 g2 kk2
                  | ex C x r4 w4 =>
                    cases hr
                    exact ExOk.step e2 g2 kk2
                  | rv s4 w4 =>
                    cases hr
                    exact RvOk.step e2 g2 kk2
    | _ => cases hx
/-! comprehensions over lists of one's own -/
def lcLive (k : Nat) (g : XGL) (tt : XT) (te : XE) (ρ : List Sl) : Nat → Nat → List PyData → Os → Option (List PyData × Os)
  | 0, _, _, _ => none
  | m + 1, i, acc, os => (itemO os k i).bind fun r => match r with
    | none => some (acc, os)
    | some s => (g s ρ).bind fun ρ1 => (tt ρ1 os).bind fun p => if p.1 = true then (te ρ1 p.2).bind fun q => if acc.length < sizeLine then lcLive k g tt te ρ m (i + 1) (acc ++ [q.1]) q.2 else none else lcLive k g tt te ρ m (i + 1) acc p.2
def lcL (xr : XS) (g : XGL) (tt : XT) (te : XE) (vs : List Nat) : XI := fun ρ os => (xr ρ os).bind fun p => match p.1 with
  | .o k => (lenO p.2 k).bind fun n => lcLive k g tt te (wipeR ρ vs) (n + 1) 0 [] p.2
  | _ => none
theorem to_lcL {K : PySem.W.Frag} {tt : XT} {te : XE} {vs : List Nat} (hj : ∀ j ∈ js, j ∈ vs) {σ : L2.St} {H : Hp} {Q : VK} (q : teF K (lcL xr g tt te vs) σ H Q) : tLc (iList K (teR K xr)) (gLO K g js) (ttO K tt) (teO K te) vs σ H Q := by
  obtain ⟨as, ρ, os, H0, ds, os', n, hx, k⟩ := q
  unfold lcL at hx
  cases h : xr ρ os with
  | none => rw [h] at hx; cases hx
  | some p =>
    obtain ⟨t, os1⟩ := p
    rw [h, Option.bind_some] at hx
    cases t with
    | o kk =>
      simp only at hx
      cases hl : lenO os1 kk with
      | none => rw [hl] at hx; cases hx
      | some n0 =>
        rw [hl, Option.bind_some] at hx
        refine ⟨as, ρ, os, H0, _, os1, n, h, fun v Ha Hb n1 g1 r1 => ?_⟩
        obtain ⟨ad, ek, rfl⟩ := r1
        obtain ⟨r0, e0⟩ := item_of_len hl
        have L0 := listAt n1 ek e0
        refine ⟨ad, rfl, ⟨_, SqL.of L0.choose_spec.1⟩, ?_⟩
        intro D hD
        have nD : D ∉ as := fun z => n1.ow.trk D z hD
        have hadD : ad ≠ D := fun z => nD (by rw [← z]; exact List.mem_of_getElem? ek)
        refine ⟨fun i m H2 => ∃ acc osi H2' vacc, En K as (wipeR ρ vs) osi (wipe σ vs) H2' H2 ∧ Gr as Ha Hb H2' H2 ∧ H2' D = none ∧ H2 D = some (.lst vacc) ∧ DaAll K H2' vacc acc ∧ lcLive kk g tt te (wipeR ρ vs) m i acc osi = some (ds, os'),
          ⟨n0 + 1, [], os1, Ha, [], (n1.wipe vs).away nD (fun a h => upd_ne h) (by rw [upd_same]; simp) (fresh_back n1.sub hD), gr_upd (Gr.refl n1.sub) hD (fresh_back n1.sub hD), fresh_back n1.sub hD, upd_same, .nil, hx⟩, ?_⟩
        rintro i m H2 ⟨acc, osi, H2', vacc, nI, gI, h2, h3, h4, hr⟩
        cases m with
        | zero => cases hr
        | succ m =>
          simp only [lcLive] at hr
          cases q0 : itemO osi kk i with
          | none => rw [q0] at hr; cases hr
          | some r =>
            rw [q0, Option.bind_some] at hr
            obtain ⟨ws, hv, hit⟩ := listAt nI ek q0
            have hq := hit i r q0
            cases r with
            | none =>
              cases hr
              refine .inl ⟨⟨ws, SqL.of hv, hq⟩, k D vacc H2' H2 ?_ (nI.back n1 gI.e0) (g1.tr gI) h2 nD h3 h4⟩
              cases z : H D with
              | none => rfl
              | some u => exact absurd hD (g1.kp D (by rw [z]; simp))
            | some t =>
              obtain ⟨v, hv2, ra⟩ := hq
              simp only at hr
              have hlt : i < ws.length := (List.getElem?_eq_some_iff.mp hv2).1
              refine .inr ⟨(walk_list (K := K) (a := ad) (xs := ws)).goes i H2 hlt (SqL.of hv), fun H3 => ∃ acc osi H2' vacc, En K as (wipeR ρ vs) osi (wipe σ vs) H2' H3 ∧ Gr as Ha Hb H2' H3 ∧ H2' D = none ∧ H3 D = some (.lst vacc) ∧ DaAll K H2' vacc acc ∧ lcLive kk g tt te (wipeR ρ vs) m (i + 1) acc osi = some (ds, os'),
                fun H3 p3 => ⟨m, Nat.lt_succ_self m, p3⟩, fun x H3 y => ?_⟩
              obtain ⟨e3, e4⟩ := (walk_list (K := K) (a := ad) (xs := ws)).yields i H2 x H3 hlt (SqL.of hv) y
              subst e3
              rw [hv2] at e4
              cases e4
              cases q1 : g t (wipeR ρ vs) with
              | none => rw [q1] at hr; cases hr
              | some ρ1 =>
                rw [q1, Option.bind_some] at hr
                refine ⟨as, wipeR ρ vs, osi, H2', t, ρ1, nI, ra, q1, fun σ4 n4 w4 => ⟨(w4 vs hj).trans wipe_wipe, ?_⟩⟩
                cases q2 : tt ρ1 osi with
                | none => rw [q2] at hr; cases hr
                | some p =>
                  obtain ⟨b, os5⟩ := p
                  rw [q2, Option.bind_some] at hr
                  simp only at hr
                  refine ⟨as, ρ1, osi, H2', b, os5, n4, q2, fun H5' H5 n5 g5 => ?_⟩
                  have D5 : H5 D = some (.lst vacc) := g5.e1 D _ nD h3
                  have D5' : H5' D = none := keep_none g5 nD h2 (by rw [h3]; simp)
                  have gA : Gr as Ha Hb H5' H5 := gI.tr g5
                  cases b with
                  | false =>
                    simp only [Bool.false_eq_true, if_false] at hr ⊢
                    exact ⟨acc, os5, H5', vacc, n5.back nI g5.e0, gA, D5', D5, DaAll.mono g5.e0 _ _ h4, hr⟩
                  | true =>
                    simp only [if_true] at hr ⊢
                    cases q3 : te ρ1 os5 with
                    | none => rw [q3] at hr; cases hr
                    | some p =>
                      obtain ⟨yv, os6⟩ := p
                      rw [q3, Option.bind_some] at hr
                      simp only at hr
                      split at hr
                      · rename_i hz
                        refine ⟨as, ρ1, os5, H5', yv, os6, n5, q3, fun v H6' H6 n6 g6 r6 => ?_⟩
                        have D6 : H6 D = some (.lst vacc) := g6.e1 D _ nD D5
                        have D6' : H6' D = none := keep_none g6 nD D5' (by rw [D5]; simp)
                        have h46 : DaAll K H6' vacc acc := DaAll.mono (g5.e0.trans g6.e0) _ _ h4
                        refine ⟨vacc, D6, by rw [h46.len]; exact hz, acc ++ [yv], os6, H6', vacc ++ [v], ?_, gr_upd (gA.tr g6) hD D6', D6', upd_same, h46.app (.cons r6 .nil), hr⟩
                        exact (n6.back nI (g5.e0.trans g6.e0)).away nD (fun a h => upd_ne h) (by rw [upd_same]; simp) D6'
                      · cases hr
    | _ => cases hx
theorem pxf_lcL {tt : XT} {te : XE} {ifs : List Expr} {scope : Scope} {own : List (Str × Nat)} (hc : X.calm = true) (hN : X.N.Nodup) (hi : PXV X iter xr) (ok : BlkOk X.N X.env.scope scope own)
    (hg : ∀ (s : Shared) (H : Hp) (C : Addr) (cl : List (Str × Addr)) (fp : List Addr), PGL (X.blk s H scope (compEnvC scope cl C X.env) fp) tg g js)
    (ht : ∀ (s : Shared) (H : Hp) (C : Addr) (cl : List (Str × Addr)) (fp : List Addr), PXTs (X.blk s H scope (compEnvC scope cl C X.env) fp) ifs tt)
    (he : ∀ (s : Shared) (H : Hp) (C : Addr) (cl : List (Str × Addr)) (fp : List Addr), PX (X.blk s H scope (compEnvC scope cl C X.env) fp) elt te)
    (hj : ∀ j ∈ js, j ∈ own.map (·.2)) (hs : ∀ x, foldedSetIterable iter X.env x = pure x := by intro _; rfl) : PXF X (.ListComp elt [⟨tg, iter, ifs, 0⟩] scope pos) (lcL xr g tt te (own.map (·.2))) :=
  pe_imp (pe_lc hc hN (pi_list hi) ok hg ht he hs) fun _ _ _ q => to_lcL hj q
theorem argsOk_snoc {K : PySem.W.Frag} {as : List Addr} {H : Hp} {v : V} {s : Sl} (r : ArgOk K as H v s) : ∀ {vs : List V} {ss : List Sl}, ArgsOk K as H vs ss → ArgsOk K as H (vs ++ [v]) (ss ++ [s])
  | [], [], _ => ⟨r, True.intro⟩
  | _ :: _, _ :: _, h => ⟨h.1, argsOk_snoc r h.2⟩
  | [], _ :: _, h => h.elim
  | _ :: _, [], h => h.elim
/-! x.append(e), x one's own by any expression; e data, or one's own -/
def appO (os : Os) (k : Nat) (s : Sl) : Option Os := match os[k]? with
  | some (some (.l c)) => match s with
    | .d x => if c.length < sizeLine then some (os.set k (some (.l (c ++ [x])))) else none
    | _ => none
  | some (some (.r c)) => if c.length < sizeLine then some (os.set k (some (.r (c ++ [s])))) else none
  | _ => none
def sAppV (xr : XS) (xs : XS) : SE := fun ρ os => (xr ρ os).bind fun p => match p.1 with
  | .o k => (lenO p.2 k).bind fun _ => (xs ρ p.2).bind fun q => (appO q.2 k q.1).map fun w => .nx ρ w
  | _ => none
theorem appO_ok {K : PySem.W.Frag} {as : List Addr} {ρ : List Sl} {os os' : Os} {σ : L2.St} {H0 H : Hp} {a : Addr} {k : Nat} {s : Sl} {v : V} (n : En K as ρ os σ H0 H) (h : as[k]? = some a) (r : ArgOk K as H0 v s) (e : appO os k s = some os') :
    H0 a = none ∧ ∃ vs, H a = some (.lst vs) ∧ vs.length < sizeLine ∧ En K as ρ os' σ H0 (upd H a (.lst (vs ++ [v]))) := by
  unfold appO at e
  cases hc : os[k]? with
  | none => rw [hc] at e; cases e
  | some z =>
    rw [hc] at e
    cases z with
    | none => cases e
    | some ob =>
      cases ob with
      | l c =>
        cases s with
        | d x =>
          simp only at e
          split at e
          · rename_i hz
            cases e
            obtain ⟨q1, vs, q2, q3⟩ := n.ow.l _ a _ h hc
            exact ⟨q1, vs, q2, by rw [q3.len]; exact hz, n.mut (ob := .l (c ++ [x])) h hc (q3.app (.cons r .nil))⟩
          · cases e
        | _ => cases e
      | r c =>
        simp only at e
        split at e
        · rename_i hz
          cases e
          obtain ⟨q1, ho, q2, q3⟩ := n.ow.at_ _ a _ h hc
          obtain ⟨vs, rfl, rr⟩ := q3.r_of
          exact ⟨q1, vs, q2, by rw [args_len rr]; exact hz, n.mut (ob := .r (c ++ [s])) h hc (argsOk_snoc r rr)⟩
        · cases e
      | _ => cases e
theorem psx_appV {xs : XS} (h : PS X (.Expr e pos) (tDrop (tBM X.K "list" rAppend (teR X.K xr) (tCons (teS X.K xs) tNil)))) : PSX X W fr (.Expr e pos) (sAppV xr xs) := ps_imp h fun D σ H q => by
  obtain ⟨as0, Hs, as, ρ, os, H0, o, bs0, n, hx, k⟩ := q
  unfold sAppV at hx
  cases h1 : xr ρ os with
  | none => rw [h1] at hx; cases hx
  | some p =>
    obtain ⟨t, os1⟩ := p
    rw [h1, Option.bind_some] at hx
    cases t with
    | o kk =>
      simp only at hx
      cases hl : lenO os1 kk with
      | none => rw [hl] at hx; cases hx
      | some n0 =>
        rw [hl, Option.bind_some] at hx
        cases h2 : xs ρ os1 with
        | none => rw [h2] at hx; cases hx
        | some q =>
          obtain ⟨s, os2⟩ := q
          rw [h2, Option.bind_some] at hx
          refine ⟨as, ρ, os, H0, _, os1, n, h1, fun v Ha Hb n1 g1 r1 => ?_⟩
          obtain ⟨ad, ek, rfl⟩ := r1
          obtain ⟨r0, e0⟩ := item_of_len hl
          have L0 := listAt n1 ek e0
          refine ⟨.inl ⟨rfl, _, SqL.of L0.choose_spec.1⟩, as, ρ, os1, Ha, s, os2, n1, h2, fun v as2 H2 H2' e2 n2 g2 r2 => ?_⟩
          have ek2 : as2[kk]? = some ad := by
            obtain ⟨bs, rfl, _⟩ := id e2
            rw [List.getElem?_append_left (List.getElem?_eq_some_iff.mp ek).1]
            exact ek
          have hm : ad ∈ as2 := List.mem_of_getElem? ek2
          have e2' : Exs as H as2 := Exs.refl.trans e2 g1.kp
          cases h5 : appO os2 kk s with
          | none => rw [h5] at hx; cases hx
          | some w =>
            rw [h5] at hx
            cases hx
            obtain ⟨q1, vs, q2, q3, q4⟩ := appO_ok n2 ek2 r2 h5
            exact ⟨ad, vs, v, rfl, rfl, q2, q3, k as2 σ H2 _ e2' q4 ((g1.tr g2).trans (Gr.mut n2.sub hm q1 (n2.ow.trk _ hm)) e2'.mem)⟩
    | _ => cases hx
end
end DL

set_option Elab.async false
set_option linter.all false
set_option maxRecDepth 100000
set_option maxHeartbeats 4000000
namespace DL
open PySem PySem.Spec PyProof.Rows L2 L2.DX Evl
/-! ### sorted(d.items()), whole numbers to whole numbers -/
section
variable {X : Cx}
def rItemsK : V → List V → Hp → VK → Prop := fun x xs H Q => ∃ (a : Addr) (kvs : List (Key × V)), x = .ref a ∧ xs = [] ∧ H a = some (.dK kvs) ∧ ∀ p, H p = none → Q (.ref p) (upd H p (itemsO p a))
theorem mt_itemsK : MtR X "dict.items" rItemsK := by
  intro pins s σ H x xs v us Q I rx rxs h
  obtain ⟨a, kvs, rfl, rfl, ha, q⟩ := h
  cases rx
  cases rxs
  obtain ⟨z, hd, vs, kv, o, es, ep, ho, hx, hdat, _⟩ := dk_of I.hok ha
  refine DT.callItems (es := es) (ep := ep) hd ⟨o, ho, hx, hdat⟩ ?_
  exact ⟨.ref s.heap.objs.size, upd H s.heap.objs.size (itemsO s.heap.objs.size a), I.laid (t' := s.toks) (fun b u e => Heap.get?_push_of_some _ e) (Nat.le_refl _) (itemsO_ok (Heap.get?_push_size _ rfl)), rfl, q _ (I.hok.fresh (Nat.le_refl _))⟩
/-- by the first number, then by the second -/
def leP (x y : Int × Int) : Prop := x.1 < y.1 ∨ (x.1 = y.1 ∧ x.2 ≤ y.2)
abbrev entK (x : Int × Int) : Key × V := (.inl x.1, .int x.2)
def rSortItK : List V → Hp → VK → Prop := fun us H Q => ∃ (p a : Addr) (ns : List (Int × Int)), us = [.ref p] ∧ H p = some (itemsO p a) ∧ H a = some (.dK (ns.map entK)) ∧
  ∀ (H' : Hp) (l : Addr) (ps : List (Addr × Int × Int)), (∀ b o, H b = some o → H' b = some o) → (ps.map (·.2)).Perm ns → (ps.map (·.2)).Pairwise leP → H l = none → H' l = some (.lst (ps.map fun z => V.ref z.1)) →
    (∀ z ∈ ps, H z.1 = none ∧ H' z.1 = some (.tup [.int z.2.1, .int z.2.2])) → Q (.ref l) H'
theorem pairs_at {P : Program} {w : World} : ∀ {es : List DictEntry} {vs : List (Key × Value)} {ns : List (Int × Int)}, Pairs (mixKind P w) es vs → KV (ns.map entK) vs → ∀ (j : Nat) (e : DictEntry), es[j]? = some e → ∃ (x : Int × Int) (t u : Tok), ns[j]? = some x ∧ e.key = .int x.1 t ∧ e.val = .int x.2 u
  | _, _, [], _, .nil, j, e, h => by
    rename_i p
    cases p
    simp at h
  | _, _, x :: ns, .cons h1 h2 p, kv, j, e, h => by
    cases kv with
    | cons r rs =>
      cases j with
      | zero =>
        simp at h
        subst h
        obtain ⟨r1, r2⟩ := r
        obtain ⟨u, ru⟩ := r2
        rw [← r1] at h1
        have h3 : keyIs (.inl x.1) _ = true := h1
        rcases keyIs_shape h3 with ⟨i, t, ei, ev⟩ | ⟨z, t, ei, ev⟩
        · cases ei
          exact ⟨x, t, u, rfl, ev, h2.trans ru⟩
        · cases ei
      | succ j =>
        simp at h
        obtain ⟨y, t, u, g1, g2, g3⟩ := pairs_at p rs j e h
        exact ⟨y, t, u, by simpa using g1, g2, g3⟩
def kfO (o : Obj) : Int × Int := match o.data with
  | .seq #[.int x _, .int y _] _ => (x, y)
  | _ => (0, 0)
def kfOf (h : Heap) (v : Value) : Int × Int := match v with
  | .ref b => match h.get? b with
    | some o => kfO o
    | none => (0, 0)
  | _ => (0, 0)
theorem cr_sortItK (hc : X.calm = true) : CallR X (.builtin "sorted") rSortItK := by
  intro pins s σ H xs us Q I r h
  obtain ⟨p, a, ns, rfl, hp, ha, q⟩ := h
  obtain rfl := Vals.ref1 r
  have view : s.heap.IsItemsView p a := (show ObjOk X.prog X.w H s.heap p (itemsO p a) from I.hok p _ hp).1
  obtain ⟨z, hd, vs, kv, o, es, ep, ho, hx, hdat, hko, hpr, hn⟩ := dk_of I.hok ha
  have l1 : ns.length = vs.length := by have := Paired.length kv; simpa using this
  have l2 : es.size = vs.length := by have := Pairs.length hpr; simpa using this
  have hh : X.A.handled = none := I.ok.hd hc
  have zl : ns.length ≤ sizeLine := by simpa using z
  refine DT.sortedI (es := es) (ep := ep) hh view ⟨o, ho, hx, hdat⟩ (by omega) fun h' tk as hk hlt hl hG => ?_
  have lak : as.length = ns.length := by omega
  have nd : as.Nodup := List.Pairwise.imp (fun h => Nat.ne_of_lt h) hG.rise
  have pr : ∀ (j : Nat) (b : Addr), as[j]? = some b → ∃ (x : Int × Int) (t u : Tok), ns[j]? = some x ∧ h'.get? b = some { cls := .type "tuple", data := .seq #[Value.int x.1 t, Value.int x.2 u] } := fun j b hj => by
    obtain ⟨en, he, hg⟩ := hG.pairs j b hj
    obtain ⟨x, t, u, g1, g2, g3⟩ := pairs_at hpr kv j en (by simpa using he)
    exact ⟨x, t, u, g1, by rw [hg, g2, g3]⟩
  have hob : (h'.push { cls := .type "list", data := .seq (as.map Value.ref).toArray }).get? h'.objs.size = some (seqObj "list" (as.map Value.ref).toArray 0) := Heap.get?_push_size _ rfl
  have kb : ∀ b o, s.heap.get? b = some o → (h'.push { cls := .type "list", data := .seq (as.map Value.ref).toArray }).get? b = some o := fun b o e => Heap.get?_push_of_some _ (hk b o e)
  have ne0 : ∀ b o, h'.get? b = some o → b ≠ h'.objs.size := fun b o e => Nat.ne_of_lt (Heap.lt_size e)
  generalize hh2 : h'.push { cls := .type "list", data := .seq (as.map Value.ref).toArray } = h2 at hob kb ⊢
  have ka : ∀ b o, h'.get? b = some o → h2.get? b = some o := fun b o e => by rw [← hh2]; exact Heap.get?_push_of_some _ e
  -- which pair a value is
  let kf : Value → Int × Int := kfOf h2
  have kf_at : ∀ (j : Nat) (b : Addr) (x : Int × Int), as[j]? = some b → ns[j]? = some x → kf (.ref b) = x := fun j b x hj hx => by
    obtain ⟨y, t, u, g1, g2⟩ := pr j b hj
    rw [hx] at g1
    cases g1
    show kfOf h2 (.ref b) = x
    unfold kfOf
    simp only [ka _ _ g2]
    rfl
  have isp : ∀ v ∈ as.map Value.ref, Srt.IsPair h2 v (kf v).1 (kf v).2 := fun v hv => by
    obtain ⟨b, hb, rfl⟩ := List.mem_map.mp hv
    obtain ⟨j, hj⟩ := List.mem_iff_getElem?.mp hb
    obtain ⟨x, t, u, g1, g2⟩ := pr j b hj
    rw [kf_at j b x hj g1]
    exact ⟨b, _, t, u, 0, rfl, ka _ _ g2, rfl, rfl⟩
  have zz : (as.map Value.ref).length ≤ sizeLine := by rw [List.length_map]; omega
  refine wpAny_call_entry PyProof.Rows.slot_list_sort ⟨_, hob, rfl⟩ PyProof.Rows.entry_list_sort
    (SrtO.list_sort_ord (s := { s with heap := h2, toks := tk }) (ltv := fun v u => SrtO.lexB (kf v) (kf u)) (SrtO.swo_lex kf) hob zz (fun h2' => SrtO.pairs_sortableO (s := { s with heap := h2, toks := tk }) (by omega) isp fun o e => ?_) fun out o1 o2 => ⟨.none, rfl, ?_⟩) (PyProof.Rows.args_list_sort _)
  · have e' : some o = some (seqObj "list" (as.map Value.ref).toArray 0) := e.symm.trans hob
    cases e'
    intro c
    exact absurd (Value.type.inj c) (by decide)
  · show EP X pins σ Q (.ref h'.objs.size) { s with heap := sortedHeap h2 h'.objs.size (as.map Value.ref) out.toArray, toks := tk }
    obtain ⟨zs, pz, ez⟩ := perm_lift (fun z : Addr × Int × Int => Value.ref z.1) o2.perm (as.zip ns) (by
      have : (as.zip ns).map (fun z => Value.ref z.1) = ((as.zip ns).map (·.1)).map Value.ref := by rw [List.map_map]; rfl
      rw [this, List.map_fst_zip (by rw [lak]; exact Nat.le_refl _)])
    have idx : ∀ z ∈ zs, ∃ j : Nat, as[j]? = some z.1 ∧ ns[j]? = some z.2 := fun z' hz' => by
      obtain ⟨j, hj⟩ := List.mem_iff_getElem?.mp (pz.mem_iff.mp hz')
      exact ⟨j, List.getElem?_zip_eq_some.mp hj⟩
    have hperm : (zs.map (·.2)).Perm ns := by
      have e := pz.map (·.2)
      rw [List.map_snd_zip (by rw [lak]; exact Nat.le_refl _)] at e
      exact e
    have hsort : (zs.map (·.2)).Pairwise leP := by
      rw [List.pairwise_map]
      have o3 : out.Pairwise (fun v u => SrtO.lexB (kf u) (kf v) = false) := o1
      rw [← ez, List.pairwise_map] at o3
      refine List.Pairwise.imp_of_mem (fun {x y} hx hy h => ?_) o3
      obtain ⟨j, j1, j2⟩ := idx x hx
      obtain ⟨i, i1, i2⟩ := idx y hy
      rw [kf_at j _ _ j1 j2, kf_at i _ _ i1 i2] at h
      have := SrtO.lexB_no.mp h
      unfold leP
      omega
    have kF : ∀ b o, b ≠ h'.objs.size → h2.get? b = some o → (sortedHeap h2 h'.objs.size (as.map Value.ref) out.toArray).get? b = some o := fun b o hb e => (PyProof.Rows.sortedHeap_old hb (Heap.lt_size e)).trans e
    have kS : ∀ b o, s.heap.get? b = some o → (sortedHeap h2 h'.objs.size (as.map Value.ref) out.toArray).get? b = some o := fun b o e => kF b o (ne0 _ _ (hk b o e)) (kb b o e)
    obtain ⟨eF, heF⟩ := PyProof.Rows.sortedHeap_at (vs := as.map Value.ref) (out := out.toArray) hob
    have I1 : Inv X pins σ H { s with heap := sortedHeap h2 h'.objs.size (as.map Value.ref) out.toArray, toks := tk } := I.kept (t' := tk) kS
    have hn0 : H h'.objs.size = none := I.hok.fresh (Nat.le_of_lt hlt)
    have hlen : (zs.map fun z => V.ref z.1).length ≤ sizeLine := by
      have e := hperm.length_eq
      rw [List.length_map] at e ⊢
      omega
    have rv : Vals (zs.map fun z => V.ref z.1) out := by
      rw [← ez]
      exact vals_maps (fun z : Addr × Int × Int => V.ref z.1) (fun z => Value.ref z.1) zs fun _ _ => rfl
    have I2 : Inv X pins σ (upd H h'.objs.size (.lst (zs.map fun z => V.ref z.1))) { s with heap := sortedHeap h2 h'.objs.size (as.map Value.ref) out.toArray, toks := tk } :=
      I1.take (h' := sortedHeap h2 h'.objs.size (as.map Value.ref) out.toArray) (t' := tk) (fun b ob _ e => e) (I.fpOk (Nat.le_of_lt hlt) hn0) ⟨hlen, out, eF, rv, heF⟩
    obtain ⟨H2, I3, g, qt⟩ := takeT (P := fun b vs => ∃ (j : Nat) (x : Int × Int), as[j]? = some b ∧ ns[j]? = some x ∧ vs = [.int x.1, .int x.2]) I as _ I2 nd fun b hb => by
      obtain ⟨j, hj⟩ := List.mem_iff_getElem?.mp hb
      obtain ⟨x, t, u, he, hg⟩ := pr j b hj
      have hbl : s.heap.objs.size ≤ b := Nat.le_of_lt (hG.above b hb)
      refine ⟨hbl, ?_, [.int x.1, .int x.2], ⟨j, x, hj, he, rfl⟩, fun H3 => ⟨(by show 2 ≤ sizeLine; decide), [Value.int x.1 t, Value.int x.2 u], .cons ⟨t, rfl⟩ (.cons ⟨u, rfl⟩ .nil), ⟨_, kF _ _ (ne0 _ _ hg) (ka _ _ hg), rfl, 0, rfl⟩⟩⟩
      rw [upd_ne (ne0 _ _ hg)]
      exact I.hok.fresh hbl
    have gr : ∀ b o, H b = some o → H2 b = some o := fun b o e => g b o (by rw [upd_ne (ne_of_none e hn0)]; exact e)
    refine ⟨.ref h'.objs.size, H2, I3, rfl, q H2 h'.objs.size zs gr hperm hsort hn0 (g _ _ upd_same) fun z' hz' => ?_⟩
    obtain ⟨i, i1, i2⟩ := idx z' hz'
    obtain ⟨vs', ⟨j, x, j1, j2, ev⟩, hH⟩ := qt z'.1 (List.mem_of_getElem? i1)
    have eij : i = j := (List.getElem?_inj (List.getElem?_eq_some_iff.mp i1).1 nd).mp (i1.trans j1.symm)
    subst eij
    have ee : x = z'.2 := Option.some.inj (j2.symm.trans i2)
    rw [ev, ee] at hH
    exact ⟨I.hok.fresh (Nat.le_of_lt (hG.above _ (List.mem_of_getElem? i1))), hH⟩
end
end DL

set_option Elab.async false
set_option linter.all false
set_option maxRecDepth 100000
set_option maxHeartbeats 4000000
/-! ### set(list of whole numbers); sorted of a set of any size -/
namespace L2
open PySem PySem.Spec PyProof.Rows
section
variable {P : Program} {w : World} {A : Around} {E : Value → Shared → Prop} {s : Shared}
set_option maxHeartbeats 8000000 in
theorem set_of_listI {l : Addr} {items : Array Value} (ns : List Int) {Q : Value → Shared → Prop} (hh : A.handled = none) (hl : s.heap.IsList l items) (hit : IntsAre items.toList ns) (hb : ns.length + 1 < scanBound)
    (h : ∀ (h' : Heap) (tk c : Nat), SetR w h' s.heap.objs.size (fun j => decide (j ∈ ns)) c → c ≤ ns.length → (∀ b o, s.heap.get? b = some o → h'.get? b = some o) → Q (.ref s.heap.objs.size) { s with heap := h', toks := tk }) : wpAny (model P w) A (call (.type "set") [.ref l]) Q E s := by
  have hisz : items.size = ns.length := by have q := IntsAre.length hit; rw [Array.length_toList] at q; exact q
  obtain ⟨c, tl, hmro⟩ := F.called_set.mro; have hmade := F.called_set.made; have hsub := F.called_set.sub
  refine wpAny_call (codeAny_of_tree ?_); show wpAny _ _ (callAny (.type "set") _) _ _ _
  refine wpAny_pure ⟨Code.quiet_builtin _ (by decide +kernel), codeAny_builtin F.entry_type_call ?_⟩; rw [Around.under_plain (weight_type_call_type "set" [.ref l] []) rfl]
  have h1 := F.called_set.notType; have h2 := F.called_set.canCreate; have hct := F.typeCall_set_1 (.ref l)
  repeat (any_goals (first | assumption | wp_step))
  refine codeAny_mono (code_set_led1 (.ref l) (E := E) (Q₁ := fun z s₁ => z = .ref s.heap.objs.size ∧ s₁ = { s with heap := s.heap.push { cls := .type "set", dict := none, data := .set #[] 0 (.fresh 0 0 (!w.params.followText "set-order")) } }) ⟨rfl, rfl⟩) fun r s₁ hr => ?_
  cases r with
  | error e => exact hr
  | ok fl =>
    cases fl with
    | ret z =>
      obtain ⟨rfl, rfl⟩ := hr
      have hS : (s.heap.push { cls := .type "set", dict := none, data := .set #[] 0 (.fresh 0 0 (!w.params.followText "set-order")) }).get? s.heap.objs.size = some { cls := .type "set", dict := none, data := .set #[] 0 (.fresh 0 0 (!w.params.followText "set-order")) } := Heap.get?_push_size s.heap rfl
      have hT : Shared.TypeIs { s with heap := s.heap.push { cls := .type "set", dict := none, data := .set #[] 0 (.fresh 0 0 (!w.params.followText "set-order")) } } (.ref s.heap.objs.size) "set" := ⟨{ cls := .type "set", dict := none, data := .set #[] 0 (.fresh 0 0 (!w.params.followText "set-order")) }, hS, rfl⟩
      have hli := F.called_set.init.lookup; have hbi := F.called_set.init.bind (.ref s.heap.objs.size)
      repeat (any_goals (first | assumption | wp_step))
      refine codeAny_mono (codeAny_call_builtin (R := wants (fun r s₂ => r = .none ∧ ∃ h' tk c, s₂ = { s with heap := h', toks := tk } ∧ SetR w h' s.heap.objs.size (fun j => decide (j ∈ ns)) c ∧ c ≤ ns.length ∧ (∀ b o, s.heap.get? b = some o → h'.get? b = some o)) E) F.called_set.init.plain F.entry_set_init (check_set_init_1 hT ?_)) fun r₂ s₂ hr₂ => ?_
      · obtain ⟨ol, hol, hcl, nl, hdl⟩ := hl; obtain ⟨ocls, odict, odata, oslots⟩ := ol; simp only at hcl hdl; subst hcl; subst hdl
        have hol' : (s.heap.push { cls := .type "set", dict := none, data := .set #[] 0 (.fresh 0 0 (!w.params.followText "set-order")) }).get? l = some { cls := .type "list", dict := odict, data := .seq items nl, slots := oslots } := Heap.get?_push_of_some _ hol
        have hsls := F.sub_list_set; have hslf := F.sub_list_frozenset; have hne : (Value.type "list" == Value.type "dict") = false := by decide
        have hl1 : (s.heap.push { cls := .type "set", dict := none, data := .set #[] 0 (.fresh 0 0 (!w.params.followText "set-order")) }).IsList l items := ⟨{ cls := .type "list", dict := odict, data := .seq items nl, slots := oslots }, hol', rfl, nl, rfl⟩
        unfold Builtin.«set.__init__» noKeywords Builtin.Frozenset.updateFrom; generalize hPI : pyIter = PI; wp_walk; subst hPI
        refine wpAny_pyIter_list hl1 ?_; refine wpAny_bind (wpAny_runValue ?_)
        have hlS : l < s.heap.objs.size := Heap.lt_size hol; have hh3 : A.in1.in1.in1.handled = none := by simp [hh]
        have hneI : l ≠ (s.heap.push { cls := .type "set", dict := none, data := .set #[] 0 (.fresh 0 0 (!w.params.followText "set-order")) }).objs.size := by rw [Heap.size_push]; exact Nat.ne_of_lt (Nat.lt_succ_of_lt hlS)
        have hSf : s.heap.objs.size ∉ [(s.heap.push { cls := .type "set", dict := none, data := .set #[] 0 (.fresh 0 0 (!w.params.followText "set-order")) }).objs.size, l] := by
          rw [Heap.size_push]; simp only [List.mem_cons, List.mem_singleton, List.not_mem_nil, or_false, not_or]; exact ⟨Nat.ne_of_lt (Nat.lt_succ_self _), Nat.ne_of_gt hlS⟩
        have hval : ∀ (i : Nat) (v : Value), items[i]? = some v → ∃ k t, ns[i]? = some k ∧ v = .int k t := fun i v hv => by
          have hi : i < ns.length := by rw [← hisz]; exact (Array.getElem?_eq_some_iff.mp hv).1
          obtain ⟨t, e⟩ := PyProof.Rows.IntsAre.int_at hit i v (by rw [Array.getElem?_toList]; exact hv)
          refine ⟨ns[i], t, List.getElem?_eq_getElem hi, ?_⟩; rw [e, List.getD_eq_getElem?_getD, List.getElem?_eq_getElem hi] <;> rfl
        refine set_update_ints ((Walks.list hh3 _ l hneI items).toS) s.heap.objs.size hSf ns hisz hb hval (items.size - 0) 0 _ (by omega) (Nat.zero_le _) ⟨⟨_, Heap.get?_push_size _ rfl, rfl, rfl⟩, (hl1.push _)⟩ ?hS0 ?hR
        case hS0 => exact ⟨0, Nat.le_refl 0, setR_new_at (Heap.get?_push_of_some _ hS)⟩
        case hR =>
          intro s' c' hm hc' hS'; obtain ⟨h', g2, d', tk', os'⟩ := s'
          have eg : g2 = s.gens := hm.gens; have ed : d' = s.drawn := hm.drawn; have eo : os' = s.os := hm.os
          subst eg; subst ed; subst eo; show wpAny _ _ _ _ _ _
          refine wpAny_pure ?_; show wpAny _ _ (ret Value.none) _ _ _; rw [hisz] at hc'
          refine wpAny_pure ⟨rfl, h', tk', c', rfl, hS', hc', fun b o e => ?_⟩
          have hb0 : b < s.heap.objs.size := Heap.lt_size e
          have hb2 : b ≠ (s.heap.push { cls := .type "set", dict := none, data := .set #[] 0 (.fresh 0 0 (!w.params.followText "set-order")) }).objs.size := by rw [Heap.size_push]; exact Nat.ne_of_lt (Nat.lt_succ_of_lt hb0)
          exact hm.heap b o (by simp only [List.mem_cons, List.mem_singleton, List.not_mem_nil, or_false, not_or]; exact ⟨Nat.ne_of_lt hb0, hb2⟩) (Heap.get?_push_of_some _ (Heap.get?_push_of_some _ e))
      · cases r₂ with
        | error e => exact hr₂
        | ok fl =>
          cases fl with
          | ret z =>
            obtain ⟨rfl, h', tk, c2, rfl, q1, q2, q3⟩ := hr₂
            repeat (any_goals (first | assumption | wp_step))
            first
              | exact h h' tk c2 q1 q2 q3
              | skip
          | _ => exact hr₂
    | _ => exact hr
end
end L2

set_option Elab.async false
set_option linter.all false
set_option maxRecDepth 100000
set_option maxHeartbeats 4000000
namespace L2
open PySem PySem.Spec PyProof.Rows
section
variable {P : Program} {w : World} {A : Around} {E : Value → Shared → Prop} {s : Shared} {a : Addr}
theorem sorted_set_any {S : Int → Bool} {n : Nat} {Q : Value → Shared → Prop} (R : SetR w s.heap a S n) (hh : A.handled = none) (hz0 : n ≤ sizeLine)
    (hQ : ∀ s' p (out : List Value) (c : Nat) (ns : List Int), (∀ b o, s.heap.get? b = some o → s'.heap.get? b = some o) → s'.gens = s.gens → s'.os = s.os → s.heap.objs.size ≤ p → s'.heap.get? p = some (seqObj "list" out.toArray c) → IntsAre out ns → ns.Pairwise (· < ·) → (∀ k, k ∈ ns ↔ S k = true) → ns.length = n → Q (.ref p) s') :
    wpAny (model P w) A (call (.builtin "sorted") [.ref a]) Q E s := by
  obtain ⟨o, es, ep, t, ho, hex, hd, g, nd, hm, hb, hf, hn, hr, hl⟩ := R
  refine Calls.call_function_entry kind_sorted plain_sorted entry_sorted (args_sorted1 _) ?_; unfold Builtin.«sorted»
  refine wpAny_bind (m := checkCount "sorted" 1 1 _) (wpAny_pure ?_)
  refine wpAny_bind (collect_set (A := A.in1) hh ⟨o, ho, hex.1, hd⟩ hf hb hr hl fun s1 vs k1 hz g1 o1 pm => ?_)
  have hvl : vs.length = n := by rw [pm.length_eq, List.length_map, Array.length_toList]; exact hn
  have hI : IntsAre vs (vs.map Builtin.Re.reRawOf) := ints_of vs fun v hv => by
    obtain ⟨e, he, q⟩ := List.mem_map.mp (pm.mem_iff.mp hv); obtain ⟨k, tk, h1, _⟩ := g e he; exact ⟨k, tk, by rw [← q]; exact h1⟩
  have pk : (vs.map Builtin.Re.reRawOf).Perm (es.toList.map keyOf) := by have q := pm.map Builtin.Re.reRawOf; rw [List.map_map] at q; exact q
  refine wpAny_bind (wpAny_newList ?_ (by rw [hvl]; exact hz0))
  have hoL : (s1.heap.push (seqObj "list" vs.toArray 0)).get? s1.heap.objs.size = some (seqObj "list" vs.toArray 0) := Heap.get?_push_size _ rfl
  refine wpAny_bind (wpAny_holding (wpAny_call_entry slot_list_sort ⟨_, hoL, rfl⟩ entry_list_sort (SrtO.list_sort_ord (s := { s1 with heap := s1.heap.push (seqObj "list" vs.toArray 0) }) SrtO.swo_int hoL (by rw [hvl]; exact hz0) (fun h2 => SrtO.ints_sortable hI h2) fun out b1 b2 => ⟨_, rfl, ?_⟩) (args_list_sort _)))
  obtain ⟨c, hc⟩ := sortedHeap_at (vs := vs) (out := out.toArray) hoL
  obtain ⟨a1, a2, a3⟩ := SrtO.ints_out hI b1 b2
  have pn : (out.map SrtO.iv).Perm (es.toList.map keyOf) := a2.trans pk
  refine wpAny_pure ⟨_, rfl, hQ _ s1.heap.objs.size out c _ (fun b u e => ?_) g1 o1 hz hc a1 (lt_of_le_nodup _ a3 (pn.nodup_iff.mpr nd)) (fun k => by rw [pn.mem_iff, ← hm k]) ?_⟩
  · have q := k1 b u e; have hlt := Heap.lt_size q
    show (sortedHeap (s1.heap.push (seqObj "list" vs.toArray 0)) s1.heap.objs.size vs out.toArray).get? b = some u
    rw [sortedHeap_old (Nat.ne_of_lt hlt) (by rw [size_push']; exact Nat.lt_succ_of_lt hlt)]; exact Heap.get?_push_of_some _ q
  · rw [pn.length_eq, List.length_map, Array.length_toList]; exact hn
end
end L2

set_option Elab.async false
set_option linter.all false
set_option maxRecDepth 100000
set_option maxHeartbeats 4000000
namespace DL
open PySem PySem.Spec PyProof.Rows L2 L2.DX Evl
section
variable {X : Cx} {W : WX} {fr : Option Nat} {a b c e o : Expr} {es : List Expr} {xa xb xe xk xz : XE} {xr xd : XS} {ra : XA} {pos p p2 p3 apos cpos pos' : Pos}
/-! ### sorted(set(xs)), whole numbers -/
def dedup (l : List Int) : List Int := l.foldr (fun x acc => if x ∈ acc then acc else x :: acc) []
theorem dedup_mem : ∀ (l : List Int) (x : Int), x ∈ dedup l ↔ x ∈ l
  | [], x => by simp [dedup]
  | y :: r, x => by
    have ih := dedup_mem r x
    have e : dedup (y :: r) = if y ∈ dedup r then dedup r else y :: dedup r := rfl
    rw [e]
    have ihy := dedup_mem r y
    split
    · rename_i hy
      rw [ih, List.mem_cons]
      exact ⟨.inr, fun h => h.elim (fun z => by rw [z]; exact ihy.mp hy) id⟩
    · rw [List.mem_cons, List.mem_cons, ih]
theorem dedup_nodup : ∀ l : List Int, (dedup l).Nodup
  | [] => .nil
  | y :: r => by
    have e : dedup (y :: r) = if y ∈ dedup r then dedup r else y :: dedup r := rfl
    rw [e]
    split
    · exact dedup_nodup r
    · rename_i h
      exact List.nodup_cons.mpr ⟨h, dedup_nodup r⟩
def setSort (l : List Int) : List Int := sortI (dedup l)
theorem lt_uniq : ∀ {l m : List Int}, l.Pairwise (· < ·) → m.Pairwise (· < ·) → (∀ x, x ∈ l ↔ x ∈ m) → l = m := fun {l m} h1 h2 h => by
  have n1 : l.Nodup := h1.imp fun h => Int.ne_of_lt h
  have n2 : m.Nodup := h2.imp fun h => Int.ne_of_lt h
  exact sort_uniq ((List.perm_ext_iff_of_nodup n1 n2).mpr h) (h1.imp fun h => Int.le_of_lt h) (h2.imp fun h => Int.le_of_lt h)
theorem setSort_lt (l : List Int) : (setSort l).Pairwise (· < ·) := lt_of_le_nodup _ (sortI_sorted _) ((sortI_perm _).nodup_iff.mpr (dedup_nodup l))
theorem setSort_mem (l : List Int) (x : Int) : x ∈ setSort l ↔ x ∈ l := by
  unfold setSort
  rw [(sortI_perm _).mem_iff, dedup_mem]
def rSetL (K : PySem.W.Frag) (w : World) : List V → Hp → VK → Prop := fun xs H Q => ∃ (a : Addr) (ns : List Int), xs = [.ref a] ∧ SqL K H a (ns.map V.int) ∧ ns.length + 1 < scanBound ∧
  ∀ p c, H p = none → c ≤ ns.length → Q (.ref p) (upd H p (SetO w p (fun j => decide (j ∈ ns)) c))
theorem cr_setL (hc : X.calm = true) : CallR X (.type "set") (rSetL X.K X.w) := by
  intro pins s σ H vs us Q I r h
  obtain ⟨a, ns, rfl, hs, hb, q⟩ := h
  obtain ⟨its, rv, hl, hz⟩ := I.list hs
  rw [Vals.ref1 r]
  refine set_of_listI ns (I.ok.hd hc) hl.isList (by simpa using rv.ints) hb fun h' tk c new hc' k => ?_
  have hn : H s.heap.objs.size = none := I.hok.fresh (Nat.le_refl _)
  exact ⟨.ref _, upd H s.heap.objs.size (SetO X.w s.heap.objs.size (fun j => decide (j ∈ ns)) c), I.laid (t' := tk) (fun b u e => k b u e) (Nat.le_refl _) (setO_new new), rfl, q _ c hn hc'⟩
def rSortS (w : World) : List V → Hp → VK → Prop := fun vs H Q => ∃ (a : Addr) (S : Int → Bool) (n : Nat), vs = [V.ref a] ∧ H a = some (SetO w a S n) ∧ n ≤ sizeLine ∧
  ∀ (ns : List Int) (p : Addr), ns.Pairwise (· < ·) → (∀ k : Int, k ∈ ns ↔ S k = true) → ns.length = n → H p = none → Q (.ref p) (upd H p (.lst (ns.map V.int)))
theorem cr_sortS (hc : X.calm = true) : CallR X (.builtin "sorted") (rSortS X.w) := by
  intro pins s σ H vs us Q I r h
  obtain ⟨a, S, n, rfl, ha, hz, q⟩ := h
  have R := setO_get I ha
  rw [Vals.ref1 r]
  refine sorted_set_any R (I.ok.hd hc) hz fun s' p out c ns k g o hp hg hi hs hm hl => ?_
  have hlen : (ns.map V.int).length ≤ sizeLine := by rw [List.length_map, hl]; exact hz
  have hn : H p = none := I.hok.fresh hp
  have J : Inv X pins σ (upd H p (.lst (ns.map V.int))) { s with heap := s'.heap, gens := s'.gens, drawn := s'.drawn, toks := s'.toks } := I.call (ch := []) (Un.laid k hp hn) (I.hok.laid k hp ⟨hlen, out, c, vals_of_ints hi, hg⟩) (by rw [g]; exact I.bare) (fun _ z => nomatch z)
  have e : s' = { s with heap := s'.heap, gens := s'.gens, drawn := s'.drawn, toks := s'.toks } := by
    obtain ⟨h1, g1, d1, t1, o1⟩ := s'
    have o : o1 = s.os := o
    subst o
    rfl
  rw [e]
  exact ⟨.ref p, _, J, rfl, q ns p hs hm hl hn⟩
def setSortD : PyData → Option PyData
  | .list c => (intsOf c).bind fun ns => if ns.length + 1 < 4096 then some (.list ((setSort ns).map .int)) else none
  | _ => none
theorem bt_set : bootBuiltins "set" = some (.type "set") := by decide +kernel
theorem px_sortSet (hc : X.calm = true) (hg : Gl X "sorted") (hm : X.mg "sorted" = none) (hg2 : Gl X "set") (hm2 : X.mg "set" = none) (ha : PX X e xe)
    (he : starEach [.Call (.Name "set" p2) [e] [] p3] X.env = (false, eval (.Call (.Name "set" p2) [e] [] p3) X.env) :: starEach [] X.env := by rfl) (hpl : (backTo pos (starEach [] X.env)).any (·.1) = false := by rfl)
    (he2 : starEach [e] X.env = (false, eval e X.env) :: starEach [] X.env := by rfl) (hpl2 : (backTo p3 (starEach [] X.env)).any (·.1) = false := by rfl) : PX X (.Call (.Name "sorted" p) [.Call (.Name "set" p2) [e] [] p3] [] pos) (xUn setSortD xe) :=
  pe_imp (pe_callB (cr_sortS hc) hg hm bt_sorted (pa_cons (pe_callTy (cr_setL hc) hg2 hm2 bt_set (pa_cons ha pa_nil he2) (by decide) (by decide) he2 hpl2) pa_nil he) (by decide) (by decide) he hpl) fun σ H Q q => by
    obtain ⟨as, ρ, os, H0, d, os', n, hx, k⟩ := q
    obtain ⟨x, h1, h3⟩ := xUn_some hx
    refine ⟨as, ρ, os, H0, x, os', n, h1, fun v H1 H1' n1 g1 r1 => ?_⟩
    cases r1 with
    | lst l1 l2 =>
      simp only [setSortD] at h3
      rename_i a0 vs0 ds0
      cases h4 : intsOf ds0 with
      | none => rw [h4] at h3; cases h3
      | some ns =>
        rw [h4, Option.bind_some] at h3
        split at h3
        · rename_i hb
          cases h3
          have hd := intsOf_eq h4
          subst hd
          have hv := da_ints l2
          subst hv
          refine ⟨_, ns, rfl, ex_l n1.sub l1, hb, fun q c hq hcn => ?_⟩
          refine ⟨q, _, c, rfl, upd_same, by have : scanBound = 4096 := rfl; have : sizeLine = 16777216 := rfl; omega, fun ms z hs hm hl hz => ?_⟩
          have em : ms = setSort ns := lt_uniq hs (setSort_lt ns) fun y => by rw [hm y, setSort_mem]; simp
          subst em
          have hzq : z ≠ q := fun y => by rw [y, upd_same] at hz; cases hz
          have hz1 : H1' z = none := by rw [upd_ne hzq] at hz; exact hz
          have g2 : Gr [] H1 H1' (upd H1 z (.lst ((setSort ns).map V.int))) (upd (upd H1' q (SetO X.w q (fun j => decide (j ∈ ns)) c)) z (.lst ((setSort ns).map V.int))) := by
            refine ⟨Ex.new (fresh_back n1.sub hz1), fun b u _ e => ?_, fun b u _ e hb2 => ?_, fun b hb2 => ?_, fun b u e => ?_⟩
            · rw [upd_ne (ne_of_none e hz1), upd_ne (ne_of_none e hq)]
              exact e
            · rw [upd_ne (fun y => hb2 (by rw [y]; exact hz1))] at e
              exact e
            · rw [upd_ne (fun y => hb2 (by rw [y]; exact hz1)), upd_ne (fun y => hb2 (by rw [y]; exact hq))]
              exact hb2
            · by_cases y : b = z
              · subst y
                rw [upd_same] at e ⊢
                exact e
              · rw [upd_ne y] at e ⊢
                have e2 := n1.sub b u e
                rw [upd_ne (ne_of_none e2 hq)]
                exact e2
          exact k _ _ _ (n1.grow g2) (g1.tr0 g2) (.lst (SqL.of upd_same) (ints_da _))
        · cases h3
    | _ => cases h3
/-! ### sorted(d.items()) -/
def pairsOf : List (Key × PyData) → Option (List (Int × Int))
  | [] => some []
  | (.inl i, .int j) :: r => (pairsOf r).map ((i, j) :: ·)
  | _ => none
def leB (x y : Int × Int) : Bool := decide (x.1 < y.1) || (decide (x.1 = y.1) && decide (x.2 ≤ y.2))
theorem leB_iff {x y : Int × Int} : leB x y = true ↔ leP x y := by simp [leB, leP]
def insP (x : Int × Int) : List (Int × Int) → List (Int × Int)
  | [] => [x]
  | y :: r => if leB x y = true then x :: y :: r else y :: insP x r
def sortP : List (Int × Int) → List (Int × Int)
  | [] => []
  | x :: r => insP x (sortP r)
theorem insP_perm (x : Int × Int) : ∀ l, (insP x l).Perm (x :: l)
  | [] => List.Perm.refl _
  | y :: r => by
    unfold insP
    split
    · exact List.Perm.refl _
    · exact ((insP_perm x r).cons y).trans (List.Perm.swap x y r)
theorem sortP_perm : ∀ l, (sortP l).Perm l
  | [] => List.Perm.refl _
  | x :: r => (insP_perm x _).trans ((sortP_perm r).cons x)
theorem leP_tr {x y z : Int × Int} (h : leP x y) (g : leP y z) : leP x z := by unfold leP at *; omega
theorem leP_anti {x y : Int × Int} (h : leP x y) (g : leP y x) : x = y := by
  unfold leP at *
  exact Prod.ext (by omega) (by omega)
theorem insP_sorted (x : Int × Int) : ∀ {l}, l.Pairwise leP → (insP x l).Pairwise leP
  | [], _ => by simp [insP]
  | y :: r, h => by
    obtain ⟨h1, h2⟩ := List.pairwise_cons.mp h
    unfold insP
    split
    · rename_i hxy
      refine List.pairwise_cons.mpr ⟨fun z hz => ?_, h⟩
      rcases List.mem_cons.mp hz with e | e
      · rw [e]; exact leB_iff.mp hxy
      · exact leP_tr (leB_iff.mp hxy) (h1 z e)
    · rename_i hxy
      refine List.pairwise_cons.mpr ⟨fun z hz => ?_, insP_sorted x h2⟩
      rcases List.mem_cons.mp ((insP_perm x r).mem_iff.mp hz) with e | e
      · rw [e]
        have : ¬ leP x y := fun q => hxy (leB_iff.mpr q)
        unfold leP at this ⊢
        omega
      · exact h1 z e
theorem sortP_sorted : ∀ l, (sortP l).Pairwise leP
  | [] => .nil
  | x :: r => insP_sorted x (sortP_sorted r)
theorem sortP_uniq : ∀ {l m : List (Int × Int)}, l.Perm m → l.Pairwise leP → m.Pairwise leP → l = m
  | [], m, p, _, _ => List.Perm.nil_eq p
  | x :: r, [], p, _, _ => absurd p.length_eq (by simp)
  | x :: r, y :: t, p, h1, h2 => by
    obtain ⟨a1, a2⟩ := List.pairwise_cons.mp h1
    obtain ⟨b1, b2⟩ := List.pairwise_cons.mp h2
    have e : x = y := by
      have i1 : y ∈ x :: r := p.mem_iff.mpr (by simp)
      have i2 : x ∈ y :: t := p.mem_iff.mp (by simp)
      rcases List.mem_cons.mp i1 with q | q
      · exact q.symm
      · rcases List.mem_cons.mp i2 with q2 | q2
        · exact q2
        · exact leP_anti (a1 y q) (b1 x q2)
    subst e
    rw [sortP_uniq ((List.perm_cons x).mp p) a2 b2]
def tupP (x : Int × Int) : PyData := .tuple [.int x.1, .int x.2]
def xSortItems (xr : XS) : XE := fun ρ os => (xr ρ os).bind fun p => (obAt p.2 p.1).bind fun q => match q.2 with
  | .k ps => (pairsOf ps).map fun ns => (.list ((sortP ns).map tupP), p.2)
  | _ => none
theorem pairs_rel {K : PySem.W.Frag} {H0 : Hp} : ∀ {kvs : List (Key × V)} {ps : List (Key × PyData)} {ns : List (Int × Int)}, PsOk K H0 kvs ps → pairsOf ps = some ns → kvs = ns.map entK
  | [], [], _, _, e => by cases e; rfl
  | kv :: kvs, q :: ps, ns, h, e => by
    obtain ⟨h1, h2, h3⟩ := h
    obtain ⟨kk, kw⟩ := kv
    obtain ⟨qk, qd⟩ := q
    cases h1
    cases kk with
    | inl i =>
      cases qd with
      | int j =>
        simp only [pairsOf] at e
        cases e2 : pairsOf ps with
        | none => rw [e2] at e; cases e
        | some ms =>
          rw [e2] at e
          cases e
          cases h2
          rw [pairs_rel h3 e2]
          rfl
      | _ => simp [pairsOf] at e
    | inr z => simp [pairsOf] at e
  | [], _ :: _, _, h, _ => h.elim
  | _ :: _, [], _, h, _ => h.elim
theorem da_tups {K : PySem.W.Frag} {H : Hp} : ∀ (zs : List (Addr × Int × Int)), (∀ z ∈ zs, H z.1 = some (.tup [.int z.2.1, .int z.2.2])) → DaAll K H (zs.map fun z => V.ref z.1) ((zs.map (·.2)).map tupP)
  | [], _ => .nil
  | z :: r, h => .cons (.tup (h z (by simp)) (.cons (.int _) (.cons (.int _) .nil))) (da_tups r fun y hy => h y (by simp [hy]))
theorem px_sortItems (hc : X.calm = true) (hg : Gl X "sorted") (hm : X.mg "sorted" = none) (ho : PXV X o xr)
    (he : starEach [.Call (.Attribute o "items" apos) [] [] cpos] X.env = (false, eval (.Call (.Attribute o "items" apos) [] [] cpos) X.env) :: starEach [] X.env := by rfl) (hpl : (backTo pos (starEach [] X.env)).any (·.1) = false := by rfl)
    (hbase : attributeBase o "items" X.env (eval o X.env) = eval o X.env := by rfl) (hline : (apos.endLine == cpos.line) = true := by rfl) : PX X (.Call (.Name "sorted" p) [.Call (.Attribute o "items" apos) [] [] cpos] [] pos) (xSortItems xr) :=
  pe_imp (pe_callB (cr_sortItK hc) hg hm bt_sorted (pa_cons (pe_bm0 PySem.F.plainAttrs_dict PySem.F.slot_dict_items PySem.F.type_dict_items mt_itemsK ho hbase hline) pa_nil he) (by decide) (by decide) he hpl) fun σ H Q q => by
    obtain ⟨as, ρ, os, H0, d, os', n, hx, k⟩ := q
    unfold xSortItems at hx
    cases h1 : xr ρ os with
    | none => rw [h1] at hx; cases hx
    | some p1 =>
      obtain ⟨s, os1⟩ := p1
      rw [h1, Option.bind_some] at hx
      simp only at hx
      cases h2 : obAt os1 s with
      | none => rw [h2] at hx; cases hx
      | some q2 =>
        obtain ⟨j, ob⟩ := q2
        rw [h2, Option.bind_some] at hx
        cases ob with
        | k ps =>
          simp only at hx
          cases h3 : pairsOf ps with
          | none => rw [h3] at hx; cases hx
          | some ns =>
            rw [h3] at hx
            cases hx
            obtain ⟨rfl, h4⟩ := obAt_some h2
            refine ⟨as, ρ, os, H0, _, _, n, h1, fun v H1 H1' n1 g1 r1 => ?_⟩
            obtain ⟨ad, e1, rfl⟩ := r1
            obtain ⟨q1, ho', q2, q3⟩ := n1.ow.at_ j ad _ e1 h4
            obtain ⟨kvs, rfl, r⟩ := q3.k_of
            have ek := pairs_rel r h3
            subst ek
            refine ⟨.inr (.inr (.inl ⟨rfl, .inl ⟨_, q2⟩⟩)), ad, _, rfl, rfl, q2, fun z hz => ?_⟩
            have hza : ad ≠ z := ne_of_none q2 hz
            refine ⟨z, ad, ns, rfl, upd_same, by rw [upd_ne hza]; exact q2, fun H' l zs kp hp hs hl hl2 ht => ?_⟩
            have em : zs.map (·.2) = sortP ns := sortP_uniq (hp.trans (sortP_perm ns).symm) hs (sortP_sorted ns)
            have kp1 : ∀ b o, H1' b = some o → H' b = some o := fun b o e => kp b o (by rw [upd_ne (ne_of_none e hz)]; exact e)
            have hnone : ∀ b, upd H1' z (itemsO z ad) b = none → H1' b = none := fun b hb => by
              by_cases y : b = z
              · rw [y, upd_same] at hb
                cases hb
              · rw [upd_ne y] at hb
                exact hb
            -- the stable part: the new list and its pairs too
            let H2 : Hp := fun b => match H1' b with
              | some _ => H1 b
              | none => if b = l ∨ b ∈ zs.map (fun (z : Addr × Int × Int) => z.1) then H' b else none
            have e0 : Ex H1 H2 := fun b u e => by
              show (match H1' b with | some _ => H1 b | none => _) = some u
              rw [n1.sub b u e]
              exact e
            have g2 : Gr [] H1 H1' H2 H' := by
              refine ⟨e0, fun b u _ e => kp1 b u e, fun b u _ e hb => ?_, fun b hb => ?_, fun b u e => ?_⟩
              · have e : (match H1' b with | some _ => H1 b | none => if b = l ∨ b ∈ zs.map (fun (z : Addr × Int × Int) => z.1) then H' b else none) = some u := e
                cases y : H1' b with
                | none => exact absurd y hb
                | some t => rw [y] at e; exact e
              · cases y : H1' b with
                | none => exact absurd y hb
                | some t => rw [kp1 b t y]; simp
              · have e : (match H1' b with | some _ => H1 b | none => if b = l ∨ b ∈ zs.map (fun (z : Addr × Int × Int) => z.1) then H' b else none) = some u := e
                cases y : H1' b with
                | none =>
                  rw [y] at e
                  simp only at e
                  split at e
                  · exact e
                  · cases e
                | some t =>
                  rw [y] at e
                  exact kp1 b u (n1.sub b u e)
            have hl3 : H2 l = some (.lst (zs.map fun z => V.ref z.1)) := by
              show (match H1' l with | some _ => H1 l | none => if l = l ∨ l ∈ zs.map (fun (z : Addr × Int × Int) => z.1) then H' l else none) = _
              rw [hnone l hl]
              simp [hl2]
            refine k (.ref l) H2 H' (n1.grow g2) (g1.tr0 g2) (.lst (SqL.of hl3) ?_)
            rw [← em]
            refine da_tups zs fun y hy => ?_
            obtain ⟨y1, y2⟩ := ht y hy
            show (match H1' y.1 with | some _ => H1 y.1 | none => if y.1 = l ∨ y.1 ∈ zs.map (fun (z : Addr × Int × Int) => z.1) then H' y.1 else none) = _
            rw [hnone _ y1]
            simp only
            rw [if_pos (.inr (List.mem_map.mpr ⟨y, hy, rfl⟩))]
            exact y2
        | _ => cases hx
end
end DL

set_option Elab.async false
set_option linter.all false
set_option maxRecDepth 100000
set_option maxHeartbeats 4000000
namespace DL
open PySem PySem.Spec PyProof.Rows L2 Evl
section
variable {X : Cx} {W : WX} {fr : Option Nat} {k n : Nat} {a b c e o : Expr} {es : List Expr} {xa xb xe xk xz : XE} {xt : XT} {xr xs xd : XS} {ra : XA} {xi xj : XI} {pos p p2 p3 apos cpos pos' : Pos} {x : Str} {st : Stmt}
/-- a if t else b, new lists both -/
def fIf (t : XT) (xi xj : XI) : XI := fun ρ os => (t ρ os).bind fun p => if p.1 = true then xi ρ p.2 else xj ρ p.2
theorem pxf_if (hc : PXT X c xt) (ha : PXF X a xi) (hb : PXF X b xj) : PXF X (.IfExp c a b pos) (fIf xt xi xj) := pe_imp (pe_ifExp hc ha hb) fun σ H Q q => by
  obtain ⟨as, ρ, os, H0, d, os', n, hx, k⟩ := q
  unfold fIf at hx
  cases h1 : xt ρ os with
  | none => rw [h1] at hx; cases hx
  | some p =>
    obtain ⟨c, os1⟩ := p
    rw [h1, Option.bind_some] at hx
    refine ⟨as, ρ, os, H0, c, os1, n, h1, fun H0' H' n1 g1 => ?_⟩
    have back : ∀ {q : Addr}, H' q = none → H q = none := fun {q} hq => by
      cases z : H q with
      | none => rfl
      | some u => exact absurd hq (g1.kp q (by rw [z]; simp))
    cases c with
    | true => exact ⟨as, ρ, os1, H0', d, os', n1, by simpa using hx, fun q vs H2 H2' hq n2 g2 h2 h3 h4 r => k q vs H2 H2' (back hq) n2 (g1.tr g2) h2 h3 h4 r⟩
    | false => exact ⟨as, ρ, os1, H0', d, os', n1, by simpa using hx, fun q vs H2 H2' hq n2 g2 h2 h3 h4 r => k q vs H2 H2' (back hq) n2 (g1.tr g2) h2 h3 h4 r⟩
/-- e[i], e a new object of one's own -/
theorem pxs_ix {xi : XE} (ha : PXS X a xs) (hb : PX X b xi) (hs : PlainIx b := by exact fun _ _ => rfl) : PXS X (.Subscript a b pos) (xrIx xs xi) := pe_imp (pe_ix ix_seq ha hb hs) fun σ H Q q => by
  obtain ⟨as, ρ, os, H0, d, os', n, hx, k⟩ := q
  unfold xrIx at hx
  cases h1 : xs ρ os with
  | none => rw [h1] at hx; cases hx
  | some p =>
    obtain ⟨s, os1⟩ := p
    rw [h1, Option.bind_some] at hx
    simp only at hx
    cases h2 : xi ρ os1 with
    | none => rw [h2] at hx; cases hx
    | some q =>
      obtain ⟨i, os2⟩ := q
      rw [h2, Option.bind_some] at hx
      simp only at hx
      cases h3 : ixV os2 s i with
      | none => rw [h3] at hx; cases hx
      | some z =>
        rw [h3] at hx
        cases hx
        refine ⟨as, ρ, os, H0, s, os1, n, h1, fun v as1 H1 H1' ex1 n1 g1 r1 => ⟨as1, ρ, os1, H1, i, _, n1, h2, fun u H2 H2' n2 g2 r2 => ?_⟩⟩
        have r3 := r1.mono g2.e0
        clear r1
        have fin := fun w (h : ArgOk X.K as1 H2 w d) => k w as1 H2 H2' ex1 n2 (g1.trans g2 ex1.mem) h
        unfold ixV at h3
        split at h3
        · rename_i y
          cases h4 : ixD y i with
          | none => rw [h4] at h3; cases h3
          | some z2 =>
            rw [h4] at h3
            cases h3
            have r1 : Da X.K H2 v y := r3
            cases r2 with
            | int j =>
              cases r1 with
              | lst l1 l2 =>
                obtain ⟨w, l3, l4⟩ := l2.atI h4
                exact .inl ⟨_, _, j, w, rfl, rfl, ex_l n2.sub l1, l3, fin w l4⟩
              | tup l1 l2 =>
                obtain ⟨w, l3, l4⟩ := l2.atI h4
                exact .inr (.inl ⟨_, _, j, w, rfl, rfl, SqT.of (n2.sub _ _ l1), l3, fin w l4⟩)
              | str z =>
                simp only [ixD] at h4
                split at h4
                · rename_i hz
                  cases h5 : atI z.cps.toList j with
                  | none => rw [h5] at h4; cases h4
                  | some c =>
                    rw [h5] at h4
                    cases h4
                    exact .inr (.inr ⟨z, j, c, rfl, rfl, hz, h5, fin _ (show Da _ _ _ _ from .str _)⟩)
                · cases h4
              | _ => cases h4
            | _ => cases r1 <;> cases h4
        · rename_i j
          cases r2
          obtain ⟨ad, e1, rfl⟩ := r3
          split at h3
          · rename_i c hc
            cases h4 : atI c j with
            | none => rw [h4] at h3; cases h3
            | some z2 =>
              rw [h4] at h3
              cases h3
              obtain ⟨q1, vs, q2, q3⟩ := n2.ow.l _ ad _ e1 hc
              obtain ⟨w, l3, l4⟩ := q3.atI h4
              exact .inl ⟨_, _, j, w, rfl, rfl, SqL.of q2, l3, fin w l4⟩
          · rename_i c hc
            obtain ⟨q1, ho, q2, q3⟩ := n2.ow.at_ _ ad _ e1 hc
            obtain ⟨vs, rfl, r⟩ := q3.r_of
            obtain ⟨w, l3, l4⟩ := args_atI r h3
            exact .inl ⟨_, _, j, w, rfl, rfl, SqL.of q2, l3, fin w l4⟩
          · rename_i c hc
            obtain ⟨q1, ho, q2, q3⟩ := n2.ow.at_ _ ad _ e1 hc
            obtain ⟨vs, rfl, r⟩ := q3.t_of
            obtain ⟨w, l3, l4⟩ := args_atI r h3
            exact .inr (.inl ⟨_, _, j, w, rfl, rfl, SqT.of q2, l3, fin w l4⟩)
          · cases h3
        · cases h3
/-! ### handing back an object of one's own -/
/-- return e, e a list of data of one's own that was made here: a new list -/
def sRetV (n0 : Nat) (xs : XS) : SE := fun ρ os => (xs ρ os).bind fun p => match p.1 with
  | .o j => if n0 ≤ j then match p.2[j]? with
    | some (some (.l ds)) => some (.rt (.list ds) (p.2.set j none))
    | _ => none
    else none
  | _ => none
theorem psx_retV {n0 : Nat} (he : PXS X e xs) : PSX X W (some n0) (.Return (some e) pos) (sRetV n0 xs) := ps_imp (ps_ret he) fun D σ H q => by
  obtain ⟨as0, Hs, as, ρ, os, H0, o, bs0, n, hx, k⟩ := q
  unfold sRetV at hx
  cases h1 : xs ρ os with
  | none => rw [h1] at hx; cases hx
  | some p =>
    obtain ⟨s, os1⟩ := p
    rw [h1, Option.bind_some] at hx
    cases s with
    | o j =>
      simp only at hx
      split at hx
      · rename_i hj
        split at hx
        · rename_i ds h4
          cases hx
          obtain ⟨ds', e0, k⟩ := k
          cases e0
          refine ⟨as, ρ, os, H0, _, _, n, h1, fun v as1 H1 H1' ex1 n1 g1 r1 => ?_⟩
          obtain ⟨adr, e1, rfl⟩ := r1
          obtain ⟨q1, vs, q2, q3⟩ := n1.ow.l j adr _ e1 h4
          have b1 := bs0.step ex1 g1.kp
          refine k adr vs as1 H1 H1' ?_ ex1 ⟨n1.ow.nd, by rw [List.length_set]; exact n1.ow.len, n1.ow.trk, fun m b es h1 h5 => ?_⟩ g1 q1 q2 q3
          · obtain ⟨bb, rfl, hb⟩ := b1.ex
            have hl := b1.len n0 rfl
            rw [List.getElem?_append_right (by omega)] at e1
            exact hb adr (List.mem_of_getElem? e1)
          · by_cases z : j = m
            · subst z
              rw [List.getElem?_set_self (List.getElem?_eq_some_iff.mp h4).1] at h5
              cases h5
            · rw [List.getElem?_set_ne z] at h5
              exact n1.ow.at_ m b es h1 h5
        · cases hx
      · cases hx
    | _ => cases hx
/-- return e, as it is -/
def sRetS (xs : XS) : SE := fun ρ os => (xs ρ os).map fun p => .rv p.1 p.2
theorem psx_retS (he : PXS X e xs) : PSX X W fr (.Return (some e) pos) (sRetS xs) := ps_imp (ps_ret he) fun D σ H q => by
  obtain ⟨as0, Hs, as, ρ, os, H0, o, bs0, n, hx, k⟩ := q
  unfold sRetS at hx
  cases h1 : xs ρ os with
  | none => rw [h1] at hx; cases hx
  | some p =>
    rw [h1] at hx
    cases hx
    exact ⟨as, ρ, os, H0, p.1, p.2, n, h1, fun v as1 H1 H1' ex1 n1 g1 r1 => k v as1 H1 H1' ex1 n1.ow g1 r1⟩
abbrev XMS := List Sl → Os → Option (Sl × Os)
/-- the promise of a def that hands back an object of one's own -/
def spS (K : PySem.W.Frag) (n : Nat) (M : XMS) : Sp := fun vs H Q _ => vs.length = n ∧ ∃ as ss os H0 s os', Ex H0 H ∧ Own K as os H0 H ∧ ArgsOk K as H0 vs ss ∧ M ss os = some (s, os') ∧
  ∀ v as' H0' H', Exs as H as' → Own K as' os' H0' H' → Gr as H0 H H0' H' → ArgOk K as' H0' v s → Q v H'
def mOfS (n N : Nat) (s : SE) : XMS := fun ss os => if ss.length = n then (s (ss ++ List.replicate (N - n) .u) os).bind fun o => match o with
  | .rv s w => some (s, w)
  | .rt d w => some (.d d, w)
  | .nx _ w => some (.d .none, w)
  | _ => none
  else none
theorem fn_s {P : Program} {w : World} {K : PySem.W.Frag} {mg : Str → Option Value} {base : Heap} {x qual : Str} {st : Stmt} {f : Addr} {fd : FuncData} {N ps : List Str} {k : Nat} {sM : SE} (F : Fun K x qual st f fd) (S : FnScope N ps (defScope st))
    (hbody : ∀ (W : WX) (cdv : Value) (A : Around) (outer : List Env) (s : Shared) (H : Hp) (E : XK), Rm k (A.deeper (envOfC qual (defScope st) s.heap.objs.size f cdv)) →
      PSXs (cxOf (L2.CX P w) P w K mg base N qual (defScope st) f cdv A outer s H E).nox W none (defBody st) sM) : FnG P w K mg base (k + 1) f fd ps.length ps (spS K ps.length (mOfS ps.length N.length sM)) := by
  refine fn_g F S rfl (fun vs H Q E h => h.1) fun cdv A outer s H vs Q E hr h => ⟨_, hbody (fun _ _ _ _ => True) cdv A outer s H E hr, ?_⟩
  obtain ⟨hlen, as, ss, os, H0, d, os', h1, h2, h3, h4, h5⟩ := h
  have hpl : ps.length ≤ N.length := by have := congrArg List.length S.pre; rw [List.length_take] at this; omega
  unfold mOfS at h4
  split at h4
  · rename_i hn
    cases q : sM (ss ++ List.replicate (N.length - ps.length) .u) os with
    | none => rw [q] at h4; cases h4
    | some o =>
      rw [q, Option.bind_some] at h4
      refine ⟨as, H, as, _, os, H0, o, bs_start, en_start h1 h2 h3 hn hpl, q, ?_⟩
      cases o with
      | rv s2 w2 =>
        cases h4
        exact fun v as' H0' H' e2 n2 g2 r2 => h5 v as' H0' H' e2 n2 g2 r2
      | rt d2 w2 =>
        cases h4
        exact fun v as' H0' H' e2 n2 g2 r2 => h5 v as' H0' H' e2 n2 g2 r2
      | nx r2 w2 =>
        cases h4
        exact fun as' σ' H0' H' e2 n2 g2 => h5 .non as' H0' H' e2 n2.ow g2 (show Da _ _ _ _ from .non)
      | _ => cases h4
  · cases h4
def xsFn (M : XMS) (ra : XA) : XS := fun ρ os => (ra ρ os).bind fun p => M p.1 p.2
theorem En.callS {K : PySem.W.Frag} {as as' : List Addr} {ρ : List Sl} {os os' : Os} {σ : L2.St} {H0 H H0' H' : Hp} (n : En K as ρ os σ H0 H) (e : Exs as H as') (w : Own K as' os' H0' H') (g : Gr as H0 H H0' H') : En K as' ρ os' σ H0' H' :=
  ⟨g.sub, n.len, fun i x h => by
    obtain ⟨v, e1, r⟩ := n.dat i x h
    exact ⟨v, e1, Da.mono g.e0 _ _ r⟩, fun i j h => by
    obtain ⟨a, h1, h2⟩ := n.ref i j h
    obtain ⟨bs, rfl, _⟩ := e
    exact ⟨a, by rw [List.getElem?_append_left (List.getElem?_eq_some_iff.mp h1).1]; exact h1, h2⟩, w⟩
theorem pxs_fn {g : Addr} {fd : FuncData} {ps : List Str} {M : XMS} {m : Nat} (F : FnG X.prog X.w X.K X.mg X.base k g fd m ps (spS X.K m M)) (hr : Rm k X.A) (hg : Gl X x) (hm : X.mg x = some (.ref g)) (hk : PySem.W.keepIn X.K (.ref g) = true) (hb : Binds X.K fd ps []) (ha : PXAS X (e :: es) ra)
    (hl : ∀ ρ os ss os', ra ρ os = some (ss, os') → ss.length = m) (hdb : (x == ("__debug__" : Str)) = false := by decide) (he : starEach (e :: es) X.env = (false, eval e X.env) :: starEach es X.env := by rfl) (hpl : (backTo pos (starEach es X.env)).any (·.1) = false := by rfl) :
    PXS X (.Call (.Name x p) (e :: es) [] pos) (xsFn M ra) := pe_imp (pe_callG F hr hg hm hk hb ha hdb he hpl) fun σ H Q q => by
  obtain ⟨as, ρ, os, H0, d, os', n0, hx, k⟩ := q
  unfold xsFn at hx
  cases h1 : ra ρ os with
  | none => rw [h1] at hx; cases hx
  | some p =>
    obtain ⟨ss, os1⟩ := p
    rw [h1, Option.bind_some] at hx
    exact ⟨as, ρ, os, H0, ss, os1, n0, h1, fun vs as1 H1 H1' e1 n1 g1 r1 => ⟨by rw [args_len r1]; exact hl _ _ _ _ h1, as1, ss, os1, H1, d, os', n1.sub, n1.ow, r1, hx, fun v as2 H2 H2' e2 w2 g2 r2 => k v as2 H2 H2' (e1.trans e2 g1.kp) (n0.callS (e1.trans e2 g1.kp) w2 (g1.trans g2 e1.mem)) (g1.trans g2 e1.mem) r2⟩⟩
/-- a list of one's own cut: a new one -/
def xsSl (xr : XS) (lo hi : XO) : XS := fun ρ os => (xr ρ os).bind fun p => (lo ρ p.2).bind fun l => (hi ρ l.2).bind fun u => match p.1 with
  | .o j => match u.2[j]? with
    | some (some (.l c)) => some (.o u.2.length, u.2 ++ [some (.l (cutD c l.1 u.1))])
    | some (some (.r c)) => some (.o u.2.length, u.2 ++ [some (.r (cutD c l.1 u.1))])
    | _ => none
  | _ => none
theorem argsOk_take {K : PySem.W.Frag} {as : List Addr} {H : Hp} : ∀ {vs : List V} {ss : List Sl} (n : Nat), ArgsOk K as H vs ss → ArgsOk K as H (vs.take n) (ss.take n)
  | _, _, 0, _ => True.intro
  | [], [], _ + 1, _ => True.intro
  | _ :: _, _ :: _, n + 1, h => ⟨h.1, argsOk_take n h.2⟩
  | [], _ :: _, _ + 1, h => h.elim
  | _ :: _, [], _ + 1, h => h.elim
theorem argsOk_drop {K : PySem.W.Frag} {as : List Addr} {H : Hp} : ∀ {vs : List V} {ss : List Sl} (n : Nat), ArgsOk K as H vs ss → ArgsOk K as H (vs.drop n) (ss.drop n)
  | _, _, 0, h => h
  | [], [], _ + 1, _ => True.intro
  | _ :: _, _ :: _, n + 1, h => argsOk_drop n h.2
  | [], _ :: _, _ + 1, h => h.elim
  | _ :: _, [], _ + 1, h => h.elim
theorem argsOk_cutD {K : PySem.W.Frag} {as : List Addr} {H : Hp} {vs : List V} {ss : List Sl} (h : ArgsOk K as H vs ss) (lo hi : Option Int) : ArgsOk K as H (cutV vs lo hi) (cutD ss lo hi) := by
  unfold cutV cutD
  rw [args_len h]
  exact argsOk_take _ (argsOk_drop _ h)
theorem pxs_slice {lo hi : Option Expr} {xl xh : XO} (he : PXV X e xr) (hl : PXO X lo xl) (hu : PXO X hi xh) : PXS X (.Subscript e (.Slice lo hi none p2) pos) (xsSl xr xl xh) := pe_imp (pe_slice sl_list he hl hu) fun σ H Q q => by
  obtain ⟨as, ρ, os, H0, d, os', n, hx, k⟩ := q
  unfold xsSl at hx
  cases h1 : xr ρ os with
  | none => rw [h1] at hx; cases hx
  | some p =>
    obtain ⟨s, os1⟩ := p
    rw [h1, Option.bind_some] at hx
    simp only at hx
    cases h2 : xl ρ os1 with
    | none => simp only [h2] at hx; cases hx
    | some l =>
      simp only [h2, Option.bind_some] at hx
      cases h3 : xh ρ l.2 with
      | none => rw [h3] at hx; cases hx
      | some u =>
        rw [h3, Option.bind_some] at hx
        cases s with
        | o j =>
          simp only at hx
          refine ⟨as, ρ, os, H0, _, os1, n, h1, fun v H1 H1' n1 g1 r1 => ⟨as, ρ, os1, H1, l.1, l.2, n1, h2, fun H2 H2' n2 g2 => ⟨as, ρ, l.2, H2, u.1, u.2, n2, h3, fun H3 H3' n3 g3 => ?_⟩⟩⟩
          obtain ⟨ad, e1, rfl⟩ := r1
          have gg := (g1.tr g2).tr g3
          split at hx
          · rename_i c hc
            cases hx
            obtain ⟨q1, vs, q2, q3⟩ := n3.ow.l _ ad _ e1 hc
            refine ⟨ad, vs, rfl, SqL.of q2, fun q hq => ?_⟩
            obtain ⟨n4, g4, e4⟩ := n3.newOb (ob := .l (cutD c l.1 u.1)) (ho := .lst (cutV vs l.1 u.1)) hq (q3.cut _ _)
            have hq0 : H q = none := by
              cases z : H q with
              | none => rfl
              | some u => exact absurd hq (gg.kp q (by rw [z]; simp))
            exact k _ _ _ _ (exs_one hq0) n4 (gg.tr g4) ⟨q, e4, rfl⟩
          · rename_i c hc
            cases hx
            obtain ⟨q1, ho, q2, q3⟩ := n3.ow.at_ _ ad _ e1 hc
            obtain ⟨vs, rfl, r⟩ := q3.r_of
            refine ⟨ad, vs, rfl, SqL.of q2, fun q hq => ?_⟩
            obtain ⟨n4, g4, e4⟩ := n3.newOb (ob := .r (cutD c l.1 u.1)) (ho := .lst (cutV vs l.1 u.1)) hq (argsOk_cutD r _ _)
            have hq0 : H q = none := by
              cases z : H q with
              | none => rfl
              | some u => exact absurd hq (gg.kp q (by rw [z]; simp))
            exact k _ _ _ _ (exs_one hq0) n4 (gg.tr g4) ⟨q, e4, rfl⟩
          · cases hx
        | _ => cases hx
/-! d.get(k, z) -/
def xGetD (xd : XS) (xk xz : XE) : XE := fun ρ os => (xd ρ os).bind fun p => (obAt p.2 p.1).bind fun _ => (xk ρ p.2).bind fun q => (xz ρ q.2).bind fun z => (obAt z.2 p.1).bind fun ob => (getO ob.2 q.1).map fun r => (r.getD z.1, z.2)
theorem isD_of {K : PySem.W.Frag} {as : List Addr} {H0 H : Hp} {a : Addr} {o : HO} {ob : Ob} {d : PyData} {r : Option PyData} (h : H a = some o) (c : Cont K as H0 o ob) (e : getO ob d = some r) : IsD H a := by
  cases ob with
  | k ps =>
    obtain ⟨kvs, rfl, _⟩ := c.k_of
    exact .inl ⟨kvs, .inl h⟩
  | T ps =>
    obtain ⟨kvs, rfl, _⟩ := c.T_of
    exact .inr ⟨kvs, .inl h⟩
  | _ => cases e
def isDict : Ob → Bool
  | .k _ => true
  | .T _ => true
  | _ => false
def xGet2 (xd : XS) (xk xz : XE) : XE := fun ρ os => (xd ρ os).bind fun p => (obAt p.2 p.1).bind fun ob => if isDict ob.2 = true then xGetD xd xk xz ρ os else none
theorem px_getD (hu : X.A.units + 1 < cLine) (hd : PXV X a xd) (hk : PX X b xk) (hz : PX X c xz) (m : M2 X a "get" apos b c cpos := by exact ⟨rfl, rfl, rfl, rfl⟩) : PX X (.Call (.Attribute a "get" apos) [b, c] [] cpos) (xGet2 xd xk xz) := pe_imp (pe_dget2 hu hd hk hz m) fun σ H Q q => by
  obtain ⟨as, ρ, os, H0, d, os', n, hx, k⟩ := q
  unfold xGet2 xGetD at hx
  cases h1 : xd ρ os with
  | none => rw [h1] at hx; cases hx
  | some p =>
    obtain ⟨s, os1⟩ := p
    simp only [h1, Option.bind_some] at hx
    cases h0 : obAt os1 s with
    | none => simp only [h0] at hx; cases hx
    | some ob0 =>
      obtain ⟨j0, ob0⟩ := ob0
      simp only [h0, Option.bind_some] at hx
      split at hx
      · rename_i hdict
        cases h2 : xk ρ os1 with
        | none => rw [h2] at hx; cases hx
        | some q =>
          obtain ⟨y, os2⟩ := q
          rw [h2, Option.bind_some] at hx
          simp only at hx
          cases h3 : xz ρ os2 with
          | none => rw [h3] at hx; cases hx
          | some z =>
            obtain ⟨z, os3⟩ := z
            rw [h3, Option.bind_some] at hx
            simp only at hx
            cases h4 : obAt os3 s with
            | none => rw [h4] at hx; cases hx
            | some ob1 =>
              obtain ⟨j1, ob1⟩ := ob1
              rw [h4, Option.bind_some] at hx
              simp only at hx
              cases h5 : getO ob1 y with
              | none => rw [h5] at hx; cases hx
              | some r =>
                rw [h5] at hx
                cases hx
                obtain ⟨rfl, h6⟩ := obAt_some h0
                obtain ⟨e7, h7⟩ := obAt_some h4
                cases e7
                refine ⟨as, ρ, os, H0, _, os1, n, h1, fun v H1 H1' n1 g1 r1 => ?_⟩
                obtain ⟨ad, e1, rfl⟩ := r1
                obtain ⟨q1, ho, q2, q3⟩ := n1.ow.at_ j0 ad _ e1 h6
                have isd : IsD H1' ad := by
                  cases ob0 with
                  | k ps =>
                    obtain ⟨kvs, rfl, _⟩ := q3.k_of
                    exact .inl ⟨kvs, .inl q2⟩
                  | T ps =>
                    obtain ⟨kvs, rfl, _⟩ := q3.T_of
                    exact .inr ⟨kvs, .inl q2⟩
                  | _ => cases hdict
                refine ⟨ad, rfl, isd, as, ρ, os1, H1, y, os2, n1, h2, fun w H2 H2' n2 g2 r2 => ⟨as, ρ, os2, H2, z, _, n2, h3, fun u H3 H3' n3 g3 r3 => ?_⟩⟩
                obtain ⟨p1, ho2, p2, p3⟩ := n3.ow.at_ j0 ad _ e1 h7
                obtain ⟨r', hg, hr⟩ := getO_ok n3.sub p2 p3 (r2.mono g3.e0) h5
                refine ⟨r', hg, ?_⟩
                rcases hr with ⟨z1, z2⟩ | ⟨x, v2, z1, z2, z3⟩
                · subst z1 z2
                  exact k u H3 H3' n3 ((g1.tr g2).tr g3) r3
                · subst z1 z2
                  exact k v2 H3 H3' n3 ((g1.tr g2).tr g3) z3
      · cases hx
end
end DL

set_option Elab.async false
set_option linter.all false
set_option maxRecDepth 100000
set_option maxHeartbeats 4000000
namespace DL
open PySem PySem.Spec PyProof.Rows L2 L2.DX Evl
/-! a, b, .. = e, f, ..: of anything -/
def setAll (ρ : List Sl) : List Nat → List Sl → List Sl
  | [], _ => ρ
  | j :: js, s :: ss => setAll (ρ.set j s) js ss
  | _ :: _, [] => ρ
def setAllσ (σ : L2.St) : List Nat → List V → L2.St
  | [], _ => σ
  | j :: js, v :: vs => setAllσ (σ.set j (some v)) js vs
  | _ :: _, [] => σ
theorem En.setAll {K : PySem.W.Frag} {as : List Addr} {os : Os} {H0 H : Hp} : ∀ {js : List Nat} {vs : List V} {ss : List Sl} {ρ : List Sl} {σ : L2.St}, En K as ρ os σ H0 H → ArgsOk K as H0 vs ss → En K as (DL.setAll ρ js ss) os (setAllσ σ js vs) H0 H
  | [], _, _, _, _, n, _ => by unfold DL.setAll setAllσ; exact n
  | _ :: _, [], [], _, _, n, _ => n
  | j :: js, v :: vs, s :: ss, _, _, n, r => En.setAll (js := js) (n.setV j r.1) r.2
  | _ :: _, [], _ :: _, _, _, _, r => r.elim
  | _ :: _, _ :: _, [], _, _, _, r => r.elim
theorem args_length {K : PySem.W.Frag} {as : List Addr} {H0 : Hp} : ∀ {vs : List V} {ss : List Sl}, ArgsOk K as H0 vs ss → vs.length = ss.length
  | [], [], _ => rfl
  | _ :: _, _ :: _, r => by rw [List.length_cons, List.length_cons, args_length r.2]
  | [], _ :: _, r => r.elim
  | _ :: _, [], r => r.elim
section
variable {X : Cx} {W : WX} {fr : Option Nat} {st : Stmt} {ra : XA} {es tgs : List Expr} {pos p1 p2 : Pos}
def sTupV (js : List Nat) (ra : XA) : SE := fun ρ os => (ra ρ os).bind fun p => if p.1.length = js.length then some (.nx (setAll ρ js p.1) p.2) else none
theorem to_tupV {K : PySem.W.Frag} {js : List Nat} {D : Ends} {σ : L2.St} {H : Hp} (q : tsO fr K W (sTupV js ra) D σ H) : taS K ra σ H fun vs H1 => vs.length = js.length ∧ D.nx (setAllσ σ js vs) H1 := by
  obtain ⟨as0, Hs, as, ρ, os, H0, o, bs0, n, hx, k⟩ := q
  unfold sTupV at hx
  cases h1 : ra ρ os with
  | none => rw [h1] at hx; cases hx
  | some p =>
    obtain ⟨ss, os1⟩ := p
    rw [h1, Option.bind_some] at hx
    simp only at hx
    split at hx
    · rename_i hl
      cases hx
      exact ⟨as, ρ, os, H0, ss, os1, n, h1, fun vs as' H0' H' e2 n1 g1 r1 => ⟨(args_length r1).trans hl, k as' _ H0' H' e2 (n1.setAll r1) g1⟩⟩
    · cases hx
theorem psx_tup2 {i j : Nat} (h : PS X st (tPar i j (taS X.K ra))) : PSX X W fr st (sTupV [i, j] ra) := ps_imp h fun D σ H q => by
  obtain ⟨as, ρ, os, H0, ss, os', n, hx, k⟩ := to_tupV q
  refine ⟨as, ρ, os, H0, ss, os', n, hx, fun vs as' H0' H' e2 n1 g1 r1 => ?_⟩
  obtain ⟨hl, hd⟩ := k vs as' H0' H' e2 n1 g1 r1
  match vs, hl, hd with
  | [v, w], _, hd => exact ⟨v, w, rfl, hd⟩
theorem psx_tup3 {i j l : Nat} (h : PS X st (tPar3 i j l (taS X.K ra))) : PSX X W fr st (sTupV [i, j, l] ra) := ps_imp h fun D σ H q => by
  obtain ⟨as, ρ, os, H0, ss, os', n, hx, k⟩ := to_tupV q
  refine ⟨as, ρ, os, H0, ss, os', n, hx, fun vs as' H0' H' e2 n1 g1 r1 => ?_⟩
  obtain ⟨hl, hd⟩ := k vs as' H0' H' e2 n1 g1 r1
  match vs, hl, hd with
  | [v, w, u], _, hd => exact ⟨v, w, u, rfl, hd⟩
def gsN : List Nat → TGs
  | [] => gNil
  | j :: js => gCons (gName j) (gsN js)
theorem gsN_of {H : Hp} {Q : L2.St → Hp → Prop} : ∀ {js : List Nat} {vs : List V} {σ : L2.St}, vs.length = js.length → Q (setAllσ σ js vs) H → gsN js vs σ H Q
  | [], [], _, _, q => ⟨rfl, q⟩
  | _ :: _, _ :: _, _, l, q => ⟨_, _, rfl, gsN_of (by simpa using l) q⟩
  | [], _ :: _, _, l, _ => by simp at l
  | _ :: _, [], _, l, _ => by simp at l
theorem psx_tupN {js : List Nat} {kk : Nat} (hc : X.calm = true) (ha : PXAS X es ra) (hg : PGs X tgs (gsN js)) (hj : js.length ≤ sizeLine) (hn : (assignEach tgs X.env).length = js.length := by rfl) (hst : (assignEach tgs X.env).findIdx? (·.1) = none := by rfl)
    (hs : swapsWithSole [.Tuple tgs kk p1] (.Tuple es kk p2) pos.line X.env = pure false := by rfl) (hw : swappedStores [.Tuple tgs kk p1] (.Tuple es kk p2) X.env = pure none := by rfl)
    (h1 : (assignEach [.Tuple tgs kk p1] X.env).map (·.2) = [assign (.Tuple tgs kk p1) X.env] := by rfl) :
    PSX X W fr (.Assign [.Tuple tgs kk p1] (.Tuple es kk p2) pos) (sTupV js ra) := ps_imp (ps_asg (pe_tup ha) (pg_tup (n := js.length) hc hg hn hst) hs hw h1) fun D σ H q => by
  obtain ⟨as, ρ, os, H0, ss, os', n, hx, k⟩ := to_tupV q
  refine ⟨as, ρ, os, H0, ss, os', n, hx, fun vs as' H0' H' e2 n1 g1 r1 => ?_⟩
  have hk := fun (z : Hp) (hz : En X.K as' ρ os' σ H0' z) (gz : Gr as H0 H H0' z) => k vs as' H0' z e2 hz gz r1
  refine ⟨by rw [(hk H' n1 g1).1]; exact hj, fun p hp => ?_⟩
  have h0 : H0' p = none := fresh_back n1.sub hp
  have nD : p ∉ as' := fun z => n1.ow.trk p z hp
  have hn : H p = none := by
    cases z : H p with
    | none => rfl
    | some u => exact absurd hp (g1.kp p (by rw [z]; simp))
  obtain ⟨hl, hd⟩ := hk _ (n1.away (H' := upd H' p (.tup vs)) nD (fun a h => upd_ne h) (by rw [upd_same]; simp) h0) (gr_upd g1 hn h0)
  exact ⟨p, vs, rfl, SqT.of upd_same, hl, gsN_of hl hd⟩
end
/-! comprehensions over a list of one's own that is made there -/
section
variable {X : Cx} {elt tg iter : Expr} {pos : Pos} {xs : XS} {g : XGL} {js : List Nat}
def lcLS (xs : XS) (g : XGL) (tt : XT) (te : XE) (vs : List Nat) : XI := fun ρ os => (xs ρ os).bind fun p => match p.1 with
  | .o k => (lenO p.2 k).bind fun n => (lcLive k g tt te (wipeR ρ vs) (n + 1) 0 [] p.2).bind fun q => (cutW os.length q.2).map fun w => (q.1, w)
  | _ => none
theorem to_lcLS {K : PySem.W.Frag} {tt : XT} {te : XE} {vs : List Nat} (hj : ∀ j ∈ js, j ∈ vs) {σ : L2.St} {H : Hp} {Q : VK} (q : teF K (lcLS xs g tt te vs) σ H Q) : tLc (iList K (teS K xs)) (gLO K g js) (ttO K tt) (teO K te) vs σ H Q := by
  obtain ⟨as, ρ, os, H0, ds, os', n, hx, k⟩ := q
  unfold lcLS at hx
  cases h : xs ρ os with
  | none => rw [h] at hx; cases hx
  | some p =>
    obtain ⟨t, os1⟩ := p
    rw [h, Option.bind_some] at hx
    cases t with
    | o kk =>
      simp only at hx
      cases hl : lenO os1 kk with
      | none => rw [hl] at hx; cases hx
      | some n0 =>
        rw [hl, Option.bind_some] at hx
        cases hx0 : lcLive kk g tt te (wipeR ρ vs) (n0 + 1) 0 [] os1 with
        | none => rw [hx0] at hx; cases hx
        | some q9 =>
        obtain ⟨ds9, os9⟩ := q9
        rw [hx0, Option.bind_some] at hx
        simp only at hx
        cases hc9 : cutW os.length os9 with
        | none => rw [hc9] at hx; cases hx
        | some os8 =>
        rw [hc9] at hx
        cases hx
        refine ⟨as, ρ, os, H0, _, os1, n, h, fun v as' Ha Hb ee n1 g1 r1 => ?_⟩
        obtain ⟨ad, ek, rfl⟩ := r1
        obtain ⟨r0, e0⟩ := item_of_len hl
        have L0 := listAt n1 ek e0
        refine ⟨ad, rfl, ⟨_, SqL.of L0.choose_spec.1⟩, ?_⟩
        intro D hD
        have nD : D ∉ as' := fun z => n1.ow.trk D z hD
        have nDa : D ∉ as := fun z => by
          obtain ⟨bs, rfl, _⟩ := ee
          exact nD (List.mem_append_left _ z)
        have hadD : ad ≠ D := fun z => nD (by rw [← z]; exact List.mem_of_getElem? ek)
        refine ⟨fun i m H2 => ∃ acc osi H2' vacc, En K as' (wipeR ρ vs) osi (wipe σ vs) H2' H2 ∧ Gr as' Ha Hb H2' H2 ∧ H2' D = none ∧ H2 D = some (.lst vacc) ∧ DaAll K H2' vacc acc ∧ lcLive kk g tt te (wipeR ρ vs) m i acc osi = some (ds, os9),
          ⟨n0 + 1, [], os1, Ha, [], (n1.wipe vs).away nD (fun a h => upd_ne h) (by rw [upd_same]; simp) (fresh_back n1.sub hD), gr_upd (Gr.refl n1.sub) hD (fresh_back n1.sub hD), fresh_back n1.sub hD, upd_same, .nil, hx0⟩, ?_⟩
        rintro i m H2 ⟨acc, osi, H2', vacc, nI, gI, h2, h3, h4, hr⟩
        cases m with
        | zero => cases hr
        | succ m =>
          simp only [lcLive] at hr
          cases q0 : itemO osi kk i with
          | none => rw [q0] at hr; cases hr
          | some r =>
            rw [q0, Option.bind_some] at hr
            obtain ⟨ws, hv, hit⟩ := listAt nI ek q0
            have hq := hit i r q0
            cases r with
            | none =>
              cases hr
              have lo : as.length = os.length := n.ow.len
              rw [← lo] at hc9
              have nb := nI.back n1 gI.e0
              have nc : En K as ρ os' σ H2' H2 := ⟨nb.sub, nb.len, nb.dat, fun i2 k2 e2 => n.ref i2 k2 e2, Own.cut ee nb.ow hc9⟩
              refine .inl ⟨⟨ws, SqL.of hv, hq⟩, k D vacc H2' H2 ?_ nc (g1.trans gI ee.mem) h2 nDa h3 h4⟩
              cases z : H D with
              | none => rfl
              | some u => exact absurd hD (g1.kp D (by rw [z]; simp))
            | some t =>
              obtain ⟨v, hv2, ra⟩ := hq
              simp only at hr
              have hlt : i < ws.length := (List.getElem?_eq_some_iff.mp hv2).1
              refine .inr ⟨(walk_list (K := K) (a := ad) (xs := ws)).goes i H2 hlt (SqL.of hv), fun H3 => ∃ acc osi H2' vacc, En K as' (wipeR ρ vs) osi (wipe σ vs) H2' H3 ∧ Gr as' Ha Hb H2' H3 ∧ H2' D = none ∧ H3 D = some (.lst vacc) ∧ DaAll K H2' vacc acc ∧ lcLive kk g tt te (wipeR ρ vs) m (i + 1) acc osi = some (ds, os9),
                fun H3 p3 => ⟨m, Nat.lt_succ_self m, p3⟩, fun x H3 y => ?_⟩
              obtain ⟨e3, e4⟩ := (walk_list (K := K) (a := ad) (xs := ws)).yields i H2 x H3 hlt (SqL.of hv) y
              subst e3
              rw [hv2] at e4
              cases e4
              cases q1 : g t (wipeR ρ vs) with
              | none => rw [q1] at hr; cases hr
              | some ρ1 =>
                rw [q1, Option.bind_some] at hr
                refine ⟨as', wipeR ρ vs, osi, H2', t, ρ1, nI, ra, q1, fun σ4 n4 w4 => ⟨(w4 vs hj).trans wipe_wipe, ?_⟩⟩
                cases q2 : tt ρ1 osi with
                | none => rw [q2] at hr; cases hr
                | some p =>
                  obtain ⟨b, os5⟩ := p
                  rw [q2, Option.bind_some] at hr
                  simp only at hr
                  refine ⟨as', ρ1, osi, H2', b, os5, n4, q2, fun H5' H5 n5 g5 => ?_⟩
                  have D5 : H5 D = some (.lst vacc) := g5.e1 D _ nD h3
                  have D5' : H5' D = none := keep_none g5 nD h2 (by rw [h3]; simp)
                  have gA : Gr as' Ha Hb H5' H5 := gI.tr g5
                  cases b with
                  | false =>
                    simp only [Bool.false_eq_true, if_false] at hr ⊢
                    exact ⟨acc, os5, H5', vacc, n5.back nI g5.e0, gA, D5', D5, DaAll.mono g5.e0 _ _ h4, hr⟩
                  | true =>
                    simp only [if_true] at hr ⊢
                    cases q3 : te ρ1 os5 with
                    | none => rw [q3] at hr; cases hr
                    | some p =>
                      obtain ⟨yv, os6⟩ := p
                      rw [q3, Option.bind_some] at hr
                      simp only at hr
                      split at hr
                      · rename_i hz
                        refine ⟨as', ρ1, os5, H5', yv, os6, n5, q3, fun v H6' H6 n6 g6 r6 => ?_⟩
                        have D6 : H6 D = some (.lst vacc) := g6.e1 D _ nD D5
                        have D6' : H6' D = none := keep_none g6 nD D5' (by rw [D5]; simp)
                        have h46 : DaAll K H6' vacc acc := DaAll.mono (g5.e0.trans g6.e0) _ _ h4
                        refine ⟨vacc, D6, by rw [h46.len]; exact hz, acc ++ [yv], os6, H6', vacc ++ [v], ?_, gr_upd (gA.tr g6) hD D6', D6', upd_same, h46.app (.cons r6 .nil), hr⟩
                        exact (n6.back nI (g5.e0.trans g6.e0)).away nD (fun a h => upd_ne h) (by rw [upd_same]; simp) D6'
                      · cases hr
    | _ => cases hx
theorem pxf_lcLS {tt : XT} {te : XE} {ifs : List Expr} {scope : Scope} {own : List (Str × Nat)} (hc : X.calm = true) (hN : X.N.Nodup) (hi : PXS X iter xs) (ok : BlkOk X.N X.env.scope scope own)
    (hg : ∀ (s : Shared) (H : Hp) (C : Addr) (cl : List (Str × Addr)) (fp : List Addr), PGL (X.blk s H scope (compEnvC scope cl C X.env) fp) tg g js)
    (ht : ∀ (s : Shared) (H : Hp) (C : Addr) (cl : List (Str × Addr)) (fp : List Addr), PXTs (X.blk s H scope (compEnvC scope cl C X.env) fp) ifs tt)
    (he : ∀ (s : Shared) (H : Hp) (C : Addr) (cl : List (Str × Addr)) (fp : List Addr), PX (X.blk s H scope (compEnvC scope cl C X.env) fp) elt te)
    (hj : ∀ j ∈ js, j ∈ own.map (·.2)) (hs : ∀ x, foldedSetIterable iter X.env x = pure x := by intro _; rfl) : PXF X (.ListComp elt [⟨tg, iter, ifs, 0⟩] scope pos) (lcLS xs g tt te (own.map (·.2))) :=
  pe_imp (pe_lc hc hN (pi_list hi) ok hg ht he hs) fun _ _ _ q => to_lcLS hj q
end
/-! sorted(d.items()) as a new list -/
section
variable {X : Cx} {o : Expr} {xr : XS} {pos p apos cpos : Pos}
def fSortItems (xr : XS) : XI := fun ρ os => (xr ρ os).bind fun p => (obAt p.2 p.1).bind fun q => match q.2 with
  | .k ps => (pairsOf ps).map fun ns => ((sortP ns).map tupP, p.2)
  | _ => none
theorem pxf_sortItems (hc : X.calm = true) (hg : Gl X "sorted") (hm : X.mg "sorted" = none) (ho : PXV X o xr)
    (he : starEach [.Call (.Attribute o "items" apos) [] [] cpos] X.env = (false, eval (.Call (.Attribute o "items" apos) [] [] cpos) X.env) :: starEach [] X.env := by rfl) (hpl : (backTo pos (starEach [] X.env)).any (·.1) = false := by rfl)
    (hbase : attributeBase o "items" X.env (eval o X.env) = eval o X.env := by rfl) (hline : (apos.endLine == cpos.line) = true := by rfl) : PXF X (.Call (.Name "sorted" p) [.Call (.Attribute o "items" apos) [] [] cpos] [] pos) (fSortItems xr) :=
  pe_imp (pe_callB (cr_sortItK hc) hg hm bt_sorted (pa_cons (pe_bm0 PySem.F.plainAttrs_dict PySem.F.slot_dict_items PySem.F.type_dict_items mt_itemsK ho hbase hline) pa_nil he) (by decide) (by decide) he hpl) fun σ H Q q => by
    obtain ⟨as, ρ, os, H0, d, os', n, hx, k⟩ := q
    unfold fSortItems at hx
    cases h1 : xr ρ os with
    | none => rw [h1] at hx; cases hx
    | some p1 =>
      obtain ⟨s, os1⟩ := p1
      rw [h1, Option.bind_some] at hx
      simp only at hx
      cases h2 : obAt os1 s with
      | none => rw [h2] at hx; cases hx
      | some q2 =>
        obtain ⟨j, ob⟩ := q2
        rw [h2, Option.bind_some] at hx
        cases ob with
        | k ps =>
          simp only at hx
          cases h3 : pairsOf ps with
          | none => rw [h3] at hx; cases hx
          | some ns =>
            rw [h3] at hx
            cases hx
            obtain ⟨rfl, h4⟩ := obAt_some h2
            refine ⟨as, ρ, os, H0, _, _, n, h1, fun v H1 H1' n1 g1 r1 => ?_⟩
            obtain ⟨ad, e1, rfl⟩ := r1
            obtain ⟨q1, ho', q2, q3⟩ := n1.ow.at_ j ad _ e1 h4
            obtain ⟨kvs, rfl, r⟩ := q3.k_of
            have ek := pairs_rel r h3
            subst ek
            refine ⟨.inr (.inr (.inl ⟨rfl, .inl ⟨_, q2⟩⟩)), ad, _, rfl, rfl, q2, fun z hz => ?_⟩
            have hza : ad ≠ z := ne_of_none q2 hz
            refine ⟨z, ad, ns, rfl, upd_same, by rw [upd_ne hza]; exact q2, fun H' l zs kp hp hs hl hl2 ht => ?_⟩
            have em : zs.map (·.2) = sortP ns := sortP_uniq (hp.trans (sortP_perm ns).symm) hs (sortP_sorted ns)
            have kp1 : ∀ b o, H1' b = some o → H' b = some o := fun b o e => kp b o (by rw [upd_ne (ne_of_none e hz)]; exact e)
            have hnone : ∀ b, upd H1' z (itemsO z ad) b = none → H1' b = none := fun b hb => by
              by_cases y : b = z
              · rw [y, upd_same] at hb
                cases hb
              · rw [upd_ne y] at hb
                exact hb
            have hlz : l ∉ zs.map (fun (z : Addr × Int × Int) => z.1) := fun hm => by
              obtain ⟨y, hy, e⟩ := List.mem_map.mp hm
              obtain ⟨_, y2⟩ := ht y hy
              rw [e, hl2] at y2
              cases y2
            let H2 : Hp := fun b => match H1' b with
              | some _ => H1 b
              | none => if b ∈ zs.map (fun (z : Addr × Int × Int) => z.1) then H' b else none
            have e0 : Ex H1 H2 := fun b u e => by
              show (match H1' b with | some _ => H1 b | none => _) = some u
              rw [n1.sub b u e]
              exact e
            have g2 : Gr [] H1 H1' H2 H' := by
              refine ⟨e0, fun b u _ e => kp1 b u e, fun b u _ e hb => ?_, fun b hb => ?_, fun b u e => ?_⟩
              · have e : (match H1' b with | some _ => H1 b | none => if b ∈ zs.map (fun (z : Addr × Int × Int) => z.1) then H' b else none) = some u := e
                cases y : H1' b with
                | none => exact absurd y hb
                | some t => rw [y] at e; exact e
              · cases y : H1' b with
                | none => exact absurd y hb
                | some t => rw [kp1 b t y]; simp
              · have e : (match H1' b with | some _ => H1 b | none => if b ∈ zs.map (fun (z : Addr × Int × Int) => z.1) then H' b else none) = some u := e
                cases y : H1' b with
                | none =>
                  rw [y] at e
                  simp only at e
                  split at e
                  · exact e
                  · cases e
                | some t =>
                  rw [y] at e
                  exact kp1 b u (n1.sub b u e)
            have hl3 : H2 l = none := by
              show (match H1' l with | some _ => H1 l | none => if l ∈ zs.map (fun (z : Addr × Int × Int) => z.1) then H' l else none) = _
              rw [hnone l hl]
              simp only
              rw [if_neg hlz]
            have hn1 : H1' l = none := hnone l hl
            have hn0 : H l = none := by
              cases z : H l with
              | none => rfl
              | some u => exact absurd hn1 (g1.kp l (by rw [z]; simp))
            refine k l _ H2 H' hn0 (n1.grow g2) (g1.tr0 g2) hl3 (fun z => n1.ow.trk l z hn1) hl2 ?_
            rw [← em]
            refine da_tups zs fun y hy => ?_
            obtain ⟨y1, y2⟩ := ht y hy
            show (match H1' y.1 with | some _ => H1 y.1 | none => if y.1 ∈ zs.map (fun (z : Addr × Int × Int) => z.1) then H' y.1 else none) = _
            rw [hnone _ y1]
            simp only
            rw [if_pos (List.mem_map.mpr ⟨y, hy, rfl⟩)]
            exact y2
        | _ => cases hx
end
end DL

set_option Elab.async false
set_option linter.all false
set_option maxRecDepth 100000
set_option maxHeartbeats 4000000
namespace DL
open PySem PySem.Spec PyProof.Rows L2 L2.DX Evl
section
variable {X : Cx} {W : WX} {fr : Option Nat} {st : Stmt} {ra : XA} {e : Expr} {es tgs : List Expr} {pos p p1 p2 : Pos} {xr xs : XS} {x : Str} {k : Nat}
/-- an argument that may be one's own -/
def xaV (xr : XS) (r : XA) : XA := fun ρ os => (xr ρ os).bind fun p => (r ρ p.2).map fun q => (p.1 :: q.1, q.2)
theorem pxa_v (ha : PXV X e xr) (hr : PXA X es ra) (hs : starEach (e :: es) X.env = (false, eval e X.env) :: starEach es X.env := by rfl) : PXA X (e :: es) (xaV xr ra) := pa_imp (pa_cons ha hr hs) fun σ H Q q => by
  obtain ⟨as, ρ, os, H0, d, os', n, hx, k⟩ := q
  unfold xaV at hx
  cases h1 : xr ρ os with
  | none => rw [h1] at hx; cases hx
  | some p =>
    obtain ⟨s, os1⟩ := p
    rw [h1, Option.bind_some] at hx
    cases h2 : ra ρ os1 with
    | none => simp only [h2] at hx; cases hx
    | some q =>
      obtain ⟨ss, os2⟩ := q
      simp only [h2] at hx
      cases hx
      exact ⟨as, ρ, os, H0, s, os1, n, h1, fun v H1 H1' n1 g1 r1 => ⟨as, ρ, os1, H1, ss, _, n1, h2, fun vs H2 H2' n2 g2 r2 => k (v :: vs) H2 H2' n2 (g1.tr g2) ⟨r1.mono g2.e0, r2⟩⟩⟩
theorem xaV_len {m : Nat} (hr : ∀ ρ os ss os', ra ρ os = some (ss, os') → ss.length = m) (ρ : List Sl) (os : Os) (ss : List Sl) (os' : Os) (h : xaV xr ra ρ os = some (ss, os')) : ss.length = m + 1 := by
  unfold xaV at h
  cases h1 : xr ρ os with
  | none => rw [h1] at h; cases h
  | some p =>
    rw [h1, Option.bind_some] at h
    cases h2 : ra ρ p.2 with
    | none => rw [h2] at h; cases h
    | some q =>
      rw [h2] at h
      cases h
      rw [List.length_cons, hr _ _ _ _ h2]
theorem xaS_len {m : Nat} (hr : ∀ ρ os ss os', ra ρ os = some (ss, os') → ss.length = m) (ρ : List Sl) (os : Os) (ss : List Sl) (os' : Os) (h : xaS xs ra ρ os = some (ss, os')) : ss.length = m + 1 := xaV_len hr ρ os ss os' h
/-- f(..) where an argument is a new object; it gives a new list -/
def fFnG (M : XMF) (ra : XA) : XI := fun ρ os => (ra ρ os).bind fun p => (M p.1 p.2).bind fun q => (cutW os.length q.2).map fun w => (q.1, w)
theorem pxf_fnG {m : Nat} {g : Addr} {fd : FuncData} {ps : List Str} {M : XMF} (F : FnG X.prog X.w X.K X.mg X.base k g fd m ps (spF X.K m M)) (hr : Rm k X.A) (hg : Gl X x) (hm : X.mg x = some (.ref g)) (hk : PySem.W.keepIn X.K (.ref g) = true) (hb : Binds X.K fd ps []) (ha : PXAS X (e :: es) ra)
    (hl : ∀ ρ os ss os', ra ρ os = some (ss, os') → ss.length = m) (hdb : (x == ("__debug__" : Str)) = false := by decide) (he : starEach (e :: es) X.env = (false, eval e X.env) :: starEach es X.env := by rfl) (hpl : (backTo pos (starEach es X.env)).any (·.1) = false := by rfl) :
    PXF X (.Call (.Name x p) (e :: es) [] pos) (fFnG M ra) := pe_imp (pe_callG F hr hg hm hk hb ha hdb he hpl) fun σ H Q q => by
  obtain ⟨as, ρ, os, H0, d, os', n0, hx, k⟩ := q
  unfold fFnG at hx
  cases h1 : ra ρ os with
  | none => rw [h1] at hx; cases hx
  | some p =>
    obtain ⟨ss, os1⟩ := p
    rw [h1, Option.bind_some] at hx
    simp only at hx
    cases h2 : M ss os1 with
    | none => rw [h2] at hx; cases hx
    | some q =>
      obtain ⟨z, os2⟩ := q
      rw [h2, Option.bind_some] at hx
      simp only at hx
      cases h3 : cutW os.length os2 with
      | none => rw [h3] at hx; cases hx
      | some w =>
        rw [h3] at hx
        cases hx
        refine ⟨as, ρ, os, H0, ss, os1, n0, h1, fun vs as1 H1 H1' e1 n1 g1 r1 => ⟨by rw [args_len r1]; exact hl _ _ _ _ h1, as1, ss, os1, H1, _, os2, n1.sub, n1.ow, r1, h2, fun v ws H2 H2' hp w2 g2 r2 r3 r4 => ?_⟩⟩
        have gg : Gr as H0 H H2 H2' := g1.trans g2 e1.mem
        have w4 := w2.cut (as := as) (H := H) e1 (by rw [n0.ow.len]; exact h3)
        refine k v ws H2 H2' ?_ (n0.call w4 gg) gg r2 (fun z => ?_) r3 r4
        · cases z : H v with
          | none => rfl
          | some u => exact absurd hp (g1.kp v (by rw [z]; simp))
        · obtain ⟨bs, rfl, _⟩ := e1
          exact n1.ow.trk v (List.mem_append_left _ z) hp
theorem ps_lcFL {own : List (Str × Nat)} {xg : XGL} {js : List Nat} {tt : XT} {te : XE} {g : TG} (hj : ∀ j ∈ js, j ∈ own.map (·.2))
    (h : PS X st (tAsg (tLc (iList X.K (teR X.K xr)) (gLO X.K xg js) (ttO X.K tt) (teO X.K te) (own.map (·.2))) g)) : PS X st (tAsg (teF X.K (lcL xr xg tt te (own.map (·.2)))) g) := ps_impE h fun _ _ _ q => to_lcL hj q
theorem ps_lcFLS {own : List (Str × Nat)} {xg : XGL} {js : List Nat} {tt : XT} {te : XE} {g : TG} (hj : ∀ j ∈ js, j ∈ own.map (·.2))
    (h : PS X st (tAsg (tLc (iList X.K (teS X.K xs)) (gLO X.K xg js) (ttO X.K tt) (teO X.K te) (own.map (·.2))) g)) : PS X st (tAsg (teF X.K (lcLS xs xg tt te (own.map (·.2)))) g) := ps_impE h fun _ _ _ q => to_lcLS hj q
theorem Rm.u1 {k : Nat} {A : Around} (r : Rm k A) : A.units + 1 < cLine := by have := r.u65; omega
end
theorem walk_gz {ι : Type} {l : PySem.W.OpenLaw} {n k : Nat} {q : Program} {loose : List Str} {XP : (Str → Option Value) → Heap → Prop} {YP : World → Heap → Prop} {d : DefRec} {K : Params → PySem.W.Frag} {M : ι → XM} {x : Str}
    (hn : l.most = some n) (hn2 : n ≤ sizeLine) (hdf : d.params.defaults = []) (hr : Rm k callerA) (hY : ∀ (w : World) (h : Heap), YP w h → (K w.params).In h)
    (F : ∀ (w : World) (mg : Str → Option Value) (fa : Addr) (h : Heap), (K w.params).In h → h.Ns mainGlobals mg → mg d.name = some (.ref fa) →
      ∃ (z : ι) (fd : FuncData), (∀ (s : Shared) (u : Value), BindsTo s fd ⟨[u], []⟩ [(x, u)]) ∧ ∀ base : Heap, (K w.params).In base → base.Ns mainGlobals mg → FnG l.prog w (K w.params) mg base k fa fd 1 [x] (spM (K w.params) 1 (M z)))
    (hM : ∀ (z : ι) (ns : List Int), ns.length ≤ n → ∃ w', M z [.d (.list (ns.map PyData.int))] [] = some (.bool true, w')) :
    PySem.W.WalkO q loose XP YP l.row.toRowW d [] (fun f vs => PySem.call f vs) := by
  refine Att.attach_call hn hdf fun w s0 s1 mg mb fa o pm cd doc a vs ns G Y ho hd hcd hmg hobj hints hlen hg => ?_
  have KX := hY w _ Y
  obtain ⟨z, fd, hb, hF⟩ := F w mg fa _ KX G.T.g hmg
  exact end_g KX G.T.g G.T.b G.T.builtins G.T.nolimit hg hobj hints (Nat.le_trans hlen hn2) hr hF hb (hM z ns hlen)
end DL

set_option Elab.async false
set_option linter.all false
set_option maxRecDepth 100000
set_option maxHeartbeats 4000000
namespace DL
open PySem PySem.Spec PyProof.Rows L2 L2.DX Evl
section
variable {X : Cx} {W : WX} {fr : Option Nat} {st : Stmt} {ra : XA} {a b e o : Expr} {es tgs : List Expr} {pos p p1 p2 apos cpos : Pos} {xa xb xe xk : XE} {xr xs : XS} {xi : XI} {x : Str} {k : Nat}
/-! texts -/
/-- s[lo:hi] of a text -/
def xSlS (xe : XE) (lo hi : XO) : XE := fun ρ os => (xe ρ os).bind fun p => (lo ρ p.2).bind fun l => (hi ρ l.2).bind fun u => match p.1 with
  | .str z => if z.length ≤ sizeLine then some (.str (cutS z l.1 u.1), u.2) else none
  | _ => none
theorem px_sls {lo hi : Option Expr} {xl xh : XO} (he : PX X e xe) (hl : PXO X lo xl) (hu : PXO X hi xh) : PX X (.Subscript e (.Slice lo hi none p2) pos) (xSlS xe xl xh) := pe_imp (pe_slice sl_str he hl hu) fun σ H Q q => by
  obtain ⟨as, ρ, os, H0, d, os', n, hx, k⟩ := q
  unfold xSlS at hx
  cases h1 : xe ρ os with
  | none => rw [h1] at hx; cases hx
  | some p =>
    obtain ⟨d1, os1⟩ := p
    rw [h1, Option.bind_some] at hx
    cases h2 : xl ρ os1 with
    | none => simp only [h2] at hx; cases hx
    | some l =>
      simp only [h2, Option.bind_some] at hx
      cases h3 : xh ρ l.2 with
      | none => rw [h3] at hx; cases hx
      | some u =>
        rw [h3, Option.bind_some] at hx
        cases d1 with
        | str z =>
          simp only at hx
          split at hx
          · rename_i hz
            cases hx
            refine ⟨as, ρ, os, H0, _, os1, n, h1, fun v H0' H' n1 g1 r1 => ⟨as, ρ, os1, H0', l.1, l.2, n1, h2, fun H2' H2 n2 g2 => ⟨as, ρ, l.2, H2', u.1, u.2, n2, h3, fun H3' H3 n3 g3 => ?_⟩⟩⟩
            cases r1
            exact ⟨z, rfl, hz, k _ H3' H3 n3 ((g1.tr g2).tr g3) (.str _)⟩
          · cases hx
        | _ => cases hx
/-- s.join(e) -/
def xJoin (xa xb : XE) : XE := fun ρ os => (xa ρ os).bind fun p => (xb ρ p.2).bind fun q => match p.1, q.1 with
  | .str s, .list c => (strsOf c).bind fun ys => if (ys.map (·.length)).sum + ys.length * s.length ≤ 16777216 then some (.str (Txt.join s ys), q.2) else none
  | _, _ => none
theorem px_join (ho : PX X o xa) (he : PX X e xb) (hs : starEach [e] X.env = [(false, eval e X.env)] := by rfl) (hbase : attributeBase o "join" X.env (eval o X.env) = eval o X.env := by rfl) (hline : (apos.endLine == pos.line) = true := by rfl) :
    PX X (.Call (.Attribute o "join" apos) [e] [] pos) (xJoin xa xb) := pe_imp (pe_join ho he hs hbase hline) fun σ H Q q => by
  obtain ⟨as, ρ, os, H0, d, os', n, hx, k⟩ := q
  unfold xJoin at hx
  cases h1 : xa ρ os with
  | none => rw [h1] at hx; cases hx
  | some p =>
    obtain ⟨d1, os1⟩ := p
    rw [h1, Option.bind_some] at hx
    cases h2 : xb ρ os1 with
    | none => simp only [h2] at hx; cases hx
    | some q =>
      obtain ⟨d2, os2⟩ := q
      simp only [h2, Option.bind_some] at hx
      split at hx
      · rename_i s c
        cases h3 : strsOf c with
        | none => rw [h3] at hx; cases hx
        | some ys =>
          rw [h3, Option.bind_some] at hx
          split at hx
          · rename_i hz
            cases hx
            have e1 := strsOf_eq h3
            subst e1
            refine ⟨as, ρ, os, H0, _, os1, n, h1, fun v H0' H' n1 g1 r1 => ?_⟩
            cases r1
            refine ⟨⟨s, rfl⟩, as, ρ, os1, H0', _, _, n1, h2, fun w H2' H2 n2 g2 r2 => ?_⟩
            cases r2 with
            | lst h4 h5 =>
              have e2 := daS h5
              subst e2
              exact ⟨s, _, ys, rfl, rfl, .inl (ex_l n2.sub h4), hz, k _ H2' H2 n2 (g1.tr g2) (.str _)⟩
          · cases hx
      · cases hx
/-- s.count(e) -/
def cntS : PyData → PyData → Option PyData
  | .str s, .str c => some (.int (Txt.count s c))
  | _, _ => none
theorem px_count (ho : PX X o xa) (he : PX X e xb) (hs : starEach [e] X.env = [(false, eval e X.env)] := by rfl) (hbase : attributeBase o "count" X.env (eval o X.env) = eval o X.env := by rfl) (hline : (apos.endLine == pos.line) = true := by rfl) :
    PX X (.Call (.Attribute o "count" apos) [e] [] pos) (xOp cntS xa xb) := pe_imp (pe_m1 PySem.F.slot_str_count PySem.F.type_str_count mt_count ho he hs hbase hline) fun σ H Q q => by
  obtain ⟨as, ρ, os, H0, d, os', n, hx, k⟩ := q
  obtain ⟨d1, os1, d2, h1, h2, h3⟩ := xOp_some hx
  unfold cntS at h3
  split at h3
  · rename_i s c
    cases h3
    refine ⟨as, ρ, os, H0, _, os1, n, h1, fun v H0' H' n1 g1 r1 => ?_⟩
    cases r1
    refine ⟨⟨s, rfl⟩, as, ρ, os1, H0', _, _, n1, h2, fun w H2' H2 n2 g2 r2 => ?_⟩
    cases r2
    exact ⟨s, c, rfl, rfl, k _ H2' H2 n2 (g1.tr g2) (.int _)⟩
  · cases h3
/-! a dict of the module -/
def xKd (tbl : List (Str × PyData)) (xk : XE) : XE := fun ρ os => (xk ρ os).bind fun p => match p.1 with
  | .str z => (tbl.lookup z).map fun d => (d, p.2)
  | _ => none
def KdOk (K : PySem.W.Frag) (w : World) (a : Addr) (tbl : List (Str × PyData)) : Prop := ∀ z d, tbl.lookup z = some d → ∃ v, KDct K w a z v ∧ ∀ H, Da K H v d
theorem kd_nil {K : PySem.W.Frag} {w : World} {a : Addr} : KdOk K w a [] := fun z d h => by cases h
theorem kd_cons {K : PySem.W.Frag} {w : World} {a : Addr} {es : Array DictEntry} {n : Nat} {z : Str} {u : Value} {v : V} {d : PyData} {tbl : List (Str × PyData)} (hl : K.lookup a = some ⟨.type "dict", none, .dict es n, #[]⟩) (hk : PySem.W.KeysLit w.params es.toList) (hu : PySem.W.nsIn K a z = some (some u)) (r : RelV v u) (hd : ∀ H, Da K H v d) (t : KdOk K w a tbl) : KdOk K w a ((z, d) :: tbl) := fun y c h => by
  rw [List.lookup_cons] at h
  by_cases e : y = z
  · subst e
    simp at h
    subst h
    exact ⟨v, ⟨es, n, u, hl, hk, hu, r⟩, hd⟩
  · have : (y == z) = false := by simpa using e
    rw [this] at h
    exact t y c h
theorem px_kd {x : Str} {p : Addr} {tbl : List (Str × PyData)} {p1 : Pos} (hg : Gl X x) (hm : X.mg x = some (.ref p)) (ht : KdOk X.K X.w p tbl) (hk : PX X b xk) (hs : PlainIx b) (hdb : (x == ("__debug__" : Str)) = false := by decide) : PX X (.Subscript (.Name x p1) b pos) (xKd tbl xk) :=
  pe_imp (pe_ix ix_kdict (pe_glob hg hm (v := .ref p) rfl hdb) hk hs) fun σ H Q q => by
    obtain ⟨as, ρ, os, H0, d, os', n, hx, k⟩ := q
    unfold xKd at hx
    cases h1 : xk ρ os with
    | none => rw [h1] at hx; cases hx
    | some p1 =>
      obtain ⟨d1, os1⟩ := p1
      rw [h1, Option.bind_some] at hx
      cases d1 with
      | str z =>
        simp only at hx
        cases h2 : tbl.lookup z with
        | none => rw [h2] at hx; cases hx
        | some c =>
          rw [h2] at hx
          cases hx
          obtain ⟨v, h3, h4⟩ := ht z _ h2
          refine ⟨as, ρ, os, H0, _, _, n, h1, fun u H0' H' n1 g1 r1 => ?_⟩
          cases r1
          exact ⟨p, z, v, rfl, rfl, h3, k v H0' H' n1 g1 (h4 _)⟩
      | _ => cases hx
/-! x.extend(e) -/
def sExt (i : Nat) (xi : XI) : SE := fun ρ os => (ownAt ρ os i).bind fun _ => (xi ρ os).bind fun p => (ownAt ρ p.2 i).bind fun q => if q.2.length + p.1.length ≤ sizeLine then some (.nx ρ (p.2.set q.1 (some (.l (q.2 ++ p.1))))) else none
theorem psx_ext {i : Nat} (h : PS X (.Expr e pos) (tDrop (tBM X.K "list" rExtend (tVar i) (tCons (teF X.K xi) tNil)))) : PSX X W fr (.Expr e pos) (sExt i xi) := ps_imp h fun D σ H q => by
  obtain ⟨as0, Hs, as, ρ, os, H0, out, bs0, n, hx, k⟩ := q
  unfold sExt at hx
  cases h0 : ownAt ρ os i with
  | none => rw [h0] at hx; cases hx
  | some q0 =>
    obtain ⟨j0, ds0⟩ := q0
    rw [h0, Option.bind_some] at hx
    cases h1 : xi ρ os with
    | none => rw [h1] at hx; cases hx
    | some p =>
      obtain ⟨ds, os1⟩ := p
      rw [h1, Option.bind_some] at hx
      simp only at hx
      cases h2 : ownAt ρ os1 i with
      | none => rw [h2] at hx; cases hx
      | some q1 =>
        obtain ⟨j, ds1⟩ := q1
        rw [h2, Option.bind_some] at hx
        simp only at hx
        split at hx
        · rename_i hz
          cases hx
          obtain ⟨h3, h4⟩ := ownAt_some h2
          obtain ⟨h5, h6⟩ := ownAt_some h0
          rw [h5] at h3
          cases h3
          obtain ⟨adr, e1, e2⟩ := n.ref i j0 h5
          have hm : adr ∈ as := List.mem_of_getElem? e1
          obtain ⟨_, vs0, q0, _⟩ := n.ow.l j0 adr ds0 e1 h6
          refine ⟨_, e2, .inl ⟨rfl, vs0, SqL.of q0⟩, as, ρ, os, H0, ds, os1, n, h1, fun p vs H0' H' hp n1 g1 h7 h8 h9 r1 => ?_⟩
          obtain ⟨q1, ws, q2, q3⟩ := n1.ow.l j0 adr ds1 e1 h4
          refine ⟨adr, p, ws, vs, rfl, rfl, q2, h9, by rw [q3.len, r1.len]; exact hz, ?_⟩
          exact k as σ H0' _ Exs.refl (n1.mut e1 h4 (q3.app r1)) (g1.tr (Gr.mut n1.sub hm q1 (n1.ow.trk _ hm)))
        · cases hx
/-! a, b, .. = a list -/
def gLs (n : Nat) (xs : List PyData → List Sl → Option (List Sl)) : XG := fun d ρ => match d with
  | .list ds => if ds.length = n then xs ds ρ else none
  | _ => none
theorem pxg_lst {kk : Nat} {xs : List PyData → List Sl → Option (List Sl)} {js : List Nat} {n : Nat} (hc : X.calm = true) (h : PXGs X es xs js) (hn : (assignEach es X.env).length = n := by rfl) (hst : (assignEach es X.env).findIdx? (·.1) = none := by rfl) :
    PXG X (.Tuple es kk pos) (gLs n xs) js := pg_imp (pg_lst hc h hn hst) fun v σ H Q q => by
  obtain ⟨as, ρ, os, H0, d, ρ', en, r, hx, k⟩ := q
  cases r with
  | @lst a vs ds r1 r2 =>
    simp only [gLs] at hx
    split at hx
    · rename_i hl
      exact ⟨a, vs, rfl, ex_l en.sub r1, by rw [r2.len]; exact hl, as, ρ, os, H0, ds, ρ', en, r2, hx, k⟩
    · cases hx
  | _ => cases hx
/-! a range that is kept -/
def sRng (i : Nat) (ra : XA) : SE := fun ρ os => (ra ρ os).bind fun p => match p.1 with
  | [.d (.int lo), .d (.int hi)] => some (.nx (ρ.set i (.o p.2.length)) (p.2 ++ [some (.g lo hi)]))
  | _ => none
def iRngV (xr : XS) : XI := fun ρ os => (xr ρ os).bind fun p => (obAt p.2 p.1).bind fun q => match q.2 with
  | .g lo hi => if -(2 ^ 62) ≤ lo ∧ lo < 2 ^ 62 ∧ -(2 ^ 62) ≤ hi ∧ hi < 2 ^ 62 then some (rangeD lo (hi - lo).toNat, p.2) else none
  | _ => none
theorem psx_rng0 {i : Nat} (h : PS X st (tAsg (fun σ H Q => taO X.K ra σ H fun vs H1 => ∃ lo hi, vs = [V.int lo, V.int hi] ∧ ∀ p, H1 p = none → Q (.ref p) (upd H1 p (.rng lo hi))) (gName i))) : PSX X W fr st (sRng i ra) := ps_imp h fun D σ H q => by
  obtain ⟨as0, Hs, as, ρ, os, H0, out, bs0, n, hx, k⟩ := q
  unfold sRng at hx
  cases h1 : ra ρ os with
  | none => rw [h1] at hx; cases hx
  | some p =>
    obtain ⟨ss, os1⟩ := p
    rw [h1, Option.bind_some] at hx
    simp only at hx
    split at hx
    · rename_i lo hi
      cases hx
      refine ⟨as, ρ, os, H0, _, os1, n, h1, fun vs H0' H' n1 g1 r1 => ?_⟩
      match vs, r1 with
      | [v, w], r1 =>
        have q1 : Da X.K H0' v (.int lo) := r1.1
        have q2 : Da X.K H0' w (.int hi) := r1.2.1
        cases q1
        cases q2
        refine ⟨lo, hi, rfl, fun p hp => ?_⟩
        have h0 : H0' p = none := fresh_back n1.sub hp
        have nD : p ∉ as := fun z => n1.ow.trk p z hp
        have hn : H p = none := by
          cases z : H p with
          | none => rfl
          | some u => exact absurd hp (g1.kp p (by rw [z]; simp))
        have n2 := n1.away (H' := upd H' p (.rng lo hi)) nD (fun a h => upd_ne h) (by rw [upd_same]; simp) h0
        exact k (as ++ [p]) _ H0' _ ⟨[p], rfl, by simpa using hn⟩ (n2.own (ob := .g lo hi) i h0 nD upd_same ⟨rfl, rfl⟩) (gr_upd g1 hn h0)
    · cases hx
theorem psx_rng {i : Nat} {y : Str} {pos' : Pos} (hg : Gl X "range") (hm : X.mg "range" = none) (hN : X.N.Nodup) (hi : X.N[i]? = some y) (hx : Loc X.env.scope y) (ha : PXA X [a, b] ra) (hs : swapsWith (.Call (.Name "range" p1) [a, b] [] p) (some (.Name y pos')) pos.line X.env = pure false := by rfl)
    (he : starEach [a, b] X.env = (false, eval a X.env) :: starEach [b] X.env := by rfl) (hpl : (backTo p (starEach [b] X.env)).any (·.1) = false := by rfl) (hf : X.fn y = true ∨ X.env.scope.names.lookup y = some .local := by first | exact .inl rfl | exact .inr rfl | assumption) :
    PSX X W fr (.Assign [.Name y pos'] (.Call (.Name "range" p1) [a, b] [] p) pos) (sRng i ra) :=
  psx_rng0 (ps_imp (ps_set hN hi hx (pe_callTy cr_range2 hg hm (by decide +kernel) ha (by decide) (by decide) he hpl) hs hf) fun D σ H q => q)
theorem pi_rngV {tg l : Expr} {tl : TE} (hl : PE X l tl) : PI X tg l (fun σ H R => tl σ H fun x H1 => ∃ q lo hi, x = .ref q ∧ H1 q = some (.rng lo hi) ∧ (-(2 ^ 62) ≤ lo ∧ lo < 2 ^ 62 ∧ -(2 ^ 62) ≤ hi ∧ hi < 2 ^ 62) ∧ R (Itr lo (hi - lo).toNat) H1) := by
  refine ⟨fun pins s σ H R I h => thn (hl.run pins s σ H _ I h) fun v s1 ⟨x, H1, I1, r1, q1⟩ => ?_⟩
  obtain ⟨q, lo, hi, rfl, hq, ⟨z1, z2, z3, z4⟩, k⟩ := q1
  cases r1
  obtain ⟨t, u, v, e⟩ := (show ObjOk X.prog X.w H1 s1.heap q (.rng lo hi) from I1.hok _ _ hq)
  refine wpAny_pyIter_range (show IsRange s1.heap q lo hi 1 t u v from e) (small_one z1 z2 z3 z4) ?_
  refine ⟨s1.heap.objs.size, [s1.heap.objs.size], _, _, H1, rfl, I1.kept (t' := s1.toks) fun b o e => Heap.get?_push_of_some _ e, turn_range _ lo (hi - lo).toNat, ?_, fun b hb => ?_, k⟩
  · have e1 : lo + ((0 : Nat) : Int) * 1 = lo := by simp
    have e2 : (((hi - lo).toNat : Nat) : Int) - ((0 : Nat) : Int) = Builtin.Range.rangeSize lo hi 1 := by rw [rangeSize_one]; split <;> omega
    show IsRangeIter _ _ (lo + ((0 : Nat) : Int) * 1) ((((hi - lo).toNat : Nat) : Int) - ((0 : Nat) : Int)) 1
    rw [e1, e2]
    exact Heap.get?_push_size _ rfl
  · have e : b = s1.heap.objs.size := by simpa using hb
    subst e
    exact I1.fpOk (Nat.le_refl _) (I1.hok.fresh (Nat.le_refl _))
theorem pxi_rngV {tg l : Expr} (hl : PXV X l xr) : PXI X tg l (iRngV xr) := pi_imp (pi_rngV hl) fun σ H R q => by
  obtain ⟨as, ρ, os, H0, items, os', n, hx, k⟩ := q
  unfold iRngV at hx
  cases h1 : xr ρ os with
  | none => rw [h1] at hx; cases hx
  | some p =>
    obtain ⟨s, os1⟩ := p
    rw [h1, Option.bind_some] at hx
    cases h2 : obAt os1 s with
    | none => simp only [h2] at hx; cases hx
    | some q =>
      obtain ⟨j, ob⟩ := q
      simp only [h2, Option.bind_some] at hx
      cases ob with
      | g lo hi =>
        simp only at hx
        split at hx
        · rename_i hz
          cases hx
          obtain ⟨rfl, h4⟩ := obAt_some h2
          refine ⟨as, ρ, os, H0, _, _, n, h1, fun v H0' H' n1 g1 r1 => ?_⟩
          obtain ⟨ad, e1, rfl⟩ := r1
          obtain ⟨q1, ho, q2, q3⟩ := n1.ow.at_ j ad _ e1 h4
          obtain rfl := q3.g_of
          exact ⟨ad, lo, hi, rfl, q2, hz, k _ H0' H' n1 g1 walkD_range⟩
        · cases hx
      | _ => cases hx
/-! {k: v, ..}[e], k texts -/
def xDisp : List (Str × XE) → List Sl → Os → Option (List (Str × PyData) × Os)
  | [], _, os => some ([], os)
  | (z, x) :: r, ρ, os => (x ρ os).bind fun p => (xDisp r ρ p.2).map fun q => ((z, p.1) :: q.1, q.2)
def mergeP (l : List (Str × PyData)) : List (Key × PyData) := l.foldl (fun acc kv => putP acc (.inr kv.1) kv.2) []
def xPick (ps : List (Str × XE)) (xk : XE) : XE := fun ρ os => (xDisp ps ρ os).bind fun q => (xk ρ q.2).bind fun r => match r.1 with
  | .str z => (valP (mergeP q.1) (.inr z)).map fun d => (d, r.2)
  | _ => none
def trsOf (K : PySem.W.Frag) : List (Str × XE) → List (TE × TE)
  | [] => []
  | (z, x) :: r => (tC (.str z), teO K x) :: trsOf K r
theorem ppx_nil : PPs X pos [] [] (trsOf X.K []) := pps_nil
theorem ppx_cons {z : Str} {j : Nat} {v : Expr} {ks : List (Option Expr)} {vs : List Expr} {ps : List (Str × XE)} (hv : PX X v xa) (hr : PPs X pos ks vs (trsOf X.K ps)) : PPs X pos (some (.Constant (.str z) j p1) :: ks) (v :: vs) (trsOf X.K ((z, xa) :: ps)) := pps_cons pe_str hv hr
/-- values for the texts -/
def PairsOk (K : PySem.W.Frag) (H0 : Hp) : List (V × V) → List (Str × PyData) → Prop
  | [], [] => True
  | p :: r, q :: t => p.1 = .str q.1 ∧ Da K H0 p.2 q.2 ∧ PairsOk K H0 r t
  | _, _ => False
theorem PairsOk.len {K : PySem.W.Frag} {H0 : Hp} : ∀ {ps : List (V × V)} {l : List (Str × PyData)}, PairsOk K H0 ps l → ps.length = l.length
  | [], [], _ => rfl
  | _ :: _, _ :: _, h => by rw [List.length_cons, List.length_cons, PairsOk.len h.2.2]
  | [], _ :: _, h => h.elim
  | _ :: _, [], h => h.elim
theorem to_pairs {K : PySem.W.Frag} {as : List Addr} {ρ : List Sl} {σ : L2.St} : ∀ {ps : List (Str × XE)} {os os' : Os} {H0 H : Hp} {l : List (Str × PyData)} {Q : List (V × V) → Hp → Prop}, En K as ρ os σ H0 H → xDisp ps ρ os = some (l, os') →
    (∀ vs H0' H', En K as ρ os' σ H0' H' → Gr as H0 H H0' H' → PairsOk K H0' vs l → Q vs H') → tPairs (trsOf K ps) σ H Q
  | [], os, os', H0, H, l, Q, n, h, k => by
    cases h
    exact k [] H0 H n (Gr.refl n.sub) True.intro
  | (z, x) :: r, os, os', H0, H, l, Q, n, h, k => by
    unfold xDisp at h
    cases h1 : x ρ os with
    | none => rw [h1] at h; cases h
    | some p =>
      obtain ⟨d, os1⟩ := p
      rw [h1, Option.bind_some] at h
      cases h2 : xDisp r ρ os1 with
      | none => simp only [h2] at h; cases h
      | some q =>
        obtain ⟨l2, os2⟩ := q
        simp only [h2] at h
        cases h
        refine ⟨as, ρ, os, H0, d, os1, n, h1, fun v H0' H' n1 g1 r1 => ?_⟩
        exact to_pairs n1 h2 fun vs H2' H2 n2 g2 r2 => k _ H2' H2 n2 (g1.tr g2) ⟨rfl, Da.mono g2.e0 _ _ r1, r2⟩
theorem keys_of_pairs {K : PySem.W.Frag} {H0 : Hp} : ∀ {ps : List (V × V)} {l : List (Str × PyData)}, PairsOk K H0 ps l → ∃ kvs : List (Key × V), ps = kvs.map (fun kv => (kV kv.1, kv.2)) ∧ PsOk K H0 kvs (l.map fun q => ((.inr q.1 : Key), q.2)) ∧ kvs.length = l.length
  | [], [], _ => ⟨[], rfl, True.intro, rfl⟩
  | p :: r, q :: t, h => by
    obtain ⟨kvs, e1, e2, e3⟩ := keys_of_pairs h.2.2
    refine ⟨(.inr q.1, p.2) :: kvs, ?_, ⟨rfl, h.2.1, e2⟩, by simp [e3]⟩
    obtain ⟨p1, p2⟩ := p
    have : p1 = .str q.1 := h.1
    subst this
    rw [e1]
    rfl
  | [], _ :: _, h => h.elim
  | _ :: _, [], h => h.elim
theorem merge_rel {K : PySem.W.Frag} {H0 : Hp} : ∀ {l : List (Str × PyData)} {kvs acc : List (Key × V)} {ps : List (Key × PyData)}, PsOk K H0 kvs (l.map fun q => ((.inr q.1 : Key), q.2)) → PsOk K H0 acc ps → PsOk K H0 (mergeK acc kvs) (l.foldl (fun acc kv => putP acc (.inr kv.1) kv.2) ps)
  | [], [], _, _, _, h => h
  | q :: l, p :: kvs, acc, ps, h, g => by
    obtain ⟨p1, p2⟩ := p
    obtain ⟨e, r, t⟩ := h
    have e' : p1 = .inr q.1 := e
    subst e'
    exact merge_rel (l := l) (kvs := kvs) t (put_rel r g)
  | [], _ :: _, _, _, h, _ => h.elim
  | _ :: _, [], _, _, h, _ => h.elim
theorem px_pick {keys : List (Option Expr)} {values : List Expr} {ps : List (Str × XE)} {b : Expr} (hu : X.A.units + 1 < cLine) (h : PPs X p1 keys values (trsOf X.K ps)) (hb : PX X b xk) (hall : keys.all (·.isSome) = true) (hl : keys.length = values.length) (h0 : keys ≠ []) (h15 : ps.length ≤ 15) (h15' : keys.length ≤ 15) (hs : NoSl b := by exact fun _ _ => rfl) :
    PX X (.Subscript (.Dict keys values p1) b pos) (xPick ps xk) := pe_imp (pe_dget hu (pe_disp h hall hl h0 h15') hb hs) fun σ H Q q => by
  obtain ⟨as, ρ, os, H0, d, os', n, hx, k⟩ := q
  unfold xPick at hx
  cases h1 : xDisp ps ρ os with
  | none => rw [h1] at hx; cases hx
  | some p =>
    obtain ⟨l, os1⟩ := p
    rw [h1, Option.bind_some] at hx
    cases h2 : xk ρ os1 with
    | none => simp only [h2] at hx; cases hx
    | some r =>
      obtain ⟨y, os2⟩ := r
      simp only [h2, Option.bind_some] at hx
      cases y with
      | str z =>
        simp only at hx
        cases h3 : valP (mergeP l) (.inr z) with
        | none => rw [h3] at hx; cases hx
        | some c =>
          rw [h3] at hx
          cases hx
          intro D hD
          have nD : D ∉ as := fun z => n.ow.trk D z hD
          have h0D : H0 D = none := fresh_back n.sub hD
          have n1 := n.away (H' := upd H D (.dK [])) nD (fun a h => upd_ne h) (by rw [upd_same]; simp) h0D
          have g1 : Gr as H0 H H0 (upd H D (.dK [])) := gr_upd (Gr.refl n.sub) hD h0D
          refine to_pairs n1 h1 fun vs H2' H2 n2 g2 r2 => ?_
          have D2 : H2 D = some (.dK []) := g2.e1 D _ nD upd_same
          have D2' : H2' D = none := keep_none g2 nD h0D (by rw [upd_same]; simp)
          obtain ⟨kvs, e1, e2, e3⟩ := keys_of_pairs r2
          have hl2 : kvs.length ≤ 15 := by
            rw [e3]
            have : ∀ (ps : List (Str × XE)) (os os1 : Os) (l : List (Str × PyData)), xDisp ps ρ os = some (l, os1) → l.length = ps.length := fun ps => by
              induction ps with
              | nil => intro os os1 l h; cases h; rfl
              | cons a r ih =>
                intro os os1 l h
                obtain ⟨z, x⟩ := a
                unfold xDisp at h
                cases q1 : x ρ os with
                | none => rw [q1] at h; cases h
                | some p =>
                  rw [q1, Option.bind_some] at h
                  cases q2 : xDisp r ρ p.2 with
                  | none => rw [q2] at h; cases h
                  | some q =>
                    rw [q2] at h
                    cases h
                    simp [ih _ _ _ q2]
            rw [this ps os os1 l h1]
            exact h15
          refine ⟨D2, kvs, e1, hl2, ?_⟩
          have gA := g1.tr g2
          have n3 := n2.away (H' := upd H2 D (.dK (mergeK [] kvs))) nD (fun a h => upd_ne h) (by rw [upd_same]; simp) D2'
          have g3 : Gr as H0 H H2' (upd H2 D (.dK (mergeK [] kvs))) := gr_upd gA hD D2'
          refine ⟨as, ρ, os1, H2', _, _, n3, h2, fun w H4' H4 n4 g4 r4 => ?_⟩
          cases r4
          have D4 : H4 D = some (.dK (mergeK [] kvs)) := g4.e1 D _ nD upd_same
          have mr : PsOk X.K H4' (mergeK [] kvs) (mergeP l) := merge_rel (PsOk.mono g4.e0 e2) True.intro
          obtain ⟨v, v1, v2⟩ := (val_rel (k := (.inr z : Key)) mr).2 _ h3
          exact ⟨D, v, rfl, by rw [← v1]; exact DGet.k (k := (.inr z : Key)) D4, k v H4' H4 n4 (g3.tr g4) v2⟩
      | _ => cases hx
end
section
variable {P : Program} {w : World} {K : PySem.W.Frag} {mg : Str → Option Value} {base : Heap} {k n : Nat} {f : Addr} {fd : FuncData} {ps : List Str}
theorem FnG.never_M (h : ps.length = n := by rfl) : FnG P w K mg base k f fd n ps (spM K n fun _ _ => none) := ⟨h, fun vs H Q E z => z.1, fun A outer s H args us vs Q E hr e0 hb r z => by
  obtain ⟨_, _, _, _, _, _, _, _, _, _, z, _⟩ := z
  cases z⟩
theorem FnG.never_F (h : ps.length = n := by rfl) : FnG P w K mg base k f fd n ps (spF K n fun _ _ => none) := ⟨h, fun vs H Q E z => z.1, fun A outer s H args us vs Q E hr e0 hb r z => by
  obtain ⟨_, _, _, _, _, _, _, _, _, _, z, _⟩ := z
  cases z⟩
theorem FnG.never_S (h : ps.length = n := by rfl) : FnG P w K mg base k f fd n ps (spS K n fun _ _ => none) := ⟨h, fun vs H Q E z => z.1, fun A outer s H args us vs Q E hr e0 hb r z => by
  obtain ⟨_, _, _, _, _, _, _, _, _, _, z, _⟩ := z
  cases z⟩
end
section
variable {X : Cx} {pos p : Pos} {x : Str} {k : Nat} {f : Addr} {fd : FuncData} {ps : List Str} {M : XM} {MF : XMF}
theorem px_fn0 (F : FnG X.prog X.w X.K X.mg X.base k f fd 0 ps (spM X.K 0 M)) (hr : Rm k X.A) (hg : Gl X x) (hm : X.mg x = some (.ref f)) (hk : PySem.W.keepIn X.K (.ref f) = true) (hb : Binds X.K fd ps []) (hdb : (x == ("__debug__" : Str)) = false := by decide) :
    PX X (.Call (.Name x p) [] [] pos) (xFn M xaNil) := pe_imp (pe_callG0 F hr hg hm hk hb hdb) fun σ H Q q => by
  have := to_fn (n := 0) (fun ρ os ss os' h => xaNil_len h) q
  exact ta_nil this
theorem pxf_fn0 (F : FnG X.prog X.w X.K X.mg X.base k f fd 0 ps (spF X.K 0 MF)) (hr : Rm k X.A) (hg : Gl X x) (hm : X.mg x = some (.ref f)) (hk : PySem.W.keepIn X.K (.ref f) = true) (hb : Binds X.K fd ps []) (hdb : (x == ("__debug__" : Str)) = false := by decide) :
    PXF X (.Call (.Name x p) [] [] pos) (fFn MF xaNil) := pe_imp (pe_callG0 F hr hg hm hk hb hdb) fun σ H Q q => by
  have := to_fnf (n := 0) (fun ρ os ss os' h => xaNil_len h) q
  exact ta_nil this
end
end DL

set_option Elab.async false
set_option linter.all false
set_option maxRecDepth 100000
set_option maxHeartbeats 4000000
namespace DL
open PySem PySem.Spec PyProof.Rows L2 Evl

/-! ### what the combinators give at their arguments -/
section
variable {ρ : List Sl} {os os1 os2 : Os} {xa xb xc : XE} {ta tb : XT} {ra : XA} {a b : SE} {xi xj : XI}
def slD : Option Sl → Option PyData
  | some (.d x) => some x
  | _ => none
def slO : Option Sl → Option Nat
  | some (.o x) => some x
  | _ => none
@[simp] theorem slD_d {x : PyData} : slD (some (.d x)) = some x := id rfl
@[simp] theorem slO_o {x : Nat} : slO (some (.o x)) = some x := id rfl
@[simp] theorem a_var {i : Nat} : xVar i ρ os = (slD ρ[i]?).map fun d => (d, os) := by
  unfold xVar
  generalize ρ[i]? = z
  match z with
  | none => rfl
  | some .u => rfl
  | some (.d _) => rfl
  | some (.o _) => rfl
@[simp] theorem a_c {d : PyData} : xC d ρ os = some (d, os) := id rfl
@[simp] theorem a_op {f : PyData → PyData → Option PyData} : xOp f xa xb ρ os = (xa ρ os).bind fun p => (xb ρ p.2).bind fun q => (f p.1 q.1).map fun z => (z, q.2) := id rfl
@[simp] theorem a_un {f : PyData → Option PyData} : xUn f xa ρ os = (xa ρ os).bind fun p => (f p.1).map fun z => (z, p.2) := id rfl
def boolOf : PyData → Option Bool
  | .bool b => some b
  | _ => none
@[simp] theorem a_bool : xBool xa ρ os = (xa ρ os).bind fun p => (boolOf p.1).map fun b => (b, p.2) := by
  unfold xBool
  congr 1
  funext p
  cases p.1 <;> rfl
@[simp] theorem a_truth : xTruth xa ρ os = (xa ρ os).bind fun p => (truthD p.1).map fun b => (b, p.2) := id rfl
@[simp] theorem a_notT : xNotT ta ρ os = (ta ρ os).map fun p => (!p.1, p.2) := id rfl
@[simp] theorem a_andT : xAndT ta tb ρ os = (ta ρ os).bind fun p => if p.1 = true then tb ρ p.2 else some (false, p.2) := id rfl
@[simp] theorem a_orT : xOrT ta tb ρ os = (ta ρ os).bind fun p => if p.1 = true then some (true, p.2) else tb ρ p.2 := id rfl
@[simp] theorem a_andV : xAndV xa xb ρ os = (xa ρ os).bind fun p => (boolOf p.1).bind fun b => if b = true then xb ρ p.2 else some (.bool false, p.2) := by
  unfold xAndV
  congr 1
  funext p
  obtain ⟨d, w⟩ := p
  cases d with
  | bool b => cases b <;> rfl
  | _ => rfl
@[simp] theorem a_if : xIf ta xa xb ρ os = (ta ρ os).bind fun p => if p.1 = true then xa ρ p.2 else xb ρ p.2 := id rfl
@[simp] theorem a_nil : xaNil ρ os = some ([], os) := id rfl
@[simp] theorem a_d : xaD xa ra ρ os = (xa ρ os).bind fun p => (ra ρ p.2).map fun q => (.d p.1 :: q.1, q.2) := id rfl
@[simp] theorem a_o {i : Nat} : xaO i ra ρ os = (slO ρ[i]?).bind fun k => (ra ρ os).map fun q => (.o k :: q.1, q.2) := by
  unfold xaO
  generalize ρ[i]? = z
  match z with
  | none => rfl
  | some .u => rfl
  | some (.d _) => rfl
  | some (.o _) => rfl
@[simp] theorem a_call {f : List PyData → Option PyData} : xCall f ra ρ os = (ra ρ os).bind fun p => (datas p.1).bind fun ds => (f ds).map fun z => (z, p.2) := id rfl
@[simp] theorem a_fn {M : XM} : xFn M ra ρ os = (ra ρ os).bind fun p => M p.1 p.2 := id rfl
@[simp] theorem a_ffn {M : XMF} : fFn M ra ρ os = (ra ρ os).bind fun p => M p.1 p.2 := id rfl
@[simp] theorem a_F : xF xi ρ os = (xi ρ os).map fun p => (.list p.1, p.2) := id rfl
@[simp] theorem a_fLst : fLst ra ρ os = (ra ρ os).bind fun p => (datas p.1).bind fun ds => if ds.length ≤ sizeLine then some (ds, p.2) else none := id rfl
def listOf : PyData → Option (List PyData)
  | .list c => some c
  | _ => none
@[simp] theorem a_iLst : iLst xa ρ os = (xa ρ os).bind fun p => (listOf p.1).map fun c => (c, p.2) := by
  unfold iLst
  congr 1
  funext p
  cases p.1 <;> rfl
@[simp] theorem a_yes : xYes ρ os = some (true, os) := id rfl
@[simp] theorem a_next : sNext ρ os = some (.nx ρ os) := id rfl
@[simp] theorem a_brk : sBrk ρ os = some (.bk ρ os) := id rfl
@[simp] theorem a_cnt : sCnt ρ os = some (.ct ρ os) := id rfl
@[simp] theorem a_seq : sSeq a b ρ os = (a ρ os).bind fun o => match o with
  | .nx ρ1 w => b ρ1 w
  | o => some o := by
  unfold sSeq
  congr 1
@[simp] theorem a_sIf : sIf ta a b ρ os = (ta ρ os).bind fun p => if p.1 = true then a ρ p.2 else b ρ p.2 := id rfl
@[simp] theorem a_asg {g : XG} : sAsg xa g ρ os = (xa ρ os).bind fun p => (g p.1 ρ).map fun r => .nx r p.2 := id rfl
@[simp] theorem a_own {i : Nat} : sOwn i xi ρ os = (xi ρ os).map fun p => .nx (ρ.set i (.o p.2.length)) (p.2 ++ [some (.l p.1)]) := id rfl
@[simp] theorem a_drop : sDrop xa ρ os = (xa ρ os).map fun p => .nx ρ p.2 := id rfl
@[simp] theorem a_ret : sRet xa ρ os = (xa ρ os).map fun p => .rt p.1 p.2 := id rfl
@[simp] theorem a_retF : sRetF xi ρ os = (xi ρ os).map fun p => .rt (.list p.1) p.2 := id rfl
@[simp] theorem a_retN : sRetN ρ os = some (.rt .none os) := id rfl
@[simp] theorem a_for {g : XG} : sFor xi g a ρ os = (xi ρ os).bind fun p => forRun g a p.1 ρ p.2 := id rfl
@[simp] theorem a_par {i j : Nat} : sPar i j xa xb ρ os = (xa ρ os).bind fun p => (xb ρ p.2).map fun q => .nx ((ρ.set i (.d p.1)).set j (.d q.1)) q.2 := id rfl
@[simp] theorem a_parO {i j : Nat} : sParO i j xi xb ρ os = (xi ρ os).bind fun p => (xb ρ p.2).map fun q => .nx ((ρ.set i (.o q.2.length)).set j (.d q.1)) (q.2 ++ [some (.l p.1)]) := id rfl
@[simp] theorem a_view : xView xa ρ os = (xa (ρ.map (viewS os)) []).bind fun p => if flatD p.1 = true then some (p.1, os) else none := id rfl
@[simp] theorem a_tview : tView ta ρ os = (ta (ρ.map (viewS os)) []).map fun p => (p.1, os) := id rfl
@[simp] theorem a_nm {i : Nat} {d : PyData} : gNm i d ρ = some (ρ.set i (.d d)) := id rfl
@[simp] theorem a_tp {n : Nat} {xs : List PyData → List Sl → Option (List Sl)} {ds : List PyData} : gTp n xs (.tuple ds) ρ = if ds.length = n then xs ds ρ else none := id rfl
@[simp] theorem a_gnil : gsNil [] ρ = some ρ := id rfl
@[simp] theorem a_gcons {g : XG} {r : List PyData → List Sl → Option (List Sl)} {d : PyData} {ds : List PyData} : gsCons g r (d :: ds) ρ = (g d ρ).bind (r ds) := id rfl
@[simp] theorem a_zp : iZp ra ρ os = (ra ρ os).bind fun p => match p.1 with
  | [.d (.list xs), .d (.list ys)] => some (zipD xs ys, p.2)
  | _ => none := id rfl
@[simp] theorem a_sl {lo hi : XO} : xSl xa lo hi ρ os = (xa ρ os).bind fun p => (lo ρ p.2).bind fun l => (hi ρ l.2).bind fun u => (listOf p.1).map fun ds => (cutD ds l.1 u.1, u.2) := by
  unfold xSl
  congr 1
  funext p
  congr 1
  funext l
  congr 1
  funext u
  cases p.1 <;> rfl
@[simp] theorem a_oN : oNone ρ os = some (none, os) := id rfl
@[simp] theorem a_oS : oSome xa ρ os = (xa ρ os).bind fun p => match p.1 with
  | .int i => some (some i, p.2)
  | _ => none := id rfl
@[simp] theorem datas_nil : datas [] = some [] := id rfl
@[simp] theorem datas_d {x : PyData} {r : List Sl} : datas (.d x :: r) = (datas r).map (x :: ·) := id rfl
end
/-- nothing leans on what comes later -/
def Tidy (os : Os) : Prop := os.all (oLt os.length) = true
theorem cutW_self {os : Os} (h : Tidy os) : cutW os.length os = some os := by
  unfold cutW
  unfold Tidy at h
  rw [List.take_length, if_pos h]
theorem cutW_app {os w : Os} (h : Tidy os) : cutW os.length (os ++ w) = some os := by
  unfold cutW
  unfold Tidy at h
  rw [List.take_left, if_pos h]
theorem cutW_of {os os' w : Os} {n : Nat} (e : os'.length = n) (h : Tidy os') : cutW n (os' ++ w) = some os' := by
  subst e
  exact cutW_app h
theorem obLt_mono {n m : Nat} (h : n ≤ m) {o : Option Ob} (e : oLt n o = true) : oLt m o = true := by
  have hs : ∀ s : Sl, slLt n s = true → slLt m s = true := fun s hs => by
    cases s with
    | o k =>
      have : k < n := by simpa [slLt] using hs
      simp [slLt]
      omega
    | _ => rfl
  cases o with
  | none => rfl
  | some ob =>
    cases ob with
    | r xs =>
      simp only [oLt, obLt, List.all_eq_true] at e ⊢
      exact fun x hx => hs x (e x hx)
    | t xs =>
      simp only [oLt, obLt, List.all_eq_true] at e ⊢
      exact fun x hx => hs x (e x hx)
    | i C fs =>
      simp only [oLt, obLt, List.all_eq_true] at e ⊢
      exact fun x hx => hs _ (e x hx)
    | _ => rfl
theorem Tidy.app {os w : Os} (h : Tidy os) (e : w.all (oLt (os.length + w.length)) = true) : Tidy (os ++ w) := by
  unfold Tidy at h ⊢
  rw [List.all_append, List.length_append, e, Bool.and_true]
  rw [List.all_eq_true] at h ⊢
  exact fun x hx => obLt_mono (Nat.le_add_right _ _) (h x hx)
theorem Tidy.l {os : Os} {ds : List PyData} (h : Tidy os) : Tidy (os ++ [some (.l ds)]) := h.app (by simp [oLt, obLt])
theorem Tidy.n {os : Os} (h : Tidy os) : Tidy (os ++ [none]) := h.app (by simp [oLt])
theorem Tidy.set {os : Os} {k : Nat} {o : Option Ob} (h : Tidy os) (e : oLt os.length o = true) : Tidy (os.set k o) := by
  unfold Tidy at h ⊢
  rw [List.length_set]
  rw [List.all_eq_true] at h ⊢
  intro x hx
  rcases List.mem_or_eq_of_mem_set hx with z | z
  · exact h x z
  · rw [z]
    exact e
theorem Tidy.setl {os : Os} {k : Nat} {ds : List PyData} (h : Tidy os) : Tidy (os.set k (some (.l ds))) := h.set rfl
theorem Tidy.nil : Tidy [] := id rfl
theorem Tidy.one {ds : List PyData} : Tidy [some (.l ds)] := Tidy.nil.l
def outM (os : Os) : Out → Option (PyData × Os)
  | .rt d w => (cutW os.length w).map fun w' => (d, w')
  | .nx _ w => (cutW os.length w).map fun w' => (.none, w')
  | _ => none
def outF (os : Os) : Out → Option (List PyData × Os)
  | .rt (.list ds) w => (cutW os.length w).map fun w' => (ds, w')
  | _ => none
def outN : Out → Option (PyData × Os)
  | .rt d w => some (d, w)
  | .nx _ w => some (.none, w)
  | _ => none
def outS : Out → Option (Sl × Os)
  | .rv s w => some (s, w)
  | .rt d w => some (.d d, w)
  | .nx _ w => some (.d .none, w)
  | _ => none
@[simp] theorem outM_rt {os w : Os} {d : PyData} : outM os (.rt d w) = (cutW os.length w).map fun w' => (d, w') := id rfl
@[simp] theorem outM_nx {os w : Os} {ρ : List Sl} : outM os (.nx ρ w) = (cutW os.length w).map fun w' => (.none, w') := id rfl
@[simp] theorem outF_rt {os w : Os} {d : List PyData} : outF os (.rt (.list d) w) = (cutW os.length w).map fun w' => (d, w') := id rfl
@[simp] theorem outN_rt {w : Os} {d : PyData} : outN (.rt d w) = some (d, w) := id rfl
@[simp] theorem outN_nx {w : Os} {ρ : List Sl} : outN (.nx ρ w) = some (.none, w) := id rfl
theorem m_eq {n N : Nat} {s : SE} {ss : List Sl} {os : Os} (h : ss.length = n) : mOf n N s ss os = (s (ss ++ List.replicate (N - n) .u) os).bind (outM os) := by
  unfold mOf
  rw [if_pos h]
  congr 1
theorem mF_eq {n N : Nat} {s : Nat → SE} {ss : List Sl} {os : Os} (h : ss.length = n) : mOfF n N s ss os = (s os.length (ss ++ List.replicate (N - n) .u) os).bind (outF os) := by
  unfold mOfF
  rw [if_pos h]
  congr 1
theorem mS_eq {n N : Nat} {s : SE} {ss : List Sl} {os : Os} (h : ss.length = n) : mOfS n N s ss os = (s (ss ++ List.replicate (N - n) .u) os).bind outS := by
  unfold mOfS
  rw [if_pos h]
  congr 1
theorem mS_2 {N : Nat} {s : SE} {os : Os} {a b : Sl} : mOfS 2 N s [a, b] os = (s (a :: b :: List.replicate (N - 2) .u) os).bind outS := mS_eq (ss := [a, b]) rfl
@[simp] theorem outS_rv {w : Os} {s : Sl} : outS (.rv s w) = some (s, w) := id rfl
theorem cut_take {α : Type} (xs : List α) (n : Nat) : DL.cutD xs none (some (n : Int)) = xs.take n := by
  unfold DL.cutD
  rw [HT.sIx_none, HT.sIx_nat, Nat.sub_zero, List.drop_zero]
  by_cases h : n ≤ xs.length
  · rw [Nat.min_eq_left h]
  · rw [Nat.min_eq_right (by omega), List.take_of_length_le (Nat.le_refl _), List.take_of_length_le (by omega)]
theorem cut_drop {α : Type} (xs : List α) (n : Nat) : DL.cutD xs (some (n : Int)) none = xs.drop n := by
  unfold DL.cutD
  rw [HT.sIx_none, HT.sIx_nat]
  by_cases h : n ≤ xs.length
  · rw [Nat.min_eq_left h, List.take_of_length_le (by simp)]
  · rw [Nat.min_eq_right (by omega), List.drop_of_length_le (Nat.le_refl _), List.drop_of_length_le (by omega), List.take_nil]
theorem mN_eq {n N : Nat} {s : SE} {ss : List Sl} {os : Os} (h : ss.length = n) : mOfN n N s ss os = (s (ss ++ List.replicate (N - n) .u) os).bind outN := by
  unfold mOfN
  rw [if_pos h]
  congr 1
theorem m_rt {n N : Nat} {s : SE} {ss : List Sl} {d : PyData} {os w w' : Os} (h : ss.length = n) (e : s (ss ++ List.replicate (N - n) .u) os = some (.rt d w)) (c : cutW os.length w = some w') : mOf n N s ss os = some (d, w') := by
  rw [m_eq h, e, Option.bind_some, outM_rt, c]
  rfl
theorem mF_rt {n N : Nat} {s : Nat → SE} {ss : List Sl} {ds : List PyData} {os w w' : Os} (h : ss.length = n) (e : s os.length (ss ++ List.replicate (N - n) .u) os = some (.rt (.list ds) w)) (c : cutW os.length w = some w') : mOfF n N s ss os = some (ds, w') := by
  rw [mF_eq h, e, Option.bind_some, outF_rt, c]
  rfl
theorem m_nx {n N : Nat} {s : SE} {ss : List Sl} {ρ1 : List Sl} {os w w' : Os} (h : ss.length = n) (e : s (ss ++ List.replicate (N - n) .u) os = some (.nx ρ1 w)) (c : cutW os.length w = some w') : mOf n N s ss os = some (.none, w') := by
  rw [m_eq h, e, Option.bind_some, outM_nx, c]
  rfl
theorem m_0 {N : Nat} {s : SE} {os : Os} : mOf 0 N s [] os = (s (List.replicate N .u) os).bind (outM os) := m_eq (ss := []) rfl
theorem m_1 {N : Nat} {s : SE} {os : Os} {a : Sl} : mOf 1 N s [a] os = (s (a :: List.replicate (N - 1) .u) os).bind (outM os) := m_eq (ss := [a]) rfl
theorem m_2 {N : Nat} {s : SE} {os : Os} {a b : Sl} : mOf 2 N s [a, b] os = (s (a :: b :: List.replicate (N - 2) .u) os).bind (outM os) := m_eq (ss := [a, b]) rfl
theorem m_3 {N : Nat} {s : SE} {os : Os} {a b c : Sl} : mOf 3 N s [a, b, c] os = (s (a :: b :: c :: List.replicate (N - 3) .u) os).bind (outM os) := m_eq (ss := [a, b, c]) rfl
theorem m_4 {N : Nat} {s : SE} {os : Os} {a b c d : Sl} : mOf 4 N s [a, b, c, d] os = (s (a :: b :: c :: d :: List.replicate (N - 4) .u) os).bind (outM os) := m_eq (ss := [a, b, c, d]) rfl
theorem m_5 {N : Nat} {s : SE} {os : Os} {a b c d e : Sl} : mOf 5 N s [a, b, c, d, e] os = (s (a :: b :: c :: d :: e :: List.replicate (N - 5) .u) os).bind (outM os) := m_eq (ss := [a, b, c, d, e]) rfl
theorem m_6 {N : Nat} {s : SE} {os : Os} {a b c d e f : Sl} : mOf 6 N s [a, b, c, d, e, f] os = (s (a :: b :: c :: d :: e :: f :: List.replicate (N - 6) .u) os).bind (outM os) := m_eq (ss := [a, b, c, d, e, f]) rfl
theorem mF_1 {N : Nat} {s : Nat → SE} {os : Os} {a : Sl} : mOfF 1 N s [a] os = (s os.length (a :: List.replicate (N - 1) .u) os).bind (outF os) := mF_eq (ss := [a]) rfl
theorem mF_2 {N : Nat} {s : Nat → SE} {os : Os} {a b : Sl} : mOfF 2 N s [a, b] os = (s os.length (a :: b :: List.replicate (N - 2) .u) os).bind (outF os) := mF_eq (ss := [a, b]) rfl
theorem mF_3 {N : Nat} {s : Nat → SE} {os : Os} {a b c : Sl} : mOfF 3 N s [a, b, c] os = (s os.length (a :: b :: c :: List.replicate (N - 3) .u) os).bind (outF os) := mF_eq (ss := [a, b, c]) rfl
theorem mF_4 {N : Nat} {s : Nat → SE} {os : Os} {a b c d : Sl} : mOfF 4 N s [a, b, c, d] os = (s os.length (a :: b :: c :: d :: List.replicate (N - 4) .u) os).bind (outF os) := mF_eq (ss := [a, b, c, d]) rfl
theorem mN_1 {N : Nat} {s : SE} {os : Os} {a : Sl} : mOfN 1 N s [a] os = (s (a :: List.replicate (N - 1) .u) os).bind outN := mN_eq (ss := [a]) rfl
theorem mN_2 {N : Nat} {s : SE} {os : Os} {a b : Sl} : mOfN 2 N s [a, b] os = (s (a :: b :: List.replicate (N - 2) .u) os).bind outN := mN_eq (ss := [a, b]) rfl
theorem mN_3 {N : Nat} {s : SE} {os : Os} {a b c : Sl} : mOfN 3 N s [a, b, c] os = (s (a :: b :: c :: List.replicate (N - 3) .u) os).bind outN := mN_eq (ss := [a, b, c]) rfl
/-! ### what may be one's own -/
section
variable {ρ : List Sl} {os : Os} {xa xb xc : XE} {ra : XA} {xr xs : XS} {xi xj : XI} {ta : XT} {b : SE}
def slV : Option Sl → Option Sl
  | some (.d x) => some (.d x)
  | some (.o k) => some (.o k)
  | _ => none
@[simp] theorem slV_d {x : PyData} : slV (some (.d x)) = some (.d x) := id rfl
@[simp] theorem slV_o {x : Nat} : slV (some (.o x)) = some (.o x) := id rfl
@[simp] theorem a_rvar {i : Nat} : xrVar i ρ os = (slV ρ[i]?).map fun s => (s, os) := by
  unfold xrVar
  generalize ρ[i]? = z
  match z with
  | none => rfl
  | some .u => rfl
  | some (.d _) => rfl
  | some (.o _) => rfl
@[simp] theorem a_rD : xrD xa ρ os = (xa ρ os).map fun p => (.d p.1, p.2) := id rfl
@[simp] theorem a_eD : xeD xr ρ os = (xr ρ os).bind fun p => (slD (some p.1)).map fun d => (d, p.2) := by
  unfold xeD
  congr 1
  funext p
  cases p.1 <;> rfl
@[simp] theorem a_fld {C : Addr} {f : Str} : xrFld C f xr ρ os = (xr ρ os).bind fun p => (insAt C p.2 p.1).bind fun q => (q.2.lookup f).map fun s => (s, p.2) := id rfl
@[simp] theorem a_rIx : xrIx xr xa ρ os = (xr ρ os).bind fun p => (xa ρ p.2).bind fun q => (ixV q.2 p.1 q.1).map fun s => (s, q.2) := id rfl
@[simp] theorem a_lenV : xLenV xr ρ os = (xr ρ os).bind fun p => (lenV p.2 p.1).map fun i => (.int i, p.2) := id rfl
@[simp] theorem a_v : xaV xr ra ρ os = (xr ρ os).bind fun p => (ra ρ p.2).map fun q => (p.1 :: q.1, q.2) := id rfl
@[simp] theorem a_s : xaS xs ra ρ os = (xs ρ os).bind fun p => (ra ρ p.2).map fun q => (p.1 :: q.1, q.2) := id rfl
@[simp] theorem a_asgV {i : Nat} : sAsgV i xs ρ os = (xs ρ os).map fun p => .nx (ρ.set i p.1) p.2 := id rfl
@[simp] theorem a_fldV {C : Addr} {f : Str} : sFldV C f xr xs ρ os = (xs ρ os).bind fun p => (xr ρ p.2).bind fun q => (insAt C q.2 q.1).bind fun z => if z.2.length < 1000 then some (.nx ρ (q.2.set z.1 (some (.i C (putS f p.1 z.2))))) else none := id rfl
@[simp] theorem a_new {C : Addr} {M : XM} : xNew C M ra ρ os = (ra ρ os).bind fun p => (M (.o p.2.length :: p.1) (p.2 ++ [some (.i C [])])).bind fun q => match q.1 with
  | .none => some (.o p.2.length, q.2)
  | _ => none := id rfl
@[simp] theorem a_meth {C : Addr} {m : Str} {M : XM} : xMeth C m M xr ra ρ os = (xr ρ os).bind fun p => (insAt C p.2 p.1).bind fun q => match q.2.lookup m with
  | none => (ra ρ p.2).bind fun z => M (.o q.1 :: z.1) z.2
  | some _ => none := id rfl
@[simp] theorem a_lst : xsLst ra ρ os = (ra ρ os).bind fun p => if p.1.length ≤ sizeLine then some (.o p.2.length, p.2 ++ [some (.r p.1)]) else none := id rfl
@[simp] theorem a_sown : xsOwn xi ρ os = (xi ρ os).map fun p => (.o p.2.length, p.2 ++ [some (.l p.1)]) := id rfl
@[simp] theorem a_dictK : xsDictK ρ os = some (.o os.length, os ++ [some (.k [])]) := id rfl
@[simp] theorem a_sfn {M : XMS} : xsFn M ra ρ os = (ra ρ os).bind fun p => M p.1 p.2 := id rfl
@[simp] theorem a_fnG {M : XM} : xFnG M ra ρ os = (ra ρ os).bind fun p => (M p.1 p.2).bind fun q => (cutW os.length q.2).map fun w => (q.1, w) := id rfl
@[simp] theorem a_ffnG {M : XMF} : fFnG M ra ρ os = (ra ρ os).bind fun p => (M p.1 p.2).bind fun q => (cutW os.length q.2).map fun w => (q.1, w) := id rfl
@[simp] theorem a_fnN {M : XM} : xFnN M xi ra ρ os = (xi ρ os).bind fun p => (ra ρ (p.2 ++ [some (.l p.1)])).bind fun q => (M (.o p.2.length :: q.1) q.2).bind fun z => (cutW p.2.length z.2).map fun w => (z.1, w) := id rfl
@[simp] theorem a_tupV {js : List Nat} : sTupV js ra ρ os = (ra ρ os).bind fun p => if p.1.length = js.length then some (.nx (setAll ρ js p.1) p.2) else none := id rfl
@[simp] theorem a_fIf : fIf ta xi xj ρ os = (ta ρ os).bind fun p => if p.1 = true then xi ρ p.2 else xj ρ p.2 := id rfl
@[simp] theorem a_retS : sRetS xs ρ os = (xs ρ os).map fun p => .rv p.1 p.2 := id rfl
@[simp] theorem insAt_o {C : Addr} {k : Nat} : insAt C os (.o k) = match os[k]? with
  | some (some (.i C' fs)) => if C' = C then some (k, fs) else none
  | _ => none := by
  unfold insAt
  rfl
end

/-! ### comprehensions whose parts change nothing -/
theorem lc_pure {α : Type} {xg : XG} {tt : XT} {te : XE} {ρ : List Sl} {os : Os} (f : α → PyData) (p : α → Bool) (h : α → PyData) : ∀ (l : List α) (acc : List PyData),
    (∀ x ∈ l, ∃ ρ1, xg (f x) ρ = some ρ1 ∧ tt ρ1 os = some (p x, os) ∧ (p x = true → te ρ1 os = some (h x, os))) → acc.length + l.length ≤ sizeLine → lcRun xg tt te ρ (l.map f) acc os = some (acc ++ (l.filter p).map h, os)
  | [], acc, _, _ => by simp [lcRun]
  | x :: r, acc, H, hl => by
    obtain ⟨ρ1, h1, h2, h3⟩ := H x (by simp)
    simp only [List.map_cons, lcRun, h1, Option.bind_some, h2]
    rw [List.length_cons] at hl
    cases hp : p x with
    | true =>
      rw [if_pos rfl, h3 hp, Option.bind_some, if_pos (by omega), lc_pure f p h r _ (fun y hy => H y (by simp [hy])) (by simp; omega), List.filter_cons_of_pos hp]
      simp
    | false =>
      rw [if_neg (by simp), lc_pure f p h r _ (fun y hy => H y (by simp [hy])) (by omega), List.filter_cons_of_neg (by simp [hp])]
theorem lcD_pure {α : Type} {xi : XI} {xg : XG} {tt : XT} {te : XE} {vs : List Nat} {ρ : List Sl} {os : Os} {l : List α} {f : α → PyData} {p : α → Bool} {h : α → PyData} (hi : xi ρ os = some (l.map f, os))
    (H : ∀ x ∈ l, ∃ ρ1, xg (f x) (wipeR ρ vs) = some ρ1 ∧ tt ρ1 os = some (p x, os) ∧ (p x = true → te ρ1 os = some (h x, os))) (hl : l.length ≤ sizeLine) : lcD xi xg tt te vs ρ os = some ((l.filter p).map h, os) := by
  unfold lcD
  rw [hi, Option.bind_some, lc_pure f p h l [] H (by simpa using hl)]
  simp
theorem lcD_all {α : Type} {xi : XI} {xg : XG} {te : XE} {vs : List Nat} {ρ : List Sl} {os : Os} {l : List α} {f : α → PyData} {h : α → PyData} (hi : xi ρ os = some (l.map f, os))
    (H : ∀ x ∈ l, ∃ ρ1, xg (f x) (wipeR ρ vs) = some ρ1 ∧ te ρ1 os = some (h x, os)) (hl : l.length ≤ sizeLine) : lcD xi xg xYes te vs ρ os = some (l.map h, os) := by
  have q := lcD_pure (tt := xYes) (te := te) (xg := xg) (vs := vs) (p := fun _ => true) (h := h) hi (fun x hx => by
    obtain ⟨ρ1, h1, h2⟩ := H x hx
    exact ⟨ρ1, h1, rfl, fun _ => h2⟩) hl
  rw [q, List.filter_eq_self.mpr (fun _ _ => rfl)]
/-- a for that runs to its end -/
theorem for_nx {α : Type} {xg : XG} {b : SE} (f : α → PyData) (I : List α → List Sl → Os → Prop) : ∀ (l : List α) (ρ : List Sl) (os : Os), I l ρ os →
    (∀ x r ρ os, I (x :: r) ρ os → ∃ ρ1 ρ2 os2, xg (f x) ρ = some ρ1 ∧ b ρ1 os = some (.nx ρ2 os2) ∧ I r ρ2 os2) → ∃ ρ2 os2, forRun xg b (l.map f) ρ os = some (.nx ρ2 os2) ∧ I [] ρ2 os2
  | [], ρ, os, h, _ => ⟨ρ, os, rfl, h⟩
  | x :: r, ρ, os, h, H => by
    obtain ⟨ρ1, ρ2, os2, h1, h2, h3⟩ := H x r ρ os h
    obtain ⟨ρ3, os3, h4, h5⟩ := for_nx f I r ρ2 os2 h3 H
    refine ⟨ρ3, os3, ?_, h5⟩
    simp only [List.map_cons, forRun, h1, Option.bind_some, h2, h4]

/-! ### types -/
@[simp] theorem i_int_int {i : Int} : isiD "int" (.int i) = some (.bool true) := by
  show (kitB "int" "int").map PyData.bool = _
  rw [show kitB "int" "int" = some true by decide +kernel]
  rfl
@[simp] theorem i_bool_int {i : Int} : isiD "bool" (.int i) = some (.bool false) := by
  show (kitB "int" "bool").map PyData.bool = _
  rw [show kitB "int" "bool" = some false by decide +kernel]
  rfl
@[simp] theorem i_int_bool {b : Bool} : isiD "int" (.bool b) = some (.bool true) := by
  show (kitB "bool" "int").map PyData.bool = _
  rw [show kitB "bool" "int" = some true by decide +kernel]
  rfl
@[simp] theorem i_bool_bool {b : Bool} : isiD "bool" (.bool b) = some (.bool true) := by
  show (kitB "bool" "bool").map PyData.bool = _
  rw [show kitB "bool" "bool" = some true by decide +kernel]
  rfl
@[simp] theorem i_int_none : isiD "int" .none = some (.bool false) := by
  show (kitB "NoneType" "int").map PyData.bool = _
  rw [show kitB "NoneType" "int" = some false by decide +kernel]
  rfl
@[simp] theorem i_int_str {x : Str} : isiD "int" (.str x) = some (.bool false) := by
  show (kitB "str" "int").map PyData.bool = _
  rw [show kitB "str" "int" = some false by decide +kernel]
  rfl
@[simp] theorem i_int_list {x : List PyData} : isiD "int" (.list x) = some (.bool false) := by
  show (kitB "list" "int").map PyData.bool = _
  rw [show kitB "list" "int" = some false by decide +kernel]
  rfl
@[simp] theorem i_int_tuple {x : List PyData} : isiD "int" (.tuple x) = some (.bool false) := by
  show (kitB "tuple" "int").map PyData.bool = _
  rw [show kitB "tuple" "int" = some false by decide +kernel]
  rfl
@[simp] theorem i_list_list {x : List PyData} : isiD "list" (.list x) = some (.bool true) := by
  show (kitB "list" "list").map PyData.bool = _
  rw [show kitB "list" "list" = some true by decide +kernel]
  rfl
@[simp] theorem i_tuple_tuple {x : List PyData} : isiD "tuple" (.tuple x) = some (.bool true) := by
  show (kitB "tuple" "tuple").map PyData.bool = _
  rw [show kitB "tuple" "tuple" = some true by decide +kernel]
  rfl
@[simp] theorem i_tuple_none : isiD "tuple" .none = some (.bool false) := by
  show (kitB "NoneType" "tuple").map PyData.bool = _
  rw [show kitB "NoneType" "tuple" = some false by decide +kernel]
  rfl
@[simp] theorem i_tuple_list {x : List PyData} : isiD "tuple" (.list x) = some (.bool false) := by
  show (kitB "list" "tuple").map PyData.bool = _
  rw [show kitB "list" "tuple" = some false by decide +kernel]
  rfl
@[simp] theorem i_tuple_int {i : Int} : isiD "tuple" (.int i) = some (.bool false) := by
  show (kitB "int" "tuple").map PyData.bool = _
  rw [show kitB "int" "tuple" = some false by decide +kernel]
  rfl
@[simp] theorem i_tuple_dict {i : List (PyData × PyData)} : isiD "tuple" (.dict i) = some (.bool false) := by
  show (kitB "dict" "tuple").map PyData.bool = _
  rw [show kitB "dict" "tuple" = some false by decide +kernel]
  rfl

/-! ### operations within their limits -/
theorem sizeLine_eq : sizeLine = 16777216 := rfl
theorem mulD_ok {a b : Int} {p q : Nat} (ha : a.natAbs < 2 ^ p) (hb : b.natAbs < 2 ^ q) (h : p + q ≤ 134217728) : mulD (.int a) (.int b) = some (.int (a * b)) := by
  have h1 := intBits_le ha
  have h2 := intBits_le hb
  show (if bitsOf a + bitsOf b ≤ 134217728 then _ else _) = _
  rw [if_pos (by simp only [bitsOf]; omega)]
theorem modD_ok {a b : Int} (h : 0 < b) : modD (.int a) (.int b) = some (.int (a % b)) := by
  show (if 0 < b then _ else _) = _
  rw [if_pos h]
theorem fdivD_ok {a b : Int} {p : Nat} (h : 0 < b) (ha : a.natAbs < 2 ^ p) (hp : p ≤ 4000) : fdivD (.int a) (.int b) = some (.int (a / b)) := by
  have h1 := intBits_le ha
  show (if _ then _ else _) = _
  rw [if_pos ⟨h, by omega⟩]
theorem shlD_ok {a b : Int} {p : Nat} (h : 0 ≤ b) (ha : a.natAbs < 2 ^ p) (hp : (p : Int) + b ≤ 134217728) : shlD (.int a) (.int b) = some (.int (a * 2 ^ b.toNat)) := by
  have h1 := intBits_le ha
  show (if _ then _ else _) = _
  rw [if_pos ⟨h, by simp only [bitsOf]; omega⟩]
theorem powD_ok {a b : Int} {p : Nat} (h : 0 ≤ b) (ha : a.natAbs < 2 ^ p) (hp : (p : Int) * b ≤ 134217728) : powD (.int a) (.int b) = some (.int (a ^ b.toNat)) := by
  have h1 := intBits_le ha
  show (if _ then _ else _) = _
  rw [if_pos ⟨h, Int.le_trans (Int.mul_le_mul_of_nonneg_right (by simp only [bitsOf]; omega) h) hp⟩]
theorem atI_nat {α : Type} {c : List α} {i : Nat} {x : α} (h : c[i]? = some x) : atI c (i : Int) = some x := by
  have hl : i < c.length := by
    rcases Nat.lt_or_ge i c.length with z | z
    · exact z
    · rw [List.getElem?_eq_none z] at h
      cases h
  unfold atI ixN
  rw [if_pos (by omega), if_pos (by omega)]
  simpa using h
@[simp] theorem boolOf_bool {b : Bool} : boolOf (.bool b) = some b := id rfl
@[simp] theorem listOf_list {b : List PyData} : listOf (.list b) = some b := id rfl
@[simp] theorem addD_int {a b : Int} : addD (.int a) (.int b) = some (.int (a + b)) := id rfl
@[simp] theorem subD_int {a b : Int} : subD (.int a) (.int b) = some (.int (a - b)) := id rfl
@[simp] theorem ltD_int {a b : Int} : ltD (.int a) (.int b) = some (.bool (decide (a < b))) := id rfl
@[simp] theorem leD_int {a b : Int} : leD (.int a) (.int b) = some (.bool (decide (a ≤ b))) := id rfl
@[simp] theorem gtD_int {a b : Int} : gtD (.int a) (.int b) = some (.bool (decide (a > b))) := id rfl
@[simp] theorem geD_int {a b : Int} : geD (.int a) (.int b) = some (.bool (decide (a ≥ b))) := id rfl
@[simp] theorem lenD_list {c : List PyData} : lenD [.list c] = some (.int (c.length : Int)) := id rfl
@[simp] theorem lenD_tuple {c : List PyData} : lenD [.tuple c] = some (.int (c.length : Int)) := id rfl
@[simp] theorem intD_int {i : Int} : intD [.int i] = some (.int i) := id rfl
@[simp] theorem intD_bool {b : Bool} : intD [.bool b] = some (.int (if b then 1 else 0)) := id rfl
@[simp] theorem notD_bool {b : Bool} : notD (.bool b) = some (.bool (!b)) := id rfl
@[simp] theorem truthD_bool {b : Bool} : truthD (.bool b) = some b := id rfl
@[simp] theorem maxD_two {a b : Int} : maxD [.int a, .int b] = some (.int (if b > a then b else a)) := id rfl
@[simp] theorem sumD_ints {ns : List Int} : sumD [.list (ns.map .int)] = some (.int ns.sum) := by
  show (intsOf (ns.map .int)).map _ = _
  rw [intsOf_map]
  rfl
@[simp] theorem allD_bools {ns : List Bool} : allD [.list (ns.map .bool)] = some (.bool (ns.all id)) := by
  show (boolsOf (ns.map .bool)).map _ = _
  rw [boolsOf_map]
  rfl
@[simp] theorem bitsD_int {i : Int} : bitsD (.int i) = some (.int (Builtin.Int.intBits i : Nat)) := id rfl
@[simp] theorem negD_int {i : Int} : negD (.int i) = some (.int (-i)) := id rfl
@[simp] theorem eqD_str {a b : Str} : eqD (.str a) (.str b) = some (.bool (decide (a = b))) := id rfl
@[simp] theorem neD_str {a b : Str} : neD (.str a) (.str b) = some (.bool (!decide (a = b))) := id rfl
theorem ixD_list {c : List PyData} {i : Nat} {x : PyData} (h : c[i]? = some x) : ixD (.list c) (.int (i : Int)) = some x := atI_nat h
theorem ixD_tuple {c : List PyData} {i : Nat} {x : PyData} (h : c[i]? = some x) : ixD (.tuple c) (.int (i : Int)) = some x := atI_nat h
@[simp] theorem ixD_t0 {x : PyData} {c : List PyData} : ixD (.tuple (x :: c)) (.int 0) = some x := atI_nat (i := 0) rfl
@[simp] theorem ixD_t1 {x y : PyData} {c : List PyData} : ixD (.tuple (x :: y :: c)) (.int 1) = some y := atI_nat (i := 1) rfl
@[simp] theorem ixD_t2 {x y z : PyData} {c : List PyData} : ixD (.tuple (x :: y :: z :: c)) (.int 2) = some z := atI_nat (i := 2) rfl
@[simp] theorem ixD_l0 {x : PyData} {c : List PyData} : ixD (.list (x :: c)) (.int 0) = some x := atI_nat (i := 0) rfl
@[simp] theorem ixD_l1 {x y : PyData} {c : List PyData} : ixD (.list (x :: y :: c)) (.int 1) = some y := atI_nat (i := 1) rfl
@[simp] theorem ixD_l2 {x y z : PyData} {c : List PyData} : ixD (.list (x :: y :: z :: c)) (.int 2) = some z := atI_nat (i := 2) rfl
theorem tupD_ok {ds : List PyData} (h : ds.length ≤ sizeLine) : tupD ds = some (.tuple ds) := by
  show (if _ then _ else _) = _
  rw [if_pos h]
theorem lstD_ok {ds : List PyData} (h : ds.length ≤ sizeLine) : lstD ds = some (.list ds) := by
  show (if _ then _ else _) = _
  rw [if_pos h]
@[simp] theorem tupD_0 : tupD [] = some (.tuple []) := tupD_ok (by decide)
@[simp] theorem tupD_1 {a : PyData} : tupD [a] = some (.tuple [a]) := tupD_ok (by simp [sizeLine])
@[simp] theorem tupD_2 {a b : PyData} : tupD [a, b] = some (.tuple [a, b]) := tupD_ok (by simp [sizeLine])
@[simp] theorem tupD_3 {a b c : PyData} : tupD [a, b, c] = some (.tuple [a, b, c]) := tupD_ok (by simp [sizeLine])
@[simp] theorem lstD_0 : lstD [] = some (.list []) := lstD_ok (by decide)
@[simp] theorem lstD_1 {a : PyData} : lstD [a] = some (.list [a]) := lstD_ok (by simp [sizeLine])
@[simp] theorem lstD_2 {a b : PyData} : lstD [a, b] = some (.list [a, b]) := lstD_ok (by simp [sizeLine])
@[simp] theorem lstD_3 {a b c : PyData} : lstD [a, b, c] = some (.list [a, b, c]) := lstD_ok (by simp [sizeLine])
@[simp] theorem lstD_4 {a b c d : PyData} : lstD [a, b, c, d] = some (.list [a, b, c, d]) := lstD_ok (by simp [sizeLine])
theorem addD_list {a b : List PyData} (h : a.length + b.length ≤ sizeLine) : addD (.list a) (.list b) = some (.list (a ++ b)) := by
  show (if _ then _ else _) = _
  rw [if_pos h]
end DL

set_option Elab.async false
set_option linter.all false
set_option maxRecDepth 100000
set_option maxHeartbeats 4000000
set_option exponentiation.threshold 3000
namespace DL
open PySem PySem.Spec PyProof.Rows L2 Evl

/-! ### texts -/
theorem text_inj {a b : Int} (h : Str.ofString (toString a) = Str.ofString (toString b)) : a = b := by
  have h1 : (Str.ofString (toString a)).cps.toList = (Str.ofString (toString b)).cps.toList := by rw [h]
  rw [signs_ofString, signs_ofString] at h1
  have h2 : (toString a).toList = (toString b).toList := by
    have inj : ∀ x y : Char, x.toNat = y.toNat → x = y := fun x y e => by
      apply Char.ext
      exact UInt32.toNat_inj.mp e
    exact (List.map_inj_right inj).mp h1
  exact Int.repr_injective (String.toList_inj.mp h2)
abbrev sh (d : PyData) : List Nat := d.shown.cps.toList
theorem sh_inj {d e : PyData} (h : sh d = sh e) : d.shown = e.shown := by
  have h1 : d.shown.cps = e.shown.cps := by
    rw [← Array.toArray_toList (xs := d.shown.cps), ← Array.toArray_toList (xs := e.shown.cps)]
    exact congrArg List.toArray h
  cases h2 : d.shown
  cases h3 : e.shown
  rw [h2, h3] at h1
  exact congrArg _ h1
theorem cps_app (a b : Str) : (a ++ b).cps.toList = a.cps.toList ++ b.cps.toList := by
  show (a.cps ++ b.cps).toList = _
  rw [Array.toList_append]
theorem len_app (a b : Str) : (a ++ b).length = a.length + b.length := strLen_append a b
theorem sg1 : ((",)" : String) : Str).cps.toList = [44, 41] := by decide
theorem sg2 : ((")" : String) : Str).cps.toList = [41] := by decide
theorem sh_pair (x y : PyData) : sh (.tuple [x, y]) = 40 :: (sh x ++ 44 :: 32 :: (sh y ++ [41])) := by
  show (PyData.tuple [x, y]).shown.cps.toList = _
  rw [PyData.shown_tuple, PyData.shownAll_cons, PyData.shownAll_cons, PyData.shownAll_nil]
  show (("(" : Str) ++ (x.shown ++ ", " ++ y.shown) ++ ((")" : String) : Str)).cps.toList = _
  rw [cps_app, cps_app, cps_app, cps_app, signs_lparen, signs_sep, sg2]
  simp
theorem sh_one (x : PyData) : sh (.tuple [x]) = 40 :: (sh x ++ [44, 41]) := by
  show (PyData.tuple [x]).shown.cps.toList = _
  rw [PyData.shown_tuple, PyData.shownAll_cons, PyData.shownAll_nil]
  show (("(" : Str) ++ x.shown ++ ((",)" : String) : Str)).cps.toList = _
  rw [cps_app, cps_app, signs_lparen, sg1]
  simp
theorem sh_three (x y z : PyData) : sh (.tuple [x, y, z]) = 40 :: (sh x ++ 44 :: 32 :: (sh y ++ 44 :: 32 :: (sh z ++ [41]))) := by
  show (PyData.tuple [x, y, z]).shown.cps.toList = _
  rw [PyData.shown_tuple, PyData.shownAll_cons, PyData.shownAll_cons, PyData.shownAll_cons, PyData.shownAll_nil]
  show (("(" : Str) ++ (x.shown ++ ", " ++ (y.shown ++ ", " ++ z.shown)) ++ ((")" : String) : Str)).cps.toList = _
  rw [cps_app, cps_app, cps_app, cps_app, cps_app, cps_app, signs_lparen, signs_sep, sg2]
  simp
theorem sh_list (xs : List PyData) : ∃ r, sh (.list xs) = 91 :: r := by
  refine ⟨(Str.join ", " (PyData.shownAll xs) ++ "]").cps.toList, ?_⟩
  show (PyData.list xs).shown.cps.toList = _
  rw [PyData.shown_list, cps_app, cps_app, cps_app, signs_lbrack]
  simp
theorem cut_eq {c : Nat} : ∀ {l1 l2 r1 r2 : List Nat}, c ∉ l1 → c ∉ l2 → l1 ++ c :: r1 = l2 ++ c :: r2 → l1 = l2 ∧ r1 = r2
  | [], [], _, _, _, _, h => ⟨rfl, (List.cons_inj_right c).mp h⟩
  | [], b :: l2, _, _, _, h2, h => by
    simp at h
    exact absurd h.1 (by intro e; exact h2 (by simp [e]))
  | a :: l1, [], _, _, h1, _, h => by
    simp at h
    exact absurd h.1 (by intro e; exact h1 (by simp [e]))
  | a :: l1, b :: l2, r1, r2, h1, h2, h => by
    simp only [List.cons_append, List.cons.injEq] at h
    obtain ⟨e1, e2⟩ := cut_eq (fun z => h1 (by simp [z])) (fun z => h2 (by simp [z])) h.2
    exact ⟨by rw [h.1, e1], e2⟩
theorem free_int {k : Nat} (hk : k ≠ 45 ∧ (k < 48 ∨ 57 < k)) (i : Int) : k ∉ sh (.int i) := shown_int_free' hk i
theorem int_text {a b : Int} (h : sh (.int a) = sh (.int b)) : a = b := by
  have := sh_inj h
  rw [PyData.shown_int, PyData.shown_int] at this
  exact text_inj this
/-! ### what can be shown -/
def Pr (d : PyData) (B : Nat) : Prop := d.showable = true ∧ d.depth ≤ 60 ∧ d.shown.length ≤ B ∧ d.hasDict = false
theorem repr_ok {d : PyData} {B : Nat} (h : Pr d B) (hB : B ≤ 100000) : reprD [d] = some (.str d.shown) := by
  obtain ⟨h1, h2, h3, h4⟩ := h
  have h5 : plainRepr d = true := by
    unfold plainRepr
    split
    · rfl
    · rw [h4]
      rfl
  unfold reprD
  simp only
  rw [if_pos ⟨h1, by omega, by rw [DL.sizeLine_eq]; omega, h5⟩]
theorem pr_int {i : Int} (h : i.natAbs < 10 ^ 60) : Pr (.int i) 61 := by
  refine ⟨?_, by simp [PyData.depth], ?_, by simp [PyData.hasDict]⟩
  · simp only [PyData.showable, decide_eq_true_eq]
    by_cases hz : i.natAbs = 0
    · rw [hz]
      decide
    · rw [Nat.log2_lt hz]
      exact Nat.lt_trans h (by decide)
  · rw [PyData.shown_int]
    have h1 := int_text_length_le10 (a := i) (k := 60) (by decide) h
    show (Str.ofString (toString i)).cps.size ≤ 61
    rw [← Array.length_toList, signs_ofString, List.length_map, String.length_toList]
    exact h1
theorem pr_none : Pr .none 61 := ⟨by simp [PyData.showable], by simp [PyData.depth], by rw [PyData.shown_none]; decide, by simp [PyData.hasDict]⟩
theorem pr_bool (b : Bool) : Pr (.bool b) 61 := ⟨by simp [PyData.showable], by simp [PyData.depth], by rw [PyData.shown_bool]; cases b <;> decide, by simp [PyData.hasDict]⟩
theorem join_len (B : Nat) : ∀ (ts : List Str), (∀ t ∈ ts, t.length ≤ B) → (Str.join ", " ts).length ≤ ts.length * (B + 2)
  | [], _ => by simp [Str.join, Str.empty, Str.length]
  | [x], h => by
    have := h x (by simp)
    show x.length ≤ _
    simp
    omega
  | x :: y :: r, h => by
    have ih := join_len B (y :: r) (fun t ht => h t (by simp [ht]))
    have h1 := h x (by simp)
    have h2 : ((", " : String) : Str).length = 2 := rfl
    show (x ++ ", " ++ Str.join ", " (y :: r)).length ≤ _
    rw [len_app, len_app, h2]
    rw [List.length_cons, Nat.add_mul]
    omega
theorem pr_all {B : Nat} : ∀ {ds : List PyData}, (∀ d ∈ ds, Pr d B) → PyData.showableAll ds = true ∧ PyData.hasDictAll ds = false ∧ (∀ t ∈ PyData.shownAll ds, t.length ≤ B)
  | [], _ => by simp [PyData.showableAll, PyData.hasDictAll, PyData.shownAll]
  | d :: r, h => by
    obtain ⟨h1, h2, h3⟩ := pr_all (ds := r) (fun x hx => h x (by simp [hx]))
    obtain ⟨g1, g2, g3, g4⟩ := h d (by simp)
    refine ⟨by simp [PyData.showableAll, h1, g1], by simp [PyData.hasDictAll, h2, g4], fun t ht => ?_⟩
    rw [PyData.shownAll_cons, List.mem_cons] at ht
    rcases ht with ht | ht
    · rw [ht]
      exact g3
    · exact h3 t ht
theorem depthAll_le {D : Nat} : ∀ {ds : List PyData}, (∀ d ∈ ds, d.depth ≤ D) → PyData.depthAll ds ≤ D
  | [], _ => by simp [PyData.depthAll]
  | d :: r, h => by
    have h1 := depthAll_le (ds := r) (fun x hx => h x (by simp [hx]))
    have h2 := h d (by simp)
    simp only [PyData.depthAll]
    omega
theorem pr_list {ds : List PyData} {B C D : Nat} (h : ∀ d ∈ ds, Pr d B) (hd : ∀ d ∈ ds, d.depth ≤ D) (hD : D < 60) (hC : ds.length * (B + 2) + 4 ≤ C) : Pr (.list ds) C := by
  obtain ⟨h1, h2, h3⟩ := pr_all h
  have h4 := join_len B _ h3
  have h5 := depthAll_le hd
  refine ⟨by simpa [PyData.showable] using h1, by simp only [PyData.depth]; omega, ?_, by simpa [PyData.hasDict] using h2⟩
  rw [PyData.shown_list, len_app, len_app]
  rw [PyData.shownAll_length] at h4
  have e1 : (("[" : String) : Str).length = 1 := rfl
  have e2 : (("]" : String) : Str).length = 1 := rfl
  omega
theorem pr_tuple {ds : List PyData} {B C D : Nat} (h : ∀ d ∈ ds, Pr d B) (hd : ∀ d ∈ ds, d.depth ≤ D) (hD : D < 60) (hC : ds.length * (B + 2) + 4 ≤ C) : Pr (.tuple ds) C := by
  obtain ⟨h1, h2, h3⟩ := pr_all h
  have h4 := join_len B _ h3
  have h5 := depthAll_le hd
  refine ⟨by simpa [PyData.showable] using h1, by simp only [PyData.depth]; omega, ?_, by simpa [PyData.hasDict] using h2⟩
  rw [PyData.shown_tuple, len_app, len_app]
  rw [PyData.shownAll_length] at h4
  have e1 : (("(" : String) : Str).length = 1 := rfl
  have e2 : (((if ds.length == 1 then ",)" else ")" : String)) : Str).length ≤ 2 := by
    split <;> decide
  omega

theorem pr_mono {d : PyData} {B C : Nat} (h : Pr d B) (e : B ≤ C) : Pr d C := ⟨h.1, h.2.1, Nat.le_trans h.2.2.1 e, h.2.2.2⟩
/-! ### what can be compared -/
theorem beq_dec {α : Type} [BEq α] [LawfulBEq α] [DecidableEq α] (a b : α) : (a == b) = decide (a = b) := by
  by_cases h : a = b
  · subst h
    simp
  · simp [h]
structure Cl (d : PyData) (D : Nat) : Prop where
  l : d.canLay0 = true
  d : d.depth ≤ D
theorem cl_int {i : Int} {D : Nat} : Cl (.int i) D := ⟨rfl, by simp [PyData.depth]⟩
theorem cl_bool {i : Bool} {D : Nat} : Cl (.bool i) D := ⟨rfl, by simp [PyData.depth]⟩
theorem cl_none {D : Nat} : Cl .none D := ⟨rfl, by simp [PyData.depth]⟩
theorem cl_str {x : Str} {D : Nat} (h : (PyData.str x).canLay0 = true) : Cl (.str x) D := ⟨h, by simp [PyData.depth]⟩
theorem canAll {ds : List PyData} {D : Nat} (h : ∀ d ∈ ds, Cl d D) : PyData.canLayAll0 ds = true := by
  induction ds with
  | nil => rfl
  | cons x r ih =>
    simp only [PyData.canLayAll0, (h x (by simp)).l, ih fun d hd => h d (by simp [hd]), Bool.and_self]
theorem cl_list {ds : List PyData} {D : Nat} (h : ∀ d ∈ ds, Cl d D) : Cl (.list ds) (D + 1) := ⟨canAll h, by
  have := depthAll_le fun d hd => (h d hd).d
  simp only [PyData.depth]
  omega⟩
theorem cl_tuple {ds : List PyData} {D : Nat} (h : ∀ d ∈ ds, Cl d D) : Cl (.tuple ds) (D + 1) := ⟨canAll h, by
  have := depthAll_le fun d hd => (h d hd).d
  simp only [PyData.depth]
  omega⟩
theorem Cl.mono {d : PyData} {D E : Nat} (h : Cl d D) (e : D ≤ E) : Cl d E := ⟨h.l, Nat.le_trans h.d e⟩
theorem Cl.shaped {d : PyData} {D : Nat} (h : Cl d D) (e : D ≤ 64 := by decide) : SeqAt.shaped d = true := by
  simp [SeqAt.shaped, h.l]
  exact Nat.le_trans h.d e
theorem eqD_cl {x y : PyData} {D E : Nat} (hx : Cl x D) (hy : Cl y E) (h1 : D ≤ 64 := by decide) (h2 : E ≤ 64 := by decide) : eqD x y = some (.bool (PyData.eqv x y)) := by
  unfold eqD
  split
  · simp [PyData.eqv]
    exact (beq_dec _ _).symm
  · rw [if_pos ⟨hx.shaped h1, hy.shaped h2⟩]
theorem neD_cl {x y : PyData} {D E : Nat} (hx : Cl x D) (hy : Cl y E) (h1 : D ≤ 64 := by decide) (h2 : E ≤ 64 := by decide) : neD x y = some (.bool (!PyData.eqv x y)) := by
  unfold neD
  split
  · simp [PyData.eqv]
    exact (beq_dec _ _).symm
  · rw [if_pos ⟨hx.shaped h1, hy.shaped h2⟩]
theorem eqD_self {x : PyData} {D : Nat} (hx : Cl x D) (h1 : D ≤ 64 := by decide) : eqD x x = some (.bool true) := by
  rw [eqD_cl hx hx h1 h1, SeqAt.eqv_refl x hx.l]
theorem neD_self {x : PyData} {D : Nat} (hx : Cl x D) (h1 : D ≤ 64 := by decide) : neD x x = some (.bool false) := by
  rw [neD_cl hx hx h1 h1, SeqAt.eqv_refl x hx.l]
  rfl
theorem eqv_int {x y : Int} : PyData.eqv (.int x) (.int y) = decide (x = y) := by
  simp [PyData.eqv]
  exact beq_dec _ _
theorem eqD_int {x y : Int} : eqD (.int x) (.int y) = some (.bool (decide (x = y))) := by rw [eqD_cl (D := 0) (E := 0) cl_int cl_int, eqv_int]
theorem neD_int {x y : Int} : neD (.int x) (.int y) = some (.bool (!decide (x = y))) := by rw [neD_cl (D := 0) (E := 0) cl_int cl_int, eqv_int]
theorem eqD_none_int {y : Int} : eqD .none (.int y) = some (.bool false) := by
  rw [eqD_cl (D := 0) (E := 0) cl_none cl_int]
  rfl
theorem neD_none_int {y : Int} : neD .none (.int y) = some (.bool true) := by
  rw [neD_cl (D := 0) (E := 0) cl_none cl_int]
  rfl
theorem eqD_int_none {y : Int} : eqD (.int y) .none = some (.bool false) := by
  rw [eqD_cl (D := 0) (E := 0) cl_int cl_none]
  rfl
theorem eqv_nil (l : List PyData) : PyData.eqv (.list l) (.list []) = l.isEmpty := by
  cases l <;> simp [PyData.eqv, PyData.eqvAll]
theorem seq_nx {a b : SE} {ρ ρ1 : List Sl} {os os1 : Os} {r : Option Out} (h1 : a ρ os = some (.nx ρ1 os1)) (h2 : b ρ1 os1 = r) : sSeq a b ρ os = r := by
  rw [a_seq, h1]
  exact h2
@[simp] theorem v_d {os : Os} {x : PyData} : viewS os (.d x) = .d x := id rfl
@[simp] theorem v_u {os : Os} : viewS os .u = .u := id rfl
theorem viewS_o {os : Os} {k : Nat} {g : List PyData} (h : os[k]? = some (some (.l g))) : viewS os (.o k) = .d (.list g) := by
  unfold viewS
  simp only
  rw [h]
@[simp] theorem asM_eq {M : XMF} {ss : List Sl} {os : Os} : asM M ss os = (M ss os).map fun p => (.list p.1, p.2) := id rfl
/-! walks over lists of one's own whose parts change nothing -/
theorem lcLive_all {α : Type} {q : Nat} {g : XGL} {te : XE} {ρ : List Sl} {os : Os} {items : List α} {f : α → Sl} {h : α → PyData} (hit : ∀ i, itemO os q i = some ((items[i]?).map f))
    (H : ∀ x ∈ items, ∃ ρ1, g (f x) ρ = some ρ1 ∧ te ρ1 os = some (h x, os)) (hz : items.length ≤ sizeLine) : ∀ (m i : Nat) (acc : List PyData), i ≤ items.length → items.length + 1 = m + i → acc.length = i → lcLive q g xYes te ρ m i acc os = some (acc ++ (items.drop i).map h, os)
  | 0, i, acc, hi, e, ha => by omega
  | m + 1, i, acc, hi, e, ha => by
    unfold lcLive
    rw [hit i, Option.bind_some]
    by_cases hl : i = items.length
    · subst hl
      simp
    · have hlt : i < items.length := by omega
      have e1 : items[i]? = some items[i] := by simp [hlt]
      obtain ⟨ρ1, h1, h2⟩ := H items[i] (List.getElem_mem hlt)
      have ih := lcLive_all hit H hz m (i + 1) (acc ++ [h items[i]]) (by omega) (by omega) (by simp [ha])
      have hz2 : acc.length < sizeLine := by omega
      simp -implicitDefEqProofs only [e1, Option.map_some, h1, Option.bind_some, a_yes, if_true, h2, hz2, ih]
      rw [List.drop_eq_getElem_cons hlt]
      simp only [List.map_cons, List.append_assoc, List.cons_append, List.nil_append]
theorem lcL_all {α : Type} {q : Nat} {xr : XS} {g : XGL} {te : XE} {vs : List Nat} {ρ : List Sl} {os : Os} {items : List α} {f : α → Sl} {h : α → PyData} (hr : xr ρ os = some (.o q, os)) (hl : lenO os q = some items.length) (hit : ∀ i, itemO os q i = some ((items[i]?).map f))
    (H : ∀ x ∈ items, ∃ ρ1, g (f x) (wipeR ρ vs) = some ρ1 ∧ te ρ1 os = some (h x, os)) (hz : items.length ≤ sizeLine) : lcL xr g xYes te vs ρ os = some (items.map h, os) := by
  unfold lcL
  rw [hr, Option.bind_some]
  simp only
  rw [hl, Option.bind_some, lcLive_all hit H hz _ 0 [] (Nat.zero_le _) rfl rfl]
  simp
theorem lcLS_all {α : Type} {q : Nat} {xs : XS} {g : XGL} {te : XE} {vs : List Nat} {ρ : List Sl} {os os1 os2 : Os} {items : List α} {f : α → Sl} {h : α → PyData} (hr : xs ρ os = some (.o q, os1)) (hl : lenO os1 q = some items.length) (hit : ∀ i, itemO os1 q i = some ((items[i]?).map f))
    (H : ∀ x ∈ items, ∃ ρ1, g (f x) (wipeR ρ vs) = some ρ1 ∧ te ρ1 os1 = some (h x, os1)) (hz : items.length ≤ sizeLine) (hc : cutW os.length os1 = some os2) : lcLS xs g xYes te vs ρ os = some (items.map h, os2) := by
  unfold lcLS
  rw [hr, Option.bind_some]
  simp only
  rw [hl, Option.bind_some, lcLive_all hit H hz _ 0 [] (Nat.zero_le _) rfl rfl]
  simp [hc]
theorem item_l {os : Os} {q : Nat} {c : List PyData} (h : os[q]? = some (some (.l c))) (i : Nat) : itemO os q i = some ((c[i]?).map .d) := by
  unfold itemO
  rw [h]
theorem item_r {os : Os} {q : Nat} {c : List Sl} (h : os[q]? = some (some (.r c))) (i : Nat) : itemO os q i = some c[i]? := by
  unfold itemO
  rw [h]
theorem leno_l {os : Os} {q : Nat} {c : List PyData} (h : os[q]? = some (some (.l c))) : lenO os q = some c.length := by
  unfold lenO
  rw [h]
theorem leno_r {os : Os} {q : Nat} {c : List Sl} (h : os[q]? = some (some (.r c))) : lenO os q = some c.length := by
  unfold lenO
  rw [h]
/-- a for that does its part for each -/
theorem for_fold {α β : Type} {xg : XG} {b : SE} (f : α → PyData) (st : β → List Sl) (od : β → Os) (step : β → α → Option β) (H : ∀ (s s' : β) (x : α), step s x = some s' → ∃ ρ1, xg (f x) (st s) = some ρ1 ∧ b ρ1 (od s) = some (.nx (st s') (od s'))) :
    ∀ (l : List α) (s s' : β), l.foldlM step s = some s' → forRun xg b (l.map f) (st s) (od s) = some (.nx (st s') (od s'))
  | [], s, s', h => by
    cases h
    rfl
  | x :: r, s, s', h => by
    rw [List.foldlM_cons] at h
    cases h1 : step s x with
    | none => rw [h1] at h; cases h
    | some s1 =>
      rw [h1] at h
      obtain ⟨ρ1, e1, e2⟩ := H s s1 x h1
      have ih := for_fold f st od step H r s1 s' h
      simp only [List.map_cons, forRun, e1, Option.bind_some, e2, ih]
end DL

set_option Elab.async false
set_option linter.all false
set_option maxRecDepth 100000
set_option maxHeartbeats 4000000
namespace DL
open PySem PySem.Spec PyProof.Rows L2 Evl
/-! a module's function for how many choices there are -/
section
variable {X : Cx}
def rComb : List V → Hp → VK → Prop := fun vs H Q => ∃ a b : Int, vs = [.int a, .int b] ∧ (0 ≤ a ∧ a ≤ 1000 ∧ 0 ≤ b) ∧ Q (.int (PySem.W.mcComb a b)) H
theorem cr_comb : CallR X (.builtin "math.comb") rComb := by
  intro pins s σ H vs us Q I r h
  obtain ⟨a, b, rfl, hc, q⟩ := h
  obtain ⟨t, u, rfl⟩ := Vals.int2 r
  exact PySem.W.mc_comb hc.1 hc.2.2 (by omega) (.inr (by omega)) fun _ => ⟨.int _, H, I.tok _, ⟨_, rfl⟩, q⟩
def combD : List PyData → Option PyData
  | [.int a, .int b] => if 0 ≤ a ∧ a ≤ 1000 ∧ 0 ≤ b then some (.int (PySem.W.mcComb a b)) else none
  | _ => none
theorem c_comb : CallR X (.builtin "math.comb") (rC X.K combD) := callC fun pins s σ H H0 xs us Q ds z I r s0 ha hf q => by
  unfold combD at hf
  split at hf
  · split at hf
    · rename_i hc
      cases hf
      obtain ⟨x, y, rfl, h1, h2⟩ := da2 ha
      cases h1
      cases h2
      exact cr_comb pins s σ H _ us Q I r ⟨_, _, rfl, hc, q _ H0 H (Gr.refl s0) (.int _)⟩
    · cases hf
  · cases hf
variable {x : Str} {p pos : Pos} {e : Expr} {es : List Expr} {ra : XA} {id : String}
theorem px_bf {g : List PyData → Option PyData} (hc : CallR X (.builtin id) (rC X.K g)) (hg : Gl X x) (hm : X.mg x = some (.builtin id)) (ha : PXA X (e :: es) ra) (hdb : (x == ("__debug__" : Str)) = false := by decide)
    (he : starEach (e :: es) X.env = (false, eval e X.env) :: starEach es X.env := by rfl) (hpl : (backTo pos (starEach es X.env)).any (·.1) = false := by rfl) : PX X (.Call (.Name x p) (e :: es) [] pos) (xCall g ra) := pe_imp (pe_callBfun hc hg hm ha hdb he hpl) fun _ _ _ q => to_call q
@[simp] theorem a_ls {n : Nat} {xs : List PyData → List Sl → Option (List Sl)} {ρ : List Sl} {ds : List PyData} : gLs n xs (.list ds) ρ = if ds.length = n then xs ds ρ else none := id rfl
end
theorem lcLive_pure {α : Type} {q : Nat} {g : XGL} {tt : XT} {te : XE} {ρ : List Sl} {os : Os} {items : List α} {f : α → Sl} {p : α → Bool} {h : α → PyData} (hit : ∀ i, itemO os q i = some ((items[i]?).map f))
    (H : ∀ x ∈ items, ∃ ρ1, g (f x) ρ = some ρ1 ∧ tt ρ1 os = some (p x, os) ∧ (p x = true → te ρ1 os = some (h x, os))) (hz : items.length ≤ sizeLine) : ∀ (m i : Nat) (acc : List PyData), i ≤ items.length → items.length + 1 = m + i → acc.length ≤ i → lcLive q g tt te ρ m i acc os = some (acc ++ ((items.drop i).filter p).map h, os)
  | 0, i, acc, hi, e, ha => by omega
  | m + 1, i, acc, hi, e, ha => by
    unfold lcLive
    rw [hit i, Option.bind_some]
    by_cases hl : i = items.length
    · subst hl
      simp
    · have hlt : i < items.length := by omega
      have e1 : items[i]? = some items[i] := List.getElem?_eq_getElem hlt
      obtain ⟨ρ1, h1, h2, h3⟩ := H items[i] (List.getElem_mem hlt)
      rw [List.drop_eq_getElem_cons hlt]
      cases hp : p items[i] with
      | true =>
        have ih := lcLive_pure hit H hz m (i + 1) (acc ++ [h items[i]]) (by omega) (by omega) (by simp; omega)
        have hz2 : acc.length < sizeLine := by omega
        rw [hp] at h2
        simp -implicitDefEqProofs only [e1, Option.map_some, h1, Option.bind_some, h2, if_true, h3 hp, hz2, ih]
        rw [List.filter_cons_of_pos hp]
        simp only [List.map_cons, List.append_assoc, List.cons_append, List.nil_append]
      | false =>
        have ih := lcLive_pure hit H hz m (i + 1) acc (by omega) (by omega) (by omega)
        rw [hp] at h2
        simp -implicitDefEqProofs only [e1, Option.map_some, h1, Option.bind_some, h2, Bool.false_eq_true, if_false, ih]
        rw [List.filter_cons_of_neg (by rw [hp]; exact Bool.false_ne_true)]
theorem lcL_pure {α : Type} {q : Nat} {xr : XS} {g : XGL} {tt : XT} {te : XE} {vs : List Nat} {ρ : List Sl} {os : Os} {items : List α} {f : α → Sl} {p : α → Bool} {h : α → PyData} (hr : xr ρ os = some (.o q, os)) (hl : lenO os q = some items.length) (hit : ∀ i, itemO os q i = some ((items[i]?).map f))
    (H : ∀ x ∈ items, ∃ ρ1, g (f x) (wipeR ρ vs) = some ρ1 ∧ tt ρ1 os = some (p x, os) ∧ (p x = true → te ρ1 os = some (h x, os))) (hz : items.length ≤ sizeLine) : lcL xr g tt te vs ρ os = some ((items.filter p).map h, os) := by
  unfold lcL
  rw [hr, Option.bind_some]
  simp only
  rw [hl, Option.bind_some, lcLive_pure hit H hz _ 0 [] (Nat.zero_le _) rfl (Nat.le_refl _)]
  simp
end DL

set_option Elab.async false
set_option linter.all false
set_option maxRecDepth 100000
set_option maxHeartbeats 4000000
namespace DL
open PySem PySem.Spec PyProof.Rows L2 Evl
/-! the place of a text in a list of texts -/
section
variable {X : Cx} {a b : Expr} {xa xb : XE} {apos cpos : Pos}
theorem da_strs {K : PySem.W.Frag} {H : Hp} : ∀ {vs : List V} {ns : List Str}, DaAll K H vs (ns.map .str) → vs = ns.map V.str
  | [], [], _ => rfl
  | v :: vs, n :: ns, h => by
    cases h with
    | cons h1 h2 =>
      cases h1
      rw [da_strs h2]
      rfl
  | [], _ :: _, h => by cases h
  | _ :: _, [], h => by cases h
def idxD : PyData → PyData → Option PyData
  | .list c, .str x => (strsOf c).bind fun ss => (ss.findIdx? fun y => decide (y = x)).map fun j : Nat => .int (j : Int)
  | _, _ => none
theorem px_index (ha : PX X a xa) (hb : PX X b xb)
    (hbase : attributeBase a "index" X.env (eval a X.env) = eval a X.env := by rfl)
    (hfew : ((backTo cpos (starEach [b] X.env)).all (fun x => !x.1) && (backToKw cpos (keywordEach [] X.env)).all (fun x => x.1.isSome)
      && decide ([b].length + ([] : List Keyword).length + (if ([] : List Keyword).isEmpty then 0 else 1) < 30)) = true := by rfl)
    (hline : (apos.endLine == cpos.line) = true := by rfl) (hs : starEach [b] X.env = (false, eval b X.env) :: starEach [] X.env := by rfl) (hplain : (backTo cpos (starEach [] X.env)).any (·.1) = false := by rfl) : PX X (.Call (.Attribute a "index" apos) [b] [] cpos) (xOp idxD xa xb) :=
  pe_imp (pe_bm PySem.F.plainAttrs_list PySem.F.slot_list_index PySem.F.type_list_index mt_index ha (pa_cons hb pa_nil hs) hbase hfew hline hs hplain) fun σ H Q q => by
    obtain ⟨as, ρ, os, H0, d, os', n, hx, k⟩ := q
    obtain ⟨x, os1, y, h1, h2, h3⟩ := xOp_some hx
    refine ⟨as, ρ, os, H0, x, os1, n, h1, fun v H1 H1' n1 g1 r1 => ?_⟩
    unfold idxD at h3
    split at h3
    · rename_i c z
      cases h4 : strsOf c with
      | none => rw [h4] at h3; cases h3
      | some ss =>
        rw [h4, Option.bind_some] at h3
        obtain ⟨j, h5, rfl⟩ := Option.map_eq_some_iff.mp h3
        have hc := strsOf_eq h4
        subst hc
        obtain ⟨hj, hp, hno⟩ := List.findIdx?_eq_some_iff_getElem.mp h5
        cases r1 with
        | @lst p vs ds l1 l2 =>
          refine ⟨.inl ⟨rfl, vs, ex_l n1.sub l1⟩, as, ρ, os1, H1, .str z, os', n1, h2, fun u H2 H2' n2 g2 r2 => ?_⟩
          have hv := da_strs l2
          subst hv
          cases r2
          have l3 := ex_l n2.sub (ex_l g2.e0 l1)
          refine ⟨p, ss.map V.str, .str z, j, .str ss[j], rfl, rfl, l3, rfl, by simp [flatV], by simp [hj], ?_, fun m z' hm hz => ?_, k _ H2 H2' n2 (g1.tr g2) (.int _)⟩
          · have := of_decide_eq_true hp
            rw [this]
            simp [eqV]
          · rw [List.getElem?_map, List.getElem?_eq_getElem (by omega), Option.map_some] at hz
            cases hz
            have := hno m hm
            simp at this
            simpa [eqV] using this
    · cases h3
end
end DL

set_option Elab.async false
set_option linter.all false
set_option maxRecDepth 100000
set_option maxHeartbeats 4000000
namespace DL
open PySem PySem.Spec PyProof.Rows L2 Evl
/-! list(x) of a list or a tuple; min of a list of pairs of whole numbers -/
def lstOfD : List PyData → Option PyData
  | [.list c] => some (.list c)
  | [.tuple c] => some (.list c)
  | _ => none
theorem c_listOf {X : Cx} : CallR X (.type "list") (rC X.K lstOfD) := callC fun pins s σ H H0 xs us Q ds z I r s0 ha hf q => by
  unfold lstOfD at hf
  split at hf
  · cases hf
    obtain ⟨x, rfl, h⟩ := da1 ha
    cases h with
    | lst h1 h2 =>
      refine call_list_of pins s σ H _ us Q I r ⟨_, _, rfl, .inl (ex_l s0 h1), fun l hl => ?_⟩
      exact q _ _ _ (Gr.new s0 hl) (.lst (SqL.of upd_same) (DaAll.mono (Ex.new (fresh_back s0 hl)) _ _ h2))
  · cases hf
    obtain ⟨x, rfl, h⟩ := da1 ha
    cases h with
    | tup h1 h2 =>
      refine call_list_of pins s σ H _ us Q I r ⟨_, _, rfl, .inr (SqT.of (s0 _ _ h1)), fun l hl => ?_⟩
      exact q _ _ _ (Gr.new s0 hl) (.lst (SqL.of upd_same) (DaAll.mono (Ex.new (fresh_back s0 hl)) _ _ h2))
  · cases hf
def iprs : List PyData → Option (List (Int × Int))
  | [] => some []
  | .tuple [.int a, .int b] :: r => (iprs r).map ((a, b) :: ·)
  | _ => none
def pairD2 (p : Int × Int) : PyData := .tuple [.int p.1, .int p.2]
theorem iprs_eq : ∀ {c : List PyData} {ps : List (Int × Int)}, iprs c = some ps → c = ps.map pairD2 := fun {c} => by
  induction c with
  | nil =>
    intro ps h
    cases h
    rfl
  | cons d r ih =>
    intro ps h
    unfold iprs at h
    split at h
    · rename_i e
      cases e
    · rename_i e
      cases e
      obtain ⟨qs, h1, rfl⟩ := Option.map_eq_some_iff.mp h
      rw [ih h1]
      rfl
    · cases h
theorem iprs_map : ∀ ps : List (Int × Int), iprs (ps.map pairD2) = some ps
  | [] => rfl
  | p :: r => by
    show (iprs (r.map pairD2)).map _ = _
    rw [iprs_map r]
    rfl
def ltP (p q : Int × Int) : Bool := decide (p.1 < q.1 ∨ (p.1 = q.1 ∧ p.2 < q.2))
def minF (p : Int × Int) (ps : List (Int × Int)) : Int × Int := ps.foldl (fun a y => if ltP y a then y else a) p
def minPD : List PyData → Option PyData
  | [.list c] => (iprs c).bind fun ps => match ps with
    | [] => none
    | p :: r => some (pairD2 (minF p r))
  | _ => none
open PySem.W in
theorem dataLt_pair (p q : Int × Int) : dataLt (pairD2 p) (pairD2 q) = ltP p q := by
  unfold pairD2
  rw [dataLt_tuple]
  have al : ∀ a b : Int, alike (.int a) (.int b) = true := fun _ _ => by simp [alike]
  by_cases h : p.1 = q.1
  · have e1 : PyData.eqv (.int p.1) (.int q.1) = true := by rw [eqv_int]; simp [h]
    rw [dataLt_all_yes (al _ _) e1]
    by_cases h2 : p.2 = q.2
    · have e2 : PyData.eqv (.int p.2) (.int q.2) = true := by rw [eqv_int]; simp [h2]
      rw [dataLt_all_yes (al _ _) e2]
      unfold ltP
      rw [decide_eq_false (by omega)]
      rfl
    · have e2 : PyData.eqv (.int p.2) (.int q.2) = false := by rw [eqv_int]; simp [h2]
      rw [dataLt_all_no (al _ _) e2, dataLt_int]
      unfold ltP
      by_cases h3 : p.2 < q.2
      · rw [decide_eq_true h3, decide_eq_true (.inr ⟨h, h3⟩)]
      · rw [decide_eq_false h3, decide_eq_false (by omega)]
  · have e1 : PyData.eqv (.int p.1) (.int q.1) = false := by rw [eqv_int]; simp [h]
    rw [dataLt_all_no (al _ _) e1, dataLt_int]
    unfold ltP
    by_cases h3 : p.1 < q.1
    · rw [decide_eq_true h3, decide_eq_true (.inl h3)]
    · rw [decide_eq_false h3, decide_eq_false (by omega)]
open PySem.W in
theorem minD_pairs : ∀ (ps : List (Int × Int)) (p : Int × Int), PySem.W.minD (pairD2 p) (ps.map pairD2) = pairD2 (minF p ps)
  | [], p => rfl
  | q :: r, p => by
    show PySem.W.minD (if dataLt (pairD2 q) (pairD2 p) then pairD2 q else pairD2 p) (r.map pairD2) = pairD2 (minF (if ltP q p then q else p) r)
    rw [dataLt_pair]
    split
    · exact minD_pairs r q
    · exact minD_pairs r p
theorem minF_mem : ∀ (ps : List (Int × Int)) (p : Int × Int), minF p ps ∈ p :: ps
  | [], p => by simp [minF]
  | q :: r, p => by
    show minF (if ltP q p then q else p) r ∈ _
    split
    · have := minF_mem r q
      exact List.mem_cons_of_mem _ this
    · have := minF_mem r p
      rcases List.mem_cons.mp this with h | h
      · rw [h]
        simp
      · simp [h]
theorem c_minP {X : Cx} (hc : X.calm = true) (hu : X.A.units + 65 < cLine) : CallR X (.builtin "min") (rC X.K minPD) := callC fun pins s σ H H0 xs us Q ds z I r s0 ha hf q => by
  unfold minPD at hf
  split at hf
  · rename_i c
    obtain ⟨x, rfl, h⟩ := da1 ha
    cases hp : iprs c with
    | none => rw [hp] at hf; cases hf
    | some ps =>
      rw [hp, Option.bind_some] at hf
      cases ps with
      | nil => cases hf
      | cons p r0 =>
        cases hf
        have hc2 := iprs_eq hp
        subst hc2
        cases h with
        | lst h1 h2 =>
          rw [Vals.ref1 r]
          obtain ⟨its, rv, hl, hz⟩ := I.list (ex_l s0 h1)
          obtain ⟨as, hr⟩ := DaAll.reads I _ _ its (DaAll.mono s0 _ _ h2) rv
          have al2 : ∀ a b : Int × Int, PySem.W.alike (pairD2 a) (pairD2 b) = true := fun a b => by simp [pairD2, PySem.W.alike, PySem.W.alikeAll]
          have al : PySem.W.AlikeAll ((p :: r0).map pairD2) := by
            refine ⟨fun x hx y hy => ?_, fun x hx => ?_⟩
            · obtain ⟨a, _, rfl⟩ := List.mem_map.mp hx
              obtain ⟨b, _, rfl⟩ := List.mem_map.mp hy
              exact al2 a b
            · obtain ⟨a, _, rfl⟩ := List.mem_map.mp hx
              intro e
              cases e
          have dp : PyData.depthAll ((p :: r0).map pairD2) ≤ 1 := by
            have : ∀ l : List (Int × Int), PyData.depthAll (l.map pairD2) ≤ 1 := fun l => by
              induction l with
              | nil => simp [PyData.depthAll]
              | cons a l ih =>
                have e : PyData.depthAll ((a :: l).map pairD2) = max (pairD2 a).depth (PyData.depthAll (l.map pairD2)) := by simp [PyData.depthAll]
                have e2 : (pairD2 a).depth ≤ 1 := by simp [pairD2, PyData.depth, PyData.depthAll]
                rw [e]
                omega
            exact this _
          refine PySem.W.min_list_data (x := pairD2 p) (xs := r0.map pairD2) (I.ok.hd hc) hl.isList (by simpa using hr) al (by
            have : PyData.depthAll (pairD2 p :: r0.map pairD2) ≤ 1 := dp
            omega) fun i v h' tk bs hi hr2 hk => ?_
          rename_i a0 xs0
          have hi2 : its[i]? = some v := by simpa using hi
          obtain ⟨w, hw⟩ : ∃ w, xs0[i]? = some w := by
            have hlt : i < its.length := (List.getElem?_eq_some_iff.mp hi2).1
            have := rv.length
            exact ⟨xs0[i]'(by omega), List.getElem?_eq_getElem (by omega)⟩
          obtain ⟨v2, hv2, rel⟩ := Vals.get rv hw
          rw [hi2] at hv2
          cases hv2
          obtain ⟨d, hd, dw⟩ := DaAll.atV h2 hw
          have hmem : d ∈ (p :: r0).map pairD2 := List.mem_of_getElem? hd
          obtain ⟨a, _, rfl⟩ := List.mem_map.mp hmem
          obtain ⟨as2, hr3⟩ := Da.reads I _ w v (Da.mono s0 _ _ dw) rel
          have hr4 := PySem.W.reads_keeps hk hr3
          rw [minD_pairs] at hr2
          have e := PySem.W.alike_unique _ _ _ _ _ (al2 _ _) hr4 hr2
          refine ⟨w, H, I.kept (t' := tk) hk, rel, q _ H0 H (Gr.refl s0) ?_⟩
          rw [← e]
          exact dw
  · cases hf
end DL

set_option Elab.async false
set_option linter.all false
set_option maxRecDepth 100000
set_option maxHeartbeats 4000000
namespace DL
open PySem PySem.Spec PyProof.Rows L2 Evl
/-! tuple(x) of a list or a tuple -/
def tupOfD : List PyData → Option PyData
  | [.list c] => some (.tuple c)
  | [.tuple c] => some (.tuple c)
  | _ => none
theorem c_tupOf {X : Cx} : CallR X (.type "tuple") (rC X.K tupOfD) := callC fun pins s σ H H0 xs us Q ds z I r s0 ha hf q => by
  unfold tupOfD at hf
  split at hf
  · cases hf
    obtain ⟨x, rfl, h⟩ := da1 ha
    cases h with
    | lst h1 h2 =>
      refine call_tuple_of pins s σ H _ us Q I r ⟨_, _, rfl, .inl ⟨ex_l s0 h1, fun l hl => ?_⟩⟩
      exact q _ _ _ (Gr.new s0 hl) (.tup upd_same (DaAll.mono (Ex.new (fresh_back s0 hl)) _ _ h2))
  · cases hf
    obtain ⟨x, rfl, h⟩ := da1 ha
    cases h with
    | tup h1 h2 =>
      refine call_tuple_of pins s σ H _ us Q I r ⟨_, _, rfl, .inr ⟨SqT.of (s0 _ _ h1), ?_⟩⟩
      exact q _ _ _ (Gr.refl s0) (.tup h1 h2)
  · cases hf
/-! what is handed back, taken as data -/
def asMS (M : XMS) : XM := fun ss os => (M ss os).bind fun p => match p.1 with
  | .d x => (cutW os.length p.2).map fun w => (x, w)
  | .o j => match p.2[j]? with
    | some (some (.l ds)) => if os.length ≤ j then (cutW os.length p.2).map fun w => (.list ds, w) else none
    | _ => none
  | .u => none
theorem asMS_ok {P : Program} {w : World} {K : PySem.W.Frag} {mg : Str → Option Value} {base : Heap} {k n : Nat} {f : Addr} {fd : FuncData} {ps : List Str} {M : XMS} (F : FnG P w K mg base k f fd n ps (spS K n M)) : FnG P w K mg base k f fd n ps (spM K n (asMS M)) := by
  refine ⟨F.pl, fun vs H Q E h => h.1, fun A outer s H args us vs Q E hr e0 hb r h => F.run A outer s H args us vs Q E hr e0 hb r ?_⟩
  obtain ⟨hlen, as, ss, os, H0, d, os', h1, h2, h3, h4, h5⟩ := h
  unfold asMS at h4
  cases q : M ss os with
  | none => rw [q] at h4; cases h4
  | some p =>
    obtain ⟨sl, os1⟩ := p
    rw [q, Option.bind_some] at h4
    refine ⟨hlen, as, ss, os, H0, sl, os1, h1, h2, h3, q, fun v as' H0' H' e w2 g r2 => ?_⟩
    cases sl with
    | u => cases h4
    | d x =>
      simp only at h4
      cases c : cutW os.length os1 with
      | none => rw [c] at h4; cases h4
      | some w3 =>
        rw [c] at h4
        cases h4
        rw [← h2.len] at c
        exact h5 v H0' H' (w2.cut e c) g r2
    | o j =>
      simp only at h4
      split at h4
      · rename_i ds hj
        split at h4
        · rename_i hle
          cases c : cutW os.length os1 with
          | none => rw [c] at h4; cases h4
          | some w3 =>
            rw [c] at h4
            cases h4
            rw [← h2.len] at c
            obtain ⟨a, ha, rfl⟩ := r2
            obtain ⟨q1, vs', q2, q3⟩ := w2.l j a ds ha hj
            obtain ⟨bs, eb, hbs⟩ := e
            have hlen2 := h2.len
            have hab : a ∈ bs := by
              rw [eb, List.getElem?_append_right (by omega)] at ha
              exact List.mem_of_getElem? ha
            have hna : a ∉ as := fun hm => by
              have nd := w2.nd
              rw [eb, List.nodup_append] at nd
              exact nd.2.2 a hm a hab rfl
            exact h5 _ _ H' ((w2.cut ⟨bs, eb, hbs⟩ c).keep q1 hna) (keep_new h1 g (hbs a hab) q1 q2) (.lst (SqL.of upd_same) (DaAll.mono (Ex.new q1) _ _ q3))
        · cases h4
      · cases h4
@[simp] theorem asMS_eq {M : XMS} {ss : List Sl} {os : Os} : asMS M ss os = (M ss os).bind fun p => match p.1 with
  | .d x => (cutW os.length p.2).map fun w => (x, w)
  | .o j => match p.2[j]? with
    | some (some (.l ds)) => if os.length ≤ j then (cutW os.length p.2).map fun w => (.list ds, w) else none
    | _ => none
  | .u => none := id rfl
/-! min of a list of alike data -/
def alikeB (l : List PyData) : Bool := l.all fun x => l.all fun y => PySem.W.alike x y
def notNone : PyData → Bool
  | .none => false
  | _ => true
def minGD : List PyData → Option PyData
  | [.list (d :: ds)] => if alikeB (d :: ds) = true ∧ (d :: ds).all notNone = true ∧ PyData.depthAll (d :: ds) ≤ 60 then some (PySem.W.minD d ds) else none
  | _ => none
theorem foldl_pick {α : Type} {f : α → α → α} (hf : ∀ a b, f a b = a ∨ f a b = b) : ∀ (l : List α) (a : α), l.foldl f a ∈ a :: l
  | [], a => by simp
  | b :: l, a => by
    rw [List.foldl_cons]
    have := foldl_pick hf l (f a b)
    rcases List.mem_cons.mp this with h | h
    · rw [h]
      rcases hf a b with z | z <;> rw [z] <;> simp
    · simp [h]
theorem minD_mem (d : PyData) (ds : List PyData) : PySem.W.minD d ds ∈ d :: ds := by
  unfold PySem.W.minD
  refine foldl_pick (fun a y => ?_) ds d
  split
  · exact .inr rfl
  · exact .inl rfl
theorem c_minG {X : Cx} (hc : X.calm = true) (hu : X.A.units + 65 < cLine) : CallR X (.builtin "min") (rC X.K minGD) := callC fun pins s σ H H0 xs us Q ds z I r s0 ha hf q => by
  unfold minGD at hf
  split at hf
  · rename_i d ds0
    obtain ⟨x, rfl, h⟩ := da1 ha
    split at hf
    · rename_i hcond
      obtain ⟨c1, c2, c3⟩ := hcond
      cases hf
      cases h with
      | lst h1 h2 =>
        rw [Vals.ref1 r]
        obtain ⟨its, rv, hl, hz⟩ := I.list (ex_l s0 h1)
        obtain ⟨as, hr⟩ := DaAll.reads I _ _ its (DaAll.mono s0 _ _ h2) rv
        have al0 : ∀ x ∈ d :: ds0, ∀ y ∈ d :: ds0, PySem.W.alike x y = true := fun x hx y hy => List.all_eq_true.mp (List.all_eq_true.mp c1 x hx) y hy
        have al : PySem.W.AlikeAll (d :: ds0) := ⟨al0, fun x hx e => by
          have := List.all_eq_true.mp c2 x hx
          rw [e] at this
          cases this⟩
        refine PySem.W.min_list_data (x := d) (xs := ds0) (I.ok.hd hc) hl.isList (by simpa using hr) al (by omega) fun i v h' tk bs hi hr2 hk => ?_
        rename_i a0 xs0
        have hi2 : its[i]? = some v := by simpa using hi
        obtain ⟨w, hw⟩ : ∃ w, xs0[i]? = some w := by
          have hlt : i < its.length := (List.getElem?_eq_some_iff.mp hi2).1
          have := rv.length
          exact ⟨xs0[i]'(by omega), List.getElem?_eq_getElem (by omega)⟩
        obtain ⟨v2, hv2, rel⟩ := Vals.get rv hw
        rw [hi2] at hv2
        cases hv2
        obtain ⟨d2, hd, dw⟩ := DaAll.atV h2 hw
        have hmem : d2 ∈ d :: ds0 := List.mem_of_getElem? hd
        obtain ⟨as2, hr3⟩ := Da.reads I _ w v (Da.mono s0 _ _ dw) rel
        have hr4 := PySem.W.reads_keeps hk hr3
        have e := PySem.W.alike_unique _ _ _ _ _ (al0 _ hmem _ (minD_mem d ds0)) hr4 hr2
        refine ⟨w, H, I.kept (t' := tk) hk, rel, q _ H0 H (Gr.refl s0) ?_⟩
        rw [← e]
        exact dw
    · cases hf
  · cases hf
end DL

set_option Elab.async false
set_option linter.all false
set_option maxRecDepth 100000
set_option maxHeartbeats 4000000
namespace DL
open PySem PySem.Spec PyProof.Rows L2 Evl
/-! sorted of a list of alike data -/
def notTup : PyData → Bool
  | .tuple _ => false
  | _ => true
def aTup : PyData → Bool
  | .tuple (_ :: _) => true
  | _ => false
def sortG (c : List PyData) : List PyData := c.mergeSort (PySem.W.dataLe (β := PyData) false id)
def sortGD : List PyData → Option PyData
  | [.list c] => if alikeB c = true ∧ ((c.all fun d => notNone d && notTup d) = true ∨ c.all aTup = true) ∧ PyData.depthAll c ≤ 60 ∧ c.length ≤ 100000 then some (.list (sortG c)) else none
  | _ => none
theorem each_of_da {K : PySem.W.Frag} {H : Hp} {h : Heap} {R : Value → PyData → Prop} : ∀ {xs : List V} {us : List Value} {ds : List PyData}, DaAll K H xs ds → Vals xs us → (∀ x u d, Da K H x d → RelV x u → R u d) → PySem.W.EachIs R us ds
  | [], _, _, h1, h2, _ => by
    cases h1
    cases h2
    exact .nil
  | x :: xs, _, _, h1, h2, hR => by
    cases h1 with
    | cons a b =>
      cases h2 with
      | cons c d => exact .cons (hR _ _ _ a c) (each_of_da (h := h) b d hR)
theorem da_of_each {K : PySem.W.Frag} {H : Hp} : ∀ {us : List Value} {ds : List PyData}, PySem.W.EachIs (fun u d => ∃ x, Da K H x d ∧ RelV x u) us ds → ∃ xs, DaAll K H xs ds ∧ Vals xs us
  | _, _, .nil => ⟨[], .nil, .nil⟩
  | _, _, .cons ⟨x, h1, h2⟩ t => by
    obtain ⟨xs, h3, h4⟩ := da_of_each t
    exact ⟨x :: xs, .cons h1 h3, .cons h2 h4⟩
theorem depth_mem : ∀ {c : List PyData} {d : PyData}, d ∈ c → d.depth ≤ PyData.depthAll c
  | [], _, h => by cases h
  | e :: r, d, h => by
    have e1 : PyData.depthAll (e :: r) = max e.depth (PyData.depthAll r) := by simp [PyData.depthAll]
    rw [e1]
    rcases List.mem_cons.mp h with rfl | h
    · omega
    · have := depth_mem h
      omega
theorem c_sortG {X : Cx} (hu : X.A.units + 65 < cLine) : CallR X (.builtin "sorted") (rC X.K sortGD) := callC fun pins s σ H H0 xs us Q ds z I r s0 ha hf q => by
  unfold sortGD at hf
  split at hf
  · rename_i c
    obtain ⟨x, rfl, h⟩ := da1 ha
    split at hf
    · rename_i hcond
      obtain ⟨c1, c2, c3, c4⟩ := hcond
      cases hf
      cases h with
      | lst h1 h2 =>
        rw [Vals.ref1 r]
        obtain ⟨its, rv, hl, hz⟩ := I.list (ex_l s0 h1)
        have al0 : ∀ x ∈ c, ∀ y ∈ c, PySem.W.alike x y = true := fun x hx y hy => List.all_eq_true.mp (List.all_eq_true.mp c1 x hx) y hy
        have e1 : PySem.W.EachIs (fun u d => ∃ x, Da X.K H0 x d ∧ RelV x u) its c := each_of_da (h := s.heap) h2 rv fun x u d a b => ⟨x, a, b⟩
        have e2 : PySem.W.EachIs (fun u d => ∃ as, Reads s.heap u d as) its c := each_of_da (h := s.heap) h2 rv fun x u d a b => Da.reads I _ x u (Da.mono s0 _ _ a) b
        have so : PySem.W.Sortable c := by
          rcases c2 with c2 | c2
          · refine .inr fun d hd => ?_
            have := List.all_eq_true.mp c2 d hd
            rw [Bool.and_eq_true] at this
            refine ⟨fun e => ?_, fun xs e => ?_⟩
            · rw [e] at this
              cases this.1
            · rw [e] at this
              cases this.2
          · refine .inl fun d hd => ?_
            have := List.all_eq_true.mp c2 d hd
            unfold aTup at this
            split at this
            · exact ⟨_, _, rfl⟩
            · cases this
        have hlen := e1.length
        refine PySem.W.sorted_data (enc := id) (bs := c) hl.isList e1 e2 (by rw [List.map_id]; exact al0) (by rw [List.map_id]; exact so) (by rw [DL.sizeLine_eq]; omega) (fun b hb => ?_) fun out ho eo => ?_
        · have := depth_mem hb
          show X.A.units + 2 + b.depth < cLine
          omega
        · obtain ⟨ys, h3, h4⟩ := da_of_each eo
          have hy := h4.length
          have hn : H (s.heap.objs.size + 1) = none := I.hok.fresh (Nat.le_succ _)
          obtain ⟨n, hn2⟩ := sortedAll_at s.heap its (List.toArray out)
          refine ⟨.ref (s.heap.objs.size + 1), upd H (s.heap.objs.size + 1) (.lst ys), I.laid (t' := s.toks) (fun b o e => sortedAll_old e) (Nat.le_succ _) ⟨?_, out, n, h4, hn2⟩, rfl, ?_⟩
          · rw [hy, ho, DL.sizeLine_eq]
            omega
          · exact q _ _ _ (Gr.new s0 hn) (.lst (SqL.of upd_same) (DaAll.mono (Ex.new (fresh_back s0 hn)) _ _ h3))
    · cases hf
  · cases hf
end DL

set_option Elab.async false
set_option linter.all false
set_option maxRecDepth 100000
set_option maxHeartbeats 4000000
namespace DL
open PySem PySem.Spec PyProof.Rows L2 Evl
/-! objects within objects: seen as data, frozen, tuples of one's own -/
def mapO {α β : Type} (f : α → Option β) : List α → Option (List β)
  | [] => some []
  | s :: r => (f s).bind fun x => (mapO f r).map (x :: ·)
/-- what stands there as data, through the objects that P lets -/
def dataO (os : Os) (P : Nat → Bool) : Nat → Sl → Option PyData
  | _, .d x => some x
  | _, .u => none
  | 0, .o _ => none
  | n + 1, .o k => if P k = true then match os[k]? with
    | some (some (.l c)) => some (.list c)
    | some (some (.r xs)) => (mapO (dataO os P n) xs).map .list
    | some (some (.t xs)) => (mapO (dataO os P n) xs).map .tuple
    | _ => none
    else none
section
variable {K : PySem.W.Frag} {as : List Addr} {os : Os} {H0 H Hv : Hp} {P : Nat → Bool}
theorem data_in (w : Own K as os H0 H) (up : Ex H0 Hv) (hv : ∀ k a ob, P k = true → as[k]? = some a → os[k]? = some (some ob) → Hv a = H a) : ∀ (n : Nat) (v : V) (s : Sl) (x : PyData), ArgOk K as H0 v s → dataO os P n s = some x → Da K Hv v x
  | n, v, .d y, x, h, e => by
    have e : some y = some x := by cases n <;> exact e
    cases e
    exact Da.mono up _ _ h
  | n, v, .u, x, h, e => h.elim
  | 0, v, .o k, x, h, e => by cases e
  | n + 1, v, .o k, x, h, e => by
    obtain ⟨a, h1, rfl⟩ := h
    have ih := fun v s x => data_in w up hv n v s x
    have all : ∀ (vs : List V) (xs : List Sl) (ds : List PyData), ArgsOk K as H0 vs xs → mapO (dataO os P n) xs = some ds → DaAll K Hv vs ds := fun vs => by
      induction vs with
      | nil =>
        intro xs ds h e
        cases xs with
        | nil =>
          cases e
          exact .nil
        | cons _ _ => exact h.elim
      | cons v vs ihv =>
        intro xs ds h e
        cases xs with
        | nil => exact h.elim
        | cons s r =>
          unfold mapO at e
          cases e1 : dataO os P n s with
          | none => rw [e1] at e; cases e
          | some y =>
            rw [e1, Option.bind_some] at e
            obtain ⟨ys, e2, rfl⟩ := Option.map_eq_some_iff.mp e
            exact .cons (ih _ _ _ h.1 e1) (ihv _ _ h.2 e2)
    unfold dataO at e
    split at e
    · rename_i hp
      split at e
      · rename_i c hc
        cases e
        obtain ⟨q1, vs, q2, q3⟩ := w.l k a c h1 hc
        exact .lst (SqL.of (by rw [hv k a _ hp h1 hc]; exact q2)) (DaAll.mono up _ _ q3)
      · rename_i c hc
        obtain ⟨ds, e1, rfl⟩ := Option.map_eq_some_iff.mp e
        obtain ⟨q1, ho, q2, q3⟩ := w.at_ k a _ h1 hc
        obtain ⟨vs, rfl, r⟩ := q3.r_of
        exact .lst (SqL.of (by rw [hv k a _ hp h1 hc]; exact q2)) (all _ _ _ r e1)
      · rename_i c hc
        obtain ⟨ds, e1, rfl⟩ := Option.map_eq_some_iff.mp e
        obtain ⟨q1, ho, q2, q3⟩ := w.at_ k a _ h1 hc
        obtain ⟨vs, rfl, r⟩ := q3.t_of
        exact .tup (by rw [hv k a _ hp h1 hc]; exact q2) (all _ _ _ r e1)
      · cases e
    · cases e
end
/-! ### all of one's own seen as data -/
def viewN (os : Os) (s : Sl) : Sl := match dataO os (fun _ => true) 8 s with
  | some x => .d x
  | none => .u
theorem en_viewN {K : PySem.W.Frag} {as : List Addr} {ρ : List Sl} {os : Os} {σ : L2.St} {H0 H : Hp} (n : En K as ρ os σ H0 H) : ∃ Hv, Ex H0 Hv ∧ En K [] (ρ.map (viewN os)) [] σ Hv H := by
  have up : Ex H0 fun a => if a ∈ as ∧ H0 a = none then H a else H0 a := fun a o e => by show (if a ∈ as ∧ H0 a = none then H a else H0 a) = some o; rw [if_neg (by rw [e]; simp)]; exact e
  have hv : ∀ k a ob, (fun _ : Nat => true) k = true → as[k]? = some a → os[k]? = some (some ob) → (fun a => if a ∈ as ∧ H0 a = none then H a else H0 a) a = H a := fun k a ob _ h1 h2 => by
    obtain ⟨q1, _⟩ := n.ow.at_ k a ob h1 h2
    show (if a ∈ as ∧ H0 a = none then H a else H0 a) = _
    rw [if_pos ⟨List.mem_of_getElem? h1, q1⟩]
  refine ⟨fun a => if a ∈ as ∧ H0 a = none then H a else H0 a, up, fun a o e => ?_, by rw [List.length_map]; exact n.len, fun i x h => ?_, fun i k h => ?_, List.nodup_nil, rfl, fun _ h => absurd h (by simp), fun _ _ _ h => by simp at h⟩
  · have e : (if a ∈ as ∧ H0 a = none then H a else H0 a) = some o := e
    by_cases c : a ∈ as ∧ H0 a = none
    · rw [if_pos c] at e
      exact e
    · rw [if_neg c] at e
      exact n.sub a o e
  · rw [List.getElem?_map] at h
    cases q : ρ[i]? with
    | none => rw [q] at h; cases h
    | some s =>
      rw [q] at h
      simp only [Option.map_some, Option.some.injEq] at h
      unfold viewN at h
      cases e : dataO os (fun _ => true) 8 s with
      | none => rw [e] at h; cases h
      | some y =>
        rw [e] at h
        cases h
        obtain ⟨v, e1, r⟩ := n.val q (fun z => by subst z; cases e)
        exact ⟨v, e1, data_in n.ow up hv 8 v s _ r e⟩
  · rw [List.getElem?_map] at h
    cases q : ρ[i]? with
    | none => rw [q] at h; cases h
    | some s =>
      rw [q] at h
      simp only [Option.map_some, Option.some.injEq] at h
      unfold viewN at h
      cases e : dataO os (fun _ => true) 8 s with
      | none => rw [e] at h; cases h
      | some y => rw [e] at h; cases h
def xViewN (x : XE) : XE := fun ρ os => (x (ρ.map (viewN os)) []).bind fun p => if flatD p.1 = true then some (p.1, os) else none
theorem en_back {K : PySem.W.Frag} {as : List Addr} {ρ : List Sl} {os : Os} {σ : L2.St} {H0 H Hv H1 H1' : Hp} (n : En K as ρ os σ H0 H) (up : Ex H0 Hv) (g1 : Gr [] Hv H H1 H1') : En K as ρ os σ H0 H1' ∧ Gr as H0 H H0 H1' := by
  have ex : Ex H0 H1' := (up.trans g1.e0).trans g1.sub
  refine ⟨⟨ex, n.len, n.dat, n.ref, n.ow.nd, n.ow.len, fun a ha => g1.kp a (n.ow.trk a ha), fun j a ds e1 e2 => ?_⟩, ⟨Ex.refl _, fun a o _ e => g1.e1 a o (by simp) e, fun _ _ _ e _ => e, g1.kp, ex⟩⟩
  obtain ⟨q1, vs, q2, q3⟩ := n.ow.at_ j a ds e1 e2
  exact ⟨q1, vs, g1.e1 a _ (by simp) q2, q3⟩
theorem px_viewN {X : Cx} {e : Expr} {x : XE} (h : PX X e x) : PX X e (xViewN x) := pe_imp h fun σ H Q q => by
  obtain ⟨as, ρ, os, H0, d, os', n, hx, k⟩ := q
  unfold xViewN at hx
  cases h1 : x (ρ.map (viewN os)) [] with
  | none => rw [h1] at hx; cases hx
  | some p =>
    obtain ⟨y, os1⟩ := p
    rw [h1, Option.bind_some] at hx
    simp only at hx
    split at hx
    · rename_i hf
      cases hx
      obtain ⟨Hv, up, nv⟩ := en_viewN n
      refine ⟨[], _, [], Hv, d, os1, nv, h1, fun v H1 H1' n1 g1 r1 => ?_⟩
      obtain ⟨n2, g2⟩ := en_back n up g1
      exact k v H0 H1' n2 g2 (da_flat hf r1)
    · cases hx
def tViewN (t : XT) : XT := fun ρ os => (t (ρ.map (viewN os)) []).map fun p => (p.1, os)
theorem pxt_viewN {X : Cx} {e : Expr} {x : XT} (h : PXT X e x) : PXT X e (tViewN x) := pt_imp h fun σ H Q q => by
  obtain ⟨as, ρ, os, H0, d, os', n, hx, k⟩ := q
  unfold tViewN at hx
  cases h1 : x (ρ.map (viewN os)) [] with
  | none => rw [h1] at hx; cases hx
  | some p =>
    obtain ⟨y, os1⟩ := p
    rw [h1] at hx
    cases hx
    obtain ⟨Hv, up, nv⟩ := en_viewN n
    refine ⟨[], _, [], Hv, _, os1, nv, h1, fun H1 H1' n1 g1 => ?_⟩
    obtain ⟨n2, g2⟩ := en_back n up g1
    exact k H0 H1' n2 g2
/-- a new list of plain values, made of what is seen -/
def fViewN (x : XI) : XI := fun ρ os => (x (ρ.map (viewN os)) []).bind fun p => if p.1.all flatD = true then some (p.1, os) else none
theorem das_flat {K : PySem.W.Frag} {H H' : Hp} : ∀ {vs : List V} {ds : List PyData}, ds.all flatD = true → DaAll K H vs ds → DaAll K H' vs ds
  | _, [], _, r => by
    cases r
    exact .nil
  | _, d :: ds, h, r => by
    rw [List.all_cons, Bool.and_eq_true] at h
    cases r with
    | cons a b => exact .cons (da_flat h.1 a) (das_flat h.2 b)
theorem pxf_viewN {X : Cx} {e : Expr} {x : XI} (h : PXF X e x) : PXF X e (fViewN x) := pe_imp h fun σ H Q q => by
  obtain ⟨as, ρ, os, H0, ds, os', n, hx, k⟩ := q
  unfold fViewN at hx
  cases h1 : x (ρ.map (viewN os)) [] with
  | none => rw [h1] at hx; cases hx
  | some p =>
    obtain ⟨y, os1⟩ := p
    rw [h1, Option.bind_some] at hx
    simp only at hx
    split at hx
    · rename_i hf
      cases hx
      obtain ⟨Hv, up, nv⟩ := en_viewN n
      refine ⟨[], _, [], Hv, _, os1, nv, h1, fun p vs H1 H1' hp n1 g1 r1 r2 r3 r4 => ?_⟩
      obtain ⟨n2, g2⟩ := en_back n up g1
      have h0 : H0 p = none := by
        cases z : H0 p with
        | none => rfl
        | some o =>
          have := n.sub _ _ z
          rw [hp] at this
          cases this
      exact k p vs H0 H1' hp n2 g2 h0 (fun z => n.ow.trk p z hp) r3 (das_flat hf r4)
    · cases hx
/-! ### a tuple with objects of one's own -/
def xsTup (ra : XA) : XS := fun ρ os => (ra ρ os).bind fun p => if p.1.length ≤ sizeLine then some (.o p.2.length, p.2 ++ [some (.t p.1)]) else none
theorem pxs_tup {X : Cx} {es : List Expr} {ra : XA} {x1} {pos : Pos} (h : PXAS X es ra) : PXS X (.Tuple es x1 pos) (xsTup ra) := pe_imp (pe_tup h) fun σ H Q q => by
  obtain ⟨as, ρ, os, H0, d, os', n, hx, k⟩ := q
  unfold xsTup at hx
  cases h1 : ra ρ os with
  | none => rw [h1] at hx; cases hx
  | some p =>
    obtain ⟨ss, os1⟩ := p
    rw [h1, Option.bind_some] at hx
    simp only at hx
    split at hx
    · rename_i hz
      cases hx
      refine ⟨as, ρ, os, H0, ss, os1, n, h1, fun vs as1 H1 H1' e1 n1 g1 r1 => ⟨by rw [args_len r1]; exact hz, fun q hq => ?_⟩⟩
      obtain ⟨n2, g2, e2⟩ := n1.newOb (ob := .t ss) (ho := .tup vs) hq r1
      exact k _ _ _ _ (e1.trans (exs_one hq) g1.kp) n2 (g1.trans g2 e1.mem) ⟨q, e2, rfl⟩
    · cases hx
/-! ### what a def hands back, frozen with all that was made -/
def asMN (M : XMS) : XM := fun ss os => (M ss os).bind fun p => (dataO p.2 (fun k => decide (os.length ≤ k)) 8 p.1).bind fun x => (cutW os.length p.2).map fun w => (x, w)
theorem asMN_ok {P : Program} {w : World} {K : PySem.W.Frag} {mg : Str → Option Value} {base : Heap} {k n : Nat} {f : Addr} {fd : FuncData} {ps : List Str} {M : XMS} (F : FnG P w K mg base k f fd n ps (spS K n M)) : FnG P w K mg base k f fd n ps (spM K n (asMN M)) := by
  refine ⟨F.pl, fun vs H Q E h => h.1, fun A outer s H args us vs Q E hr e0 hb r h => F.run A outer s H args us vs Q E hr e0 hb r ?_⟩
  obtain ⟨hlen, as, ss, os, H0, d, os', h1, h2, h3, h4, h5⟩ := h
  unfold asMN at h4
  cases q : M ss os with
  | none => rw [q] at h4; cases h4
  | some p =>
    obtain ⟨sl, os1⟩ := p
    rw [q, Option.bind_some] at h4
    simp only at h4
    cases dx : dataO os1 (fun k => decide (os.length ≤ k)) 8 sl with
    | none => rw [dx] at h4; cases h4
    | some x =>
      rw [dx, Option.bind_some] at h4
      cases c : cutW os.length os1 with
      | none => rw [c] at h4; cases h4
      | some w3 =>
        rw [c] at h4
        cases h4
        refine ⟨hlen, as, ss, os, H0, sl, os1, h1, h2, h3, q, fun v as' H0' H' e w2 g r2 => ?_⟩
        rw [← h2.len] at c dx
        obtain ⟨bs, rfl, hbs⟩ := e
        have nd := w2.nd
        rw [List.nodup_append] at nd
        -- all that was made is frozen
        obtain ⟨Hz, hHz⟩ : ∃ Hz : Hp, Hz = fun a => if a ∈ bs ∧ H0' a = none then H' a else H0' a := ⟨_, rfl⟩
        have up : Ex H0' Hz := fun a o e => by
          rw [hHz]
          show (if a ∈ bs ∧ H0' a = none then H' a else H0' a) = some o
          rw [if_neg (by rw [e]; simp)]
          exact e
        have hz : ∀ a, a ∉ bs → Hz a = H0' a := fun a ha => by
          rw [hHz]
          show (if a ∈ bs ∧ H0' a = none then H' a else H0' a) = _
          rw [if_neg fun z => ha z.1]
        have hv : ∀ j a ob, decide (as.length ≤ j) = true → (as ++ bs)[j]? = some a → os1[j]? = some (some ob) → Hz a = H' a := fun j a ob hj h1 h2 => by
          have hj := of_decide_eq_true hj
          obtain ⟨q1, _⟩ := w2.at_ j a ob h1 h2
          rw [List.getElem?_append_right hj] at h1
          rw [hHz]
          show (if a ∈ bs ∧ H0' a = none then H' a else H0' a) = _
          rw [if_pos ⟨List.mem_of_getElem? h1, q1⟩]
        have sub : Ex Hz H' := fun a o e => by
          rw [hHz] at e
          have e : (if a ∈ bs ∧ H0' a = none then H' a else H0' a) = some o := e
          split at e
          · exact e
          · exact g.sub a o e
        have wc := w2.cut ⟨bs, rfl, hbs⟩ c
        have wz : Own K as os' Hz H' := ⟨wc.nd, wc.len, wc.trk, fun j a ob h1 h2 => by
          obtain ⟨q1, o, q2, q3⟩ := wc.at_ j a ob h1 h2
          refine ⟨?_, o, q2, q3.mono up⟩
          rw [hz a fun z => nd.2.2 a (List.mem_of_getElem? h1) a z rfl]
          exact q1⟩
        have gz : Gr as H0 H Hz H' := ⟨g.e0.trans up, g.e1, fun a o m e hn => by
          by_cases z : a ∈ bs
          · exact absurd (hbs a z) hn
          · rw [hz a z] at e
            exact g.nw a o m e hn, g.kp, sub⟩
        exact h5 v Hz H' wz gz (data_in w2 up hv 8 v sl _ r2 dx)
end DL

set_option Elab.async false
set_option linter.all false
set_option maxRecDepth 100000
set_option maxHeartbeats 4000000
namespace DL
open PySem PySem.Spec PyProof.Rows L2 Evl
section
variable {X : Cx} {W : WX} {fr : Option Nat} {k n : Nat} {a b c e o : Expr} {es : List Expr} {xa xb xe xk xz : XE} {xt : XT} {xr xs xd : XS} {ra : XA} {xi xj : XI} {pos p p2 p3 apos cpos pos' : Pos} {x : Str} {st : Stmt}
/-! isinstance of what may be one's own -/
def tyO (os : Os) : Sl → Option String
  | .d x => some (typeN x)
  | .o k => match os[k]? with
    | some (some (.l _)) => some "list"
    | some (some (.r _)) => some "list"
    | some (some (.t _)) => some "tuple"
    | _ => none
  | .u => none
theorem tyO_ok {K : PySem.W.Frag} {as : List Addr} {ρ : List Sl} {os : Os} {σ : L2.St} {H0 H : Hp} {v : V} {s : Sl} {t : String} (n : En K as ρ os σ H0 H) (r : ArgOk K as H0 v s) (e : tyO os s = some t) : TyX K H v (.type t) := by
  cases s with
  | d x =>
    cases e
    exact da_ty n.sub r
  | u => cases e
  | o k =>
    obtain ⟨ad, ek, rfl⟩ := r
    simp only [tyO] at e
    split at e
    · rename_i c hc
      cases e
      obtain ⟨q1, vs, q2, q3⟩ := n.ow.l k ad c ek hc
      exact .base (.lst q2)
    · rename_i c hc
      cases e
      obtain ⟨q1, ho, q2, q3⟩ := n.ow.at_ k ad _ ek hc
      obtain ⟨vs, rfl, rr⟩ := q3.r_of
      exact .base (.lst q2)
    · rename_i c hc
      cases e
      obtain ⟨q1, ho, q2, q3⟩ := n.ow.at_ k ad _ ek hc
      obtain ⟨vs, rfl, rr⟩ := q3.t_of
      exact .base (.tup q2)
    · cases e
def xIsO (T : String) (xr : XS) : XE := fun ρ os => (xr ρ os).bind fun p => (tyO p.2 p.1).bind fun t => (kitB t T).map fun b => (.bool b, p.2)
theorem px_isiO {T : Str} {t : String} (hg : Gl X "isinstance") (hm : X.mg "isinstance" = none) (ha : PXV X e xr) (hgT : Gl X T) (hmT : X.mg T = none) (hvT : bootBuiltins T = some (.type t)) (hnT : T ≠ "__name__" := by decide) (hdT : (T == ("__debug__" : Str)) = false := by decide)
    (he : starEach [e, .Name T p2] X.env = (false, eval e X.env) :: starEach [.Name T p2] X.env := by rfl) (hs2 : starEach [.Name T p2] X.env = (false, eval (.Name T p2) X.env) :: starEach [] X.env := by rfl) (hpl : (backTo pos (starEach [.Name T p2] X.env)).any (·.1) = false := by rfl) :
    PX X (.Call (.Name "isinstance" p) [e, .Name T p2] [] pos) (xIsO t xr) :=
  pe_imp (pe_callB call_isi hg hm (by decide +kernel) (pa_cons ha (pa_cons (pe_bltn (v := .ty t) hgT hmT hvT rfl hnT hdT) pa_nil hs2) he) (by decide) (by decide) he hpl) fun σ H Q q => by
    obtain ⟨as, ρ, os, H0, d, os', n, hx, k⟩ := q
    unfold xIsO at hx
    cases h1 : xr ρ os with
    | none => rw [h1] at hx; cases hx
    | some q =>
      obtain ⟨s, os1⟩ := q
      rw [h1, Option.bind_some] at hx
      simp only at hx
      cases h2 : tyO os1 s with
      | none => rw [h2] at hx; cases hx
      | some ty =>
        rw [h2, Option.bind_some] at hx
        cases h4 : kitB ty t with
        | none => rw [h4] at hx; cases hx
        | some b =>
          rw [h4] at hx
          cases hx
          refine ⟨as, ρ, os, H0, s, _, n, h1, fun v H0' H' n1 g1 r1 => ?_⟩
          exact ⟨v, .ty t, _, _, b, rfl, .ty t, tyO_ok n1 r1 h2, kit_ty h4, k _ H0' H' n1 g1 (.bl b)⟩
def kitB2 (t a b : String) : Option Bool := match kitB t a, kitB t b with
  | some x, some y => some (x || y)
  | _, _ => none
theorem kitB2_ok {K : PySem.W.Frag} {t a b : String} {r : Bool} (h : kitB2 t a b = some r) : PySem.W.kitAny K (.type t) [.type a, .type b] = some r := by
  unfold kitB2 at h
  split at h
  · rename_i x y h1 h2
    cases h
    refine kitAny_cons (kit_ty h1) (fun z => ?_) (fun z => by rw [z]; rfl)
    subst z
    exact kitAny_cons (kit_ty h2) (fun z => by rw [z]; exact kitAny_nil) (fun z => by rw [z]; rfl)
  · cases h
def xIsO2 (T1 T2 : String) (xr : XS) : XE := fun ρ os => (xr ρ os).bind fun p => (tyO p.2 p.1).bind fun t => (kitB2 t T1 T2).map fun b => (.bool b, p.2)
theorem px_isiO2 {T1 T2 : Str} {t1 t2 : String} {kk : Nat} {tpos : Pos} (hg : Gl X "isinstance") (hm : X.mg "isinstance" = none) (ha : PXV X e xr) (hgT : Gl X T1) (hmT : X.mg T1 = none) (hvT : bootBuiltins T1 = some (.type t1)) (hgT2 : Gl X T2) (hmT2 : X.mg T2 = none) (hvT2 : bootBuiltins T2 = some (.type t2))
    (hnT : T1 ≠ "__name__" := by decide) (hdT : (T1 == ("__debug__" : Str)) = false := by decide) (hnT2 : T2 ≠ "__name__" := by decide) (hdT2 : (T2 == ("__debug__" : Str)) = false := by decide)
    (he : starEach [e, .Tuple [.Name T1 p2, .Name T2 p3] kk tpos] X.env = (false, eval e X.env) :: starEach [.Tuple [.Name T1 p2, .Name T2 p3] kk tpos] X.env := by rfl)
    (hs2 : starEach [.Tuple [.Name T1 p2, .Name T2 p3] kk tpos] X.env = (false, eval (.Tuple [.Name T1 p2, .Name T2 p3] kk tpos) X.env) :: starEach [] X.env := by rfl)
    (hs3 : starEach [.Name T1 p2, .Name T2 p3] X.env = (false, eval (.Name T1 p2) X.env) :: starEach [.Name T2 p3] X.env := by rfl)
    (hs4 : starEach [.Name T2 p3] X.env = (false, eval (.Name T2 p3) X.env) :: starEach [] X.env := by rfl)
    (hpl : (backTo pos (starEach [.Tuple [.Name T1 p2, .Name T2 p3] kk tpos] X.env)).any (·.1) = false := by rfl) :
    PX X (.Call (.Name "isinstance" p) [e, .Tuple [.Name T1 p2, .Name T2 p3] kk tpos] [] pos) (xIsO2 t1 t2 xr) :=
  pe_imp (pe_callB call_isiT hg hm (by decide +kernel) (pa_cons ha (pa_cons (pe_tup (pa_cons (pe_bltn (v := .ty t1) hgT hmT hvT rfl hnT hdT) (pa_cons (pe_bltn (v := .ty t2) hgT2 hmT2 hvT2 rfl hnT2 hdT2) pa_nil hs4) hs3)) pa_nil hs2) he) (by decide) (by decide) he hpl) fun σ H Q q => by
    obtain ⟨as, ρ, os, H0, d, os', n, hx, k⟩ := q
    unfold xIsO2 at hx
    cases h1 : xr ρ os with
    | none => rw [h1] at hx; cases hx
    | some q =>
      obtain ⟨s, os1⟩ := q
      rw [h1, Option.bind_some] at hx
      simp only at hx
      cases h2 : tyO os1 s with
      | none => rw [h2] at hx; cases hx
      | some ty =>
        rw [h2, Option.bind_some] at hx
        cases h4 : kitB2 ty t1 t2 with
        | none => rw [h4] at hx; cases hx
        | some b =>
          rw [h4] at hx
          cases hx
          refine ⟨as, ρ, os, H0, s, _, n, h1, fun v H0' H' n1 g1 r1 => ⟨by show 2 ≤ _; decide, fun q hq => ?_⟩⟩
          have nD : q ∉ as := fun z => n1.ow.trk q z hq
          have h0 : H0' q = none := fresh_back n1.sub hq
          have hn : H q = none := by
            cases z : H q with
            | none => rfl
            | some u => exact absurd hq (g1.kp q (by rw [z]; simp))
          have n2 := n1.away (H' := upd H' q (.tup [.ty t1, .ty t2])) nD (fun a h => upd_ne h) (by rw [upd_same]; simp) h0
          exact ⟨v, q, [.ty t1, .ty t2], _, _, b, rfl, upd_same, .cons (.ty t1) (.cons (.ty t2) .nil), tyO_ok n2 r1 h2, kitB2_ok h4, k _ H0' _ n2 (gr_upd g1 hn h0) (.bl b)⟩
/-! a if t else b, where new ones may be made -/
def xsIf (t : XT) (a b : XS) : XS := fun ρ os => (t ρ os).bind fun p => if p.1 = true then a ρ p.2 else b ρ p.2
theorem pxs_if {xa xb : XS} (hc : PXT X c xt) (ha : PXS X a xa) (hb : PXS X b xb) : PXS X (.IfExp c a b pos) (xsIf xt xa xb) := pe_imp (pe_ifExp hc ha hb) fun σ H Q q => by
  obtain ⟨as, ρ, os, H0, d, os', n, hx, k⟩ := q
  unfold xsIf at hx
  cases h1 : xt ρ os with
  | none => rw [h1] at hx; cases hx
  | some p =>
    obtain ⟨c, os1⟩ := p
    rw [h1, Option.bind_some] at hx
    refine ⟨as, ρ, os, H0, c, os1, n, h1, fun H0' H' n1 g1 => ?_⟩
    have ext : ∀ {as2 : List Addr}, Exs as H' as2 → Exs as H as2 := fun {as2} e => Exs.refl.trans e g1.kp
    cases c with
    | true => exact ⟨as, ρ, os1, H0', d, os', n1, by simpa using hx, fun v as2 H2 H2' e2 n2 g2 r => k v as2 H2 H2' (ext e2) n2 (g1.tr g2) r⟩
    | false => exact ⟨as, ρ, os1, H0', d, os', n1, by simpa using hx, fun v as2 H2 H2' e2 n2 g2 r => k v as2 H2 H2' (ext e2) n2 (g1.tr g2) r⟩
/-! a + b, lists of one's own both -/
def lstO (os : Os) (s : Sl) : Option (List Sl) := match s with
  | .o k => match os[k]? with
    | some (some (.l c)) => some (c.map .d)
    | some (some (.r c)) => some c
    | _ => none
  | _ => none
def addO (os : Os) (s t : Sl) : Option (Sl × Os) := (lstO os s).bind fun a => (lstO os t).bind fun b => if a.length + b.length ≤ sizeLine then some (.o os.length, os ++ [some (.r (a ++ b))]) else none
def xsAdd (xa xb : XS) : XS := fun ρ os => (xa ρ os).bind fun p => (xb ρ p.2).bind fun q => addO q.2 p.1 q.1
def rAddL : R2 := fun x y H Q => ∃ a b xs ys, x = .ref a ∧ y = .ref b ∧ H a = some (.lst xs) ∧ H b = some (.lst ys) ∧ xs.length + ys.length ≤ sizeLine ∧ ∀ q, H q = none → Q (.ref q) (upd H q (.lst (xs ++ ys)))
theorem op_addL : OpR X (binaryOp .Add) rAddL := by
  intro pins s σ H x y v u Q I rx ry q
  obtain ⟨l, b, xs, ys, rfl, rfl, h1, h2, hz, q⟩ := q
  cases rx
  cases ry
  obtain ⟨its, n, dd, sl, r, hl, e⟩ := rd_list I (SqL.of h1)
  obtain ⟨its2, n2, dd2, sl2, r2, hl2, e2⟩ := rd_list I (SqL.of h2)
  have l3 := r.length
  have l4 := r2.length
  have ea : its.toArray ++ its2.toArray = (its ++ its2).toArray := by simp
  refine concat_meets ⟨_, e, rfl⟩ ⟨_, e2, rfl⟩ noFill_list_add seq_list_add PySem.F.slot_list_add PySem.F.entry_list_add (PySem.F.args_list_add_2 _ _) (list_addW l b its.toArray its2.toArray n n2 dd dd2 sl sl2 (by rw [List.size_toArray, List.size_toArray]; omega)) ⟨e, e2, ?_⟩
  rw [ea]
  exact ⟨.ref _, _, I.lnew (t' := s.toks) (r.append r2) (by rw [List.length_append]; omega), rfl, q _ I.fresh⟩
theorem argsOk_d {K : PySem.W.Frag} {as : List Addr} {H : Hp} : ∀ {vs : List V} {ds : List PyData}, DaAll K H vs ds → ArgsOk K as H vs (ds.map .d)
  | _, [], r => by
    cases r
    exact True.intro
  | _, d :: ds, r => by
    cases r with
    | cons a b => exact ⟨a, argsOk_d b⟩
theorem lstO_ok {K : PySem.W.Frag} {as : List Addr} {ρ : List Sl} {os : Os} {σ : L2.St} {H0 H : Hp} {v : V} {s : Sl} {c : List Sl} (n : En K as ρ os σ H0 H) (r : ArgOk K as H0 v s) (e : lstO os s = some c) : ∃ ad vs, v = .ref ad ∧ H ad = some (.lst vs) ∧ ArgsOk K as H0 vs c := by
  cases s with
  | d x => cases e
  | u => cases e
  | o k =>
    obtain ⟨ad, ek, rfl⟩ := r
    simp only [lstO] at e
    split at e
    · rename_i c hc
      cases e
      obtain ⟨q1, vs, q2, q3⟩ := n.ow.l k ad c ek hc
      exact ⟨ad, vs, rfl, q2, argsOk_d q3⟩
    · rename_i c hc
      cases e
      obtain ⟨q1, ho, q2, q3⟩ := n.ow.at_ k ad _ ek hc
      obtain ⟨vs, rfl, rr⟩ := q3.r_of
      exact ⟨ad, vs, rfl, q2, rr⟩
    · cases e
theorem argsOk_app {K : PySem.W.Frag} {as : List Addr} {H : Hp} {ws : List V} {ts : List Sl} (r2 : ArgsOk K as H ws ts) : ∀ {vs : List V} {ss : List Sl}, ArgsOk K as H vs ss → ArgsOk K as H (vs ++ ws) (ss ++ ts)
  | [], [], _ => r2
  | _ :: _, _ :: _, h => ⟨h.1, argsOk_app r2 h.2⟩
  | [], _ :: _, h => h.elim
  | _ :: _, [], h => h.elim
theorem pxs_add {xa xb : XS} (ha : PXS X a xa) (hb : PXS X b xb) : PXS X (.BinOp a .Add b pos) (xsAdd xa xb) := pe_imp (pe_op op_addL ha hb) fun σ H Q q => by
  obtain ⟨as, ρ, os, H0, d, os', n, hx, k⟩ := q
  unfold xsAdd at hx
  cases h1 : xa ρ os with
  | none => rw [h1] at hx; cases hx
  | some p =>
    obtain ⟨s, os1⟩ := p
    rw [h1, Option.bind_some] at hx
    simp only at hx
    cases h2 : xb ρ os1 with
    | none => rw [h2] at hx; cases hx
    | some p =>
      obtain ⟨t, os2⟩ := p
      rw [h2, Option.bind_some] at hx
      simp only [addO] at hx
      cases h3 : lstO os2 s with
      | none => rw [h3] at hx; cases hx
      | some ca =>
        rw [h3, Option.bind_some] at hx
        cases h4 : lstO os2 t with
        | none => rw [h4] at hx; cases hx
        | some cb =>
          rw [h4, Option.bind_some] at hx
          split at hx
          · rename_i hz
            cases hx
            refine ⟨as, ρ, os, H0, s, os1, n, h1, fun v as1 H1 H1' e1 n1 g1 r1 => ⟨as1, ρ, os1, H1, t, os2, n1, h2, fun u as2 H2 H2' e2 n2 g2 r2 => ?_⟩⟩
            have r1' := (r1.exs e2).mono g2.e0
            obtain ⟨ad, vs, rfl, q1, q2⟩ := lstO_ok n2 r1' h3
            obtain ⟨bd, ws, rfl, q3, q4⟩ := lstO_ok n2 r2 h4
            refine ⟨ad, bd, vs, ws, rfl, rfl, q1, q3, by rw [args_len q2, args_len q4]; exact hz, fun q hq => ?_⟩
            obtain ⟨n3, g3, e3⟩ := n2.newOb (ob := .r (ca ++ cb)) (ho := .lst (vs ++ ws)) hq (argsOk_app q4 q2)
            have e12 := e1.trans e2 g1.kp
            have g12 := g1.trans g2 e1.mem
            exact k _ _ _ _ (e12.trans (exs_one hq) g12.kp) n3 (g12.trans g3 e12.mem) ⟨q, e3, rfl⟩
          · cases hx
end

def forLiveEn (k i j : Nat) (b : SE) : Nat → Nat → List Sl → Os → Option Out
  | 0, _, _, _ => none
  | m + 1, t, ρ, os => (itemO os k t).bind fun r => match r with
    | none => some (.nx ρ os)
    | some s => (b ((ρ.set i (.d (.int (t : Nat)))).set j s) os).bind fun o => match o with
      | .nx ρ2 w => forLiveEn k i j b m (t + 1) ρ2 w
      | .ct ρ2 w => forLiveEn k i j b m (t + 1) ρ2 w
      | .bk ρ2 w => some (.nx ρ2 w)
      | .rt d w => some (.rt d w)
      | .ex C x r w => some (.ex C x r w)
      | .rv s w => some (.rv s w)
/-- for i, x in enumerate(a list of one's own) -/
def sForEn (xr : XS) (i j : Nat) (b : SE) : SE := fun ρ os => (xr ρ os).bind fun p => match p.1 with
  | .o k => (lenO p.2 k).bind fun n => forLiveEn k i j b (n + 1) 0 ρ p.2
  | _ => none
section
variable {X : Cx} {W : WX} {fr : Option Nat} {tg iter elt e : Expr} {sts : List Stmt} {s : SE} {xr : XS} {g : XGL} {xg : XG} {js : List Nat} {pos : Pos} {i : Nat}
theorem psx_forS (hp : PassesOwn (model X.prog X.w) X.A X.env X.xe) (hc : X.calm = true) (hi : PXS X iter xr) (hg : PGL X tg g js) (hb : PSXs X W fr sts s) (hs : ∀ x, foldedSetIterable iter X.env x = pure x := by intro _; rfl) :
    PSX X W fr (.For tg iter sts [] pos) (sForL xr g s) := ps_imp (ps_for hp hc (pi_list hi) hg hb hs) fun D σ H q => by
  obtain ⟨as0, Hs, as, ρ, os, H0, o, bs0, n, hx, k⟩ := q
  unfold sForL at hx
  cases h : xr ρ os with
  | none => rw [h] at hx; cases hx
  | some p =>
    obtain ⟨t, os1⟩ := p
    rw [h, Option.bind_some] at hx
    cases t with
    | o kk =>
      simp only at hx
      cases hl : lenO os1 kk with
      | none => rw [hl] at hx; cases hx
      | some n0 =>
        rw [hl, Option.bind_some] at hx
        refine ⟨as, ρ, os, H0, _, os1, n, h, fun v as' Ha Hb ee n1 g1 r1 => ?_⟩
        obtain ⟨ad, ek, rfl⟩ := r1
        obtain ⟨r0, e0⟩ := item_of_len hl
        have L0 := listAt n1 ek e0
        refine ⟨ad, rfl, ⟨_, SqL.of L0.choose_spec.1⟩, ?_⟩
        have kk2 := k.step ee g1
        refine ⟨fun i m σ2 H2 => ∃ as2 ρ2 os2 H2' f, Exs as' Hb as2 ∧ En X.K as2 ρ2 os2 σ2 H2' H2 ∧ Gr as' Ha Hb H2' H2 ∧ m = f ∧ forLive kk g s f i ρ2 os2 = some o,
          ⟨n0 + 1, as', ρ, os1, Ha, n0 + 1, Exs.refl, n1, Gr.refl n1.sub, rfl, hx⟩, ?_⟩
        rintro i m σ2 H2 ⟨as2, ρ2, os2, H2', f, e2, n2, g2, rfl, hr⟩
        have ek2 : as2[kk]? = some ad := by
          obtain ⟨bs, rfl, _⟩ := e2
          rw [List.getElem?_append_left (List.getElem?_eq_some_iff.mp ek).1]
          exact ek
        cases m with
        | zero => cases hr
        | succ m =>
          simp only [forLive] at hr
          cases q0 : itemO os2 kk i with
          | none => rw [q0] at hr; cases hr
          | some r =>
            rw [q0, Option.bind_some] at hr
            obtain ⟨vs, hv, hit⟩ := listAt n2 ek2 q0
            have hq := hit i r q0
            cases r with
            | none =>
              cases hr
              exact .inl ⟨⟨vs, SqL.of hv, hq⟩, kk2 as2 σ2 H2' H2 e2 n2 g2⟩
            | some t =>
              obtain ⟨v, hv2, ra⟩ := hq
              simp only at hr
              have hlt : i < vs.length := (List.getElem?_eq_some_iff.mp hv2).1
              refine .inr ⟨(walk_list (K := X.K) (a := ad) (xs := vs)).goes i H2 hlt (SqL.of hv), fun σ3 H3 => ∃ as2 ρ2 os2 H2', Exs as' Hb as2 ∧ En X.K as2 ρ2 os2 σ3 H2' H3 ∧ Gr as' Ha Hb H2' H3 ∧ forLive kk g s m (i + 1) ρ2 os2 = some o,
                fun σ3 H3 ⟨a1, a2, a3, a4, a5, a6, a7, a8⟩ => ⟨m, Nat.lt_succ_self m, a1, a2, a3, a4, m, a5, a6, a7, rfl, a8⟩, fun x H3 y => ?_⟩
              obtain ⟨e3, e4⟩ := (walk_list (K := X.K) (a := ad) (xs := vs)).yields i H2 x H3 hlt (SqL.of hv) y
              subst e3
              rw [hv2] at e4
              cases e4
              cases q1 : g t ρ2 with
              | none => rw [q1] at hr; cases hr
              | some ρ3 =>
                rw [q1, Option.bind_some] at hr
                refine ⟨as2, ρ2, os2, H2', t, ρ3, n2, ra, q1, fun σ4 n4 _ => ?_⟩
                cases q2 : s ρ3 os2 with
                | none => rw [q2] at hr; cases hr
                | some ob =>
                  rw [q2, Option.bind_some] at hr
                  have g23' : Gr as H0 H H2' H3 := g1.trans g2 ee.mem
                  have e2' : Exs as H as2 := ee.trans e2 g1.kp
                  refine ⟨as0, Hs, as2, ρ3, os2, H2', ob, bs0.step e2' g23'.kp, n4, q2, ?_⟩
                  cases ob with
                  | nx r4 w4 => exact fun as5 σ5 H5' H5 e5 n5 g5 => ⟨as5, r4, w4, H5', e2.trans e5 g2.kp, n5, g2.trans g5 e2.mem, hr⟩
                  | ct r4 w4 => exact fun as5 σ5 H5' H5 e5 n5 g5 => ⟨as5, r4, w4, H5', e2.trans e5 g2.kp, n5, g2.trans g5 e2.mem, hr⟩
                  | bk r4 w4 =>
                    cases hr
                    exact NxOk.step e2 g2 kk2
                  | rt d4 w4 =>
                    cases hr
                    exact RtOk.step e2 g2 kk2
                  | ex C x r4 w4 =>
                    cases hr
                    exact ExOk.step e2 g2 kk2
                  | rv s4 w4 =>
                    cases hr
                    exact RvOk.step e2 g2 kk2
    | _ => cases hx
theorem psx_forEn (hp : PassesOwn (model X.prog X.w) X.A X.env X.xe) (hc : X.calm = true) {ti tj : Nat} {tgs : List Expr} {kt : Nat} {tpos cpos p : Pos} (hG : Gl X "enumerate") (hM : X.mg "enumerate" = none) (hi : PXV X iter xr) (hg : PGs X tgs (gsN [ti, tj])) (hb : PSXs X W fr sts s) (hst : starEach [iter] X.env = [(false, eval iter X.env)] := by rfl) (hn : (assignEach tgs X.env).length = 2 := by rfl) (hfi : (assignEach tgs X.env).findIdx? (·.1) = none := by rfl) (hs : ∀ x, foldedSetIterable (.Call (.Name "enumerate" p) [iter] [] cpos) X.env x = pure x := by intro _; rfl) :
    PSX X W fr (.For (.Tuple tgs kt tpos) (.Call (.Name "enumerate" p) [iter] [] cpos) sts [] pos) (sForEn xr ti tj s) := ps_imp (ps_for hp hc (pi_enum hG hM (pa_cons hi pa_nil hst) hst) (pg_tup (n := 2) hc hg hn hfi) hb hs) fun D σ H q => by
  obtain ⟨as0, Hs, as, ρ, os, H0, o, bs0, n, hx, k⟩ := q
  unfold sForEn at hx
  cases h : xr ρ os with
  | none => rw [h] at hx; cases hx
  | some p =>
    obtain ⟨t, os1⟩ := p
    rw [h, Option.bind_some] at hx
    cases t with
    | o kk =>
      simp only at hx
      cases hl : lenO os1 kk with
      | none => rw [hl] at hx; cases hx
      | some n0 =>
        rw [hl, Option.bind_some] at hx
        refine ⟨as, ρ, os, H0, _, os1, n, h, fun v Ha Hb n1 g1 r1 => ?_⟩
        obtain ⟨ad, ek, rfl⟩ := r1
        obtain ⟨r0, e0⟩ := item_of_len hl
        have L0 := listAt n1 ek e0
        refine ⟨ad, _, rfl, SqL.of L0.choose_spec.1, ?_⟩
        have kk2 := k.step Exs.refl g1
        refine ⟨fun i m σ2 H2 => ∃ as2 ρ2 os2 H2' f, Exs as Hb as2 ∧ En X.K as2 ρ2 os2 σ2 H2' H2 ∧ Gr as Ha Hb H2' H2 ∧ m = f ∧ forLiveEn kk ti tj s f i ρ2 os2 = some o,
          ⟨n0 + 1, as, ρ, os1, Ha, n0 + 1, Exs.refl, n1, Gr.refl n1.sub, rfl, hx⟩, ?_⟩
        rintro i m σ2 H2 ⟨as2, ρ2, os2, H2', f, e2, n2, g2, rfl, hr⟩
        have ek2 : as2[kk]? = some ad := by
          obtain ⟨bs, rfl, _⟩ := e2
          rw [List.getElem?_append_left (List.getElem?_eq_some_iff.mp ek).1]
          exact ek
        cases m with
        | zero => cases hr
        | succ m =>
          simp only [forLiveEn] at hr
          cases q0 : itemO os2 kk i with
          | none => rw [q0] at hr; cases hr
          | some r =>
            rw [q0, Option.bind_some] at hr
            obtain ⟨vs, hv, hit⟩ := listAt n2 ek2 q0
            have hq := hit i r q0
            cases r with
            | none =>
              cases hr
              exact .inl ⟨⟨vs, SqL.of hv, hq⟩, kk2 as2 σ2 H2' H2 e2 n2 g2⟩
            | some t =>
              obtain ⟨v, hv2, ra⟩ := hq
              simp only at hr
              have hlt : i < vs.length := (List.getElem?_eq_some_iff.mp hv2).1
              refine .inr ⟨(walk_enum (K := X.K) (a := ad) (xs := vs)).goes i H2 hlt (SqL.of hv), fun σ3 H3 => ∃ as2 ρ2 os2 H2', Exs as Hb as2 ∧ En X.K as2 ρ2 os2 σ3 H2' H3 ∧ Gr as Ha Hb H2' H3 ∧ forLiveEn kk ti tj s m (i + 1) ρ2 os2 = some o,
                fun σ3 H3 ⟨a1, a2, a3, a4, a5, a6, a7, a8⟩ => ⟨m, Nat.lt_succ_self m, a1, a2, a3, a4, m, a5, a6, a7, rfl, a8⟩, fun x H3 y => ?_⟩
              obtain ⟨T, x1, y1, rfl, hT, rfl, ex1, ey1⟩ := (walk_enum (K := X.K) (a := ad) (xs := vs)).yields i H2 x H3 hlt (SqL.of hv) y
              cases ex1
              have ey1 : vs[i]? = some y1 := ey1
              rw [hv2] at ey1
              cases ey1
              refine ⟨T, _, rfl, SqT.of upd_same, rfl, gsN_of rfl ?_⟩
              have nD : T ∉ as2 := fun z => n2.ow.trk T z hT
              have h0 : H2' T = none := fresh_back n2.sub hT
              have n4 := ((n2.away (H' := upd H2 T (.tup [.int (i : Nat), v])) nD (fun a h => upd_ne h) (by rw [upd_same]; simp) h0).setV ti (s := .d (.int (i : Nat))) (.int _)).setV tj ra
              have hTb : Hb T = none := by
                cases z : Hb T with
                | none => rfl
                | some u => exact absurd hT (g2.kp T (by rw [z]; simp))
              have g2 := gr_upd (o := .tup [.int (i : Nat), v]) g2 hTb h0
              cases q2 : s ((ρ2.set ti (.d (.int (i : Nat)))).set tj t) os2 with
              | none => rw [q2] at hr; cases hr
              | some ob =>
                rw [q2, Option.bind_some] at hr
                have g23' := g1.tr g2
                have e2' : Exs as H as2 := Exs.refl.trans e2 g1.kp
                refine ⟨as0, Hs, as2, _, os2, H2', ob, bs0.step e2' g23'.kp, n4, q2, ?_⟩
                cases ob with
                | nx r4 w4 => exact fun as5 σ5 H5' H5 e5 n5 g5 => ⟨as5, r4, w4, H5', e2.trans e5 g2.kp, n5, g2.trans g5 e2.mem, hr⟩
                | ct r4 w4 => exact fun as5 σ5 H5' H5 e5 n5 g5 => ⟨as5, r4, w4, H5', e2.trans e5 g2.kp, n5, g2.trans g5 e2.mem, hr⟩
                | bk r4 w4 =>
                  cases hr
                  exact NxOk.step e2 g2 kk2
                | rt d4 w4 =>
                  cases hr
                  exact RtOk.step e2 g2 kk2
                | ex C x r4 w4 =>
                  cases hr
                  exact ExOk.step e2 g2 kk2
                | rv s4 w4 =>
                  cases hr
                  exact RvOk.step e2 g2 kk2
    | _ => cases hx
end
end DL

set_option Elab.async false
set_option linter.all false
set_option maxRecDepth 100000
set_option maxHeartbeats 4000000
namespace DL
open PySem PySem.Spec PyProof.Rows L2 Evl
section
variable {X : Cx} {a b : Expr} {xa xb : XE} {apos cpos : Pos}
/-! xs.count(e) of a list of texts -/
def rCntS (K : PySem.W.Frag) : V → List V → Hp → VK → Prop := fun x xs H Q => ∃ (p : Addr) (ss : List Str) (k : Str), x = .ref p ∧ xs = [.str k] ∧ SqL K H p (ss.map V.str) ∧ Q (.int (ss.count k : Nat)) H
theorem cnt_strs (k : Str) : ∀ ss : List Str, countIn (.str k) (ss.map PyData.str) = (ss.count k : Nat)
  | [] => rfl
  | x :: r => by
    show (if same (.str x) (.str k) then (1 : Int) else 0) + countIn (.str k) (r.map PyData.str) = _
    rw [cnt_strs k r, List.count_cons]
    have : same (.str x) (.str k) = (x == k) := rfl
    rw [this]
    cases h : x == k <;> simp
    omega
theorem mt_scount : MtR X "list.count" (rCntS X.K) := by
  intro pins s σ H x xs v us Q I rx rxs h
  obtain ⟨p, ss, k, rfl, rfl, hs, q⟩ := h
  cases rx
  obtain ⟨u, rfl, ru⟩ := rxs.one
  obtain ⟨t, rfl⟩ := ru
  obtain ⟨its, rv, pl, hlen⟩ := I.list hs
  refine count_list_strs pl.isList (Vals.strs rv) ?_
  rw [cnt_strs]
  exact ⟨.int (ss.count k : Nat), H, I.tok _, ⟨_, rfl⟩, q⟩
def lcntD : PyData → PyData → Option PyData
  | .list c, .str x => (strsOf c).map fun ss => .int (ss.count x : Nat)
  | _, _ => none
theorem px_lcount (ha : PX X a xa) (hb : PX X b xb)
    (hbase : attributeBase a "count" X.env (eval a X.env) = eval a X.env := by rfl)
    (hfew : ((backTo cpos (starEach [b] X.env)).all (fun x => !x.1) && (backToKw cpos (keywordEach [] X.env)).all (fun x => x.1.isSome)
      && decide ([b].length + ([] : List Keyword).length + (if ([] : List Keyword).isEmpty then 0 else 1) < 30)) = true := by rfl)
    (hline : (apos.endLine == cpos.line) = true := by rfl) (hs : starEach [b] X.env = (false, eval b X.env) :: starEach [] X.env := by rfl) (hplain : (backTo cpos (starEach [] X.env)).any (·.1) = false := by rfl) : PX X (.Call (.Attribute a "count" apos) [b] [] cpos) (xOp lcntD xa xb) :=
  pe_imp (pe_bm PySem.F.plainAttrs_list PySem.F.slot_list_count PySem.F.type_list_count mt_scount ha (pa_cons hb pa_nil hs) hbase hfew hline hs hplain) fun σ H Q q => by
    obtain ⟨as, ρ, os, H0, d, os', n, hx, k⟩ := q
    obtain ⟨x, os1, y, h1, h2, h3⟩ := xOp_some hx
    refine ⟨as, ρ, os, H0, x, os1, n, h1, fun v H1 H1' n1 g1 r1 => ?_⟩
    unfold lcntD at h3
    split at h3
    · rename_i c z
      obtain ⟨ss, h4, rfl⟩ := Option.map_eq_some_iff.mp h3
      have hc := strsOf_eq h4
      subst hc
      cases r1 with
      | @lst p vs ds l1 l2 =>
        refine ⟨.inl ⟨rfl, vs, ex_l n1.sub l1⟩, as, ρ, os1, H1, .str z, os', n1, h2, fun u H2 H2' n2 g2 r2 => ?_⟩
        have hv := da_strs l2
        subst hv
        cases r2
        have l3 := ex_l n2.sub (ex_l g2.e0 l1)
        exact ⟨p, ss, z, rfl, rfl, l3, k _ H2 H2' n2 (g1.tr g2) (.int _)⟩
    · cases h3
/-! for x in KINDS: a tuple of the module, walked -/
def iKt (ds : List PyData) : XI := fun _ os => some (ds, os)
@[simp] theorem a_kt {ds : List PyData} {ρ : List Sl} {os : Os} : iKt ds ρ os = some (ds, os) := id rfl
theorem pxi_kt {tg : Expr} {x : Str} {p : Addr} {vs : List V} {ds : List PyData} {p1 : Pos} (hg : Gl X x) (hm : X.mg x = some (.ref p)) (ht : ∀ H, SqT X.K H p vs) (hd : ∀ H, DaAll X.K H vs ds) (hdb : (x == ("__debug__" : Str)) = false := by decide) : PXI X tg (.Name x p1) (iKt ds) :=
  pi_imp (pi_tup (pe_glob hg hm (v := .ref p) rfl hdb)) fun σ H R q => by
    obtain ⟨as, ρ, os, H0, items, os', n, hx, k⟩ := q
    cases hx
    have hl := (hd H0).len
    refine ⟨p, rfl, ⟨vs, ht _⟩, k _ H0 H n (Gr.refl n.sub) ⟨fun i H hi e => ?_, fun H e => ?_, fun i H x H' H1 hi e e1 y => ?_⟩⟩
    · exact walk_tup.goes i H (by omega) (ht _)
    · rw [← hl]
      exact walk_tup.stops H (ht _)
    · obtain ⟨e2, e3⟩ := walk_tup.yields i H x H' (by omega) (ht _) y
      subst e2
      obtain ⟨d, hd', r⟩ := (hd H1).atV e3
      exact ⟨H1, d, Gr.refl e1, hd', r⟩
section
variable {tg iter tg1 iter1 : Expr} {st : Stmt} {own : List (Str × Nat)} {vs1 : List Nat} {xi xi1 : XI} {xg xg1 : XG} {js js1 : List Nat} {tt tt1 : XT} {te : XE} {g : TG}
theorem ps_lc2F (hj : ∀ j ∈ js, j ∈ own.map (·.2)) (hj1 : ∀ j ∈ js1, j ∈ vs1) (hv : ∀ j ∈ vs1, j ∈ own.map (·.2))
    (h : PS X st (tAsg (tLc2 (tiO X.K xi) (gO X.K xg js) (ttO X.K tt) (tiO X.K xi1) (gO X.K xg1 js1) (ttO X.K tt1) (teO X.K te) (own.map (·.2)) vs1) g)) : PS X st (tAsg (teF X.K (lc2D xi xg tt xi1 xg1 tt1 te (own.map (·.2)) vs1)) g) := ps_impE h fun _ _ _ q => to_lc2 hj hj1 hv q
end
end
end DL

set_option Elab.async false
set_option linter.all false
set_option maxRecDepth 100000
set_option maxHeartbeats 4000000
namespace DL
open PySem PySem.Spec PyProof.Rows L2 Evl
/-! x.insert(i, e), lists of new lists, views of whole comprehensions -/
section
variable {X : Cx} {W : WX} {fr : Option Nat} {e : Expr} {xe xi : XE} {pos : Pos}
def rInsert : V → List V → Hp → VK → Prop := fun x vs H Q => ∃ (l : Addr) (xs : List V) (i : Int) (y : V), x = .ref l ∧ vs = [.int i, y] ∧ H l = some (.lst xs) ∧ xs.length < sizeLine ∧ 0 ≤ i ∧ i < 2 ^ 63 ∧
    Q .non (upd H l (.lst (xs.take i.toNat ++ [y] ++ xs.drop i.toNat)))
def sIns (i : Nat) (xi xe : XE) : SE := fun ρ os => (ownAt ρ os i).bind fun _ => (xi ρ os).bind fun p => (xe ρ p.2).bind fun q => match p.1 with
  | .int k => (ownAt ρ q.2 i).bind fun w => if 0 ≤ k ∧ k < 2 ^ 63 ∧ w.2.length < sizeLine then some (.nx ρ (q.2.set w.1 (some (.l (w.2.take k.toNat ++ [q.1] ++ w.2.drop k.toNat))))) else none
  | _ => none
theorem psx_ins {i : Nat} (h : PS X (.Expr e pos) (tDrop (tBM X.K "list" rInsert (tVar i) (tCons (teO X.K xi) (tCons (teO X.K xe) tNil))))) : PSX X W fr (.Expr e pos) (sIns i xi xe) := ps_imp h fun D σ H q => by
  obtain ⟨as0, Hs, as, ρ, os, H0, o, bs0, n, hx, k⟩ := q
  unfold sIns at hx
  cases h0 : ownAt ρ os i with
  | none => rw [h0] at hx; cases hx
  | some q0 =>
  obtain ⟨j0, ds0⟩ := q0
  rw [h0, Option.bind_some] at hx
  cases h1 : xi ρ os with
  | none => rw [h1] at hx; cases hx
  | some p =>
    obtain ⟨dk, os1⟩ := p
    rw [h1, Option.bind_some] at hx
    simp only at hx
    cases hq : xe ρ os1 with
    | none => rw [hq] at hx; cases hx
    | some q9 =>
    obtain ⟨d, os9⟩ := q9
    rw [hq, Option.bind_some] at hx
    simp only at hx
    split at hx
    · rename_i kk
      cases h2 : ownAt ρ os9 i with
      | none => rw [h2] at hx; cases hx
      | some q =>
        obtain ⟨j, ds⟩ := q
        rw [h2, Option.bind_some] at hx
        simp only at hx
        split at hx
        · rename_i hz
          cases hx
          obtain ⟨h3, h4⟩ := ownAt_some h2
          obtain ⟨h5, h6⟩ := ownAt_some h0
          obtain ⟨adr, e1, e2⟩ := n.ref i j h3
          have ej : j0 = j := by
            rw [h3] at h5
            cases h5
            rfl
          subst ej
          have hm : adr ∈ as := List.mem_of_getElem? e1
          obtain ⟨_, vs0, q0, _⟩ := n.ow.l j0 adr ds0 e1 h6
          refine ⟨_, e2, .inl ⟨rfl, vs0, SqL.of q0⟩, as, ρ, os, H0, _, os1, n, h1, fun u Hm Hn nm gm rm => ⟨as, ρ, os1, Hm, d, os9, nm, hq, fun v H0' H' n1 g1 r1 => ?_⟩⟩
          have eu := da_intI rm
          subst eu
          obtain ⟨q1, vs, q2, q3⟩ := n1.ow.l j0 adr ds e1 h4
          refine ⟨adr, vs, kk, v, rfl, rfl, q2, by rw [q3.len]; exact hz.2.2, hz.1, hz.2.1, ?_⟩
          exact k as σ H0' _ Exs.refl (n1.mut e1 h4 (((q3.take kk.toNat).app (.cons r1 .nil)).app (q3.drop kk.toNat))) ((gm.tr g1).tr (Gr.mut n1.sub hm q1 (n1.ow.trk _ hm)))
        · cases hx
    · cases hx
end
/-! comprehensions whose items are made there -/
def lcRunS (xg : XG) (xs : XS) (ρ : List Sl) : List PyData → List Sl → Os → Option (List Sl × Os)
  | [], acc, os => some (acc, os)
  | d :: r, acc, os => (xg d ρ).bind fun ρ1 => (xs ρ1 os).bind fun q => if acc.length < sizeLine then lcRunS xg xs ρ r (acc ++ [q.1]) q.2 else none
def lcS (xi : XI) (xg : XG) (xs : XS) (vs : List Nat) : XS := fun ρ os => (xi ρ os).bind fun p => (lcRunS xg xs (wipeR ρ vs) p.1 [] p.2).map fun q => (.o q.2.length, q.2 ++ [some (.r q.1)])
theorem En.backE {K : PySem.W.Frag} {as as' : List Addr} {ρ ρ1 : List Sl} {os os1 : Os} {σ σ1 : L2.St} {H0 H H0' H' Hx : Hp} (n : En K as' ρ1 os1 σ1 H0' H') (m : En K as ρ os σ H0 H) (x : Exs as Hx as') (e : Ex H0 H0') : En K as' ρ os1 σ H0' H' :=
  ⟨n.sub, m.len, fun i x h => by
    obtain ⟨v, e1, r⟩ := m.dat i x h
    exact ⟨v, e1, Da.mono e _ _ r⟩, fun i k h => by
    obtain ⟨a, e1, e2⟩ := m.ref i k h
    obtain ⟨bs, rfl, _⟩ := x
    exact ⟨a, by rw [List.getElem?_append_left (List.getElem?_eq_some_iff.mp e1).1]; exact e1, e2⟩, n.ow⟩
theorem ArgsOk.exs {K : PySem.W.Frag} {as as' : List Addr} {H H0 : Hp} {vs : List V} {ss : List Sl} (e : Exs as H as') (h : ArgsOk K as H0 vs ss) : ArgsOk K as' H0 vs ss := by
  obtain ⟨bs, rfl, _⟩ := e
  exact h.app
section
variable {X : Cx} {elt tg iter : Expr} {scope : Scope} {own : List (Str × Nat)} {pos : Pos} {xi : XI} {xg : XG} {js : List Nat} {xs : XS}
theorem to_lcS {K : PySem.W.Frag} {vs : List Nat} (hj : ∀ j ∈ js, j ∈ vs) {σ : L2.St} {H : Hp} {Q : VK} (q : teS K (lcS xi xg xs vs) σ H Q) : tLc (tiO K xi) (gO K xg js) (ttO K xYes) (teS K xs) vs σ H Q := by
  obtain ⟨as, ρ, os, H0, s0, os', n, hx, k⟩ := q
  unfold lcS at hx
  cases h1 : xi ρ os with
  | none => rw [h1] at hx; cases hx
  | some q =>
    obtain ⟨items, os1⟩ := q
    rw [h1, Option.bind_some] at hx
    simp only at hx
    cases hrr : lcRunS xg xs (wipeR ρ vs) items [] os1 with
    | none => rw [hrr] at hx; cases hx
    | some z =>
    obtain ⟨ss, osz⟩ := z
    rw [hrr] at hx
    cases hx
    refine ⟨as, ρ, os, H0, items, os1, n, h1, fun J Ha Hb n1 g1 w => ?_⟩
    intro D hD
    have nD : D ∉ as := fun z => n1.ow.trk D z hD
    refine ⟨fun i m H2 => m = items.length - i ∧ i ≤ items.length ∧ ∃ acc osi asI H2' vacc, Exs as Hb asI ∧ En K asI (wipeR ρ vs) osi (wipe σ vs) H2' H2 ∧ Gr as Ha Hb H2' H2 ∧ D ∉ asI ∧ H2' D = none ∧ H2 D = some (.lst vacc) ∧ ArgsOk K asI H2' vacc acc ∧ lcRunS xg xs (wipeR ρ vs) (items.drop i) acc osi = some (ss, osz),
      ⟨items.length, by simp, Nat.zero_le _, [], os1, as, Ha, [], Exs.refl, (n1.wipe vs).away nD (fun a h => upd_ne h) (by rw [upd_same]; simp) (fresh_back n1.sub hD), gr_upd (Gr.refl n1.sub) hD (fresh_back n1.sub hD), nD, fresh_back n1.sub hD, upd_same, True.intro, hrr⟩, ?_⟩
    rintro i m H2 ⟨rfl, hi, acc, osi, asI, H2', vacc, eI, nI, gI, nDI, h2, h3, h4, hr⟩
    by_cases hlt : i < items.length
    · refine .inr ⟨w.goes i H2 hlt (gI.e0.trans nI.sub), fun H3 => ∃ acc osi asI H2' vacc, Exs as Hb asI ∧ En K asI (wipeR ρ vs) osi (wipe σ vs) H2' H3 ∧ Gr as Ha Hb H2' H3 ∧ D ∉ asI ∧ H2' D = none ∧ H3 D = some (.lst vacc) ∧ ArgsOk K asI H2' vacc acc ∧ lcRunS xg xs (wipeR ρ vs) (items.drop (i + 1)) acc osi = some (ss, osz), fun H3 p3 => ⟨items.length - (i + 1), by omega, rfl, hlt, p3⟩, fun x H3 y => ?_⟩
      obtain ⟨H3', d, g3, hd, r3⟩ := w.yields i H2 x H3 H2' hlt gI.e0 nI.sub y
      have n3 := nI.grow g3
      have e3 : items.drop i = d :: items.drop (i + 1) := by
        obtain ⟨_, e⟩ := List.getElem?_eq_some_iff.mp hd
        rw [← e]
        exact List.drop_eq_getElem_cons hlt
      rw [e3] at hr
      simp only [lcRunS] at hr
      cases q1 : xg d (wipeR ρ vs) with
      | none => rw [q1] at hr; cases hr
      | some ρ1 =>
        rw [q1, Option.bind_some] at hr
        refine ⟨asI, wipeR ρ vs, osi, H3', d, ρ1, n3, r3, q1, fun σ4 n4 w4 => ⟨(w4 vs hj).trans wipe_wipe, ?_⟩⟩
        have D3 : H3 D = some (.lst vacc) := g3.e1 D _ (by simp) h3
        have D3' : H3' D = none := by
          cases z : H3' D with
          | none => rfl
          | some u =>
            have := g3.nw D u (by simp) z (by rw [h3]; simp)
            rw [h2] at this
            cases this
        refine ⟨asI, ρ1, osi, H3', true, osi, n4, rfl, fun H5' H5 n5 g5 => ?_⟩
        have D5 : H5 D = some (.lst vacc) := g5.e1 D _ nDI D3
        have D5' : H5' D = none := keep_none g5 nDI D3' (by rw [D3]; simp)
        have gA : Gr as Ha Hb H5' H5 := (gI.tr0 g3).trans g5 eI.mem
        simp only [if_true]
        cases q3 : xs ρ1 osi with
        | none => rw [q3] at hr; cases hr
        | some p =>
          obtain ⟨yv, os6⟩ := p
          rw [q3, Option.bind_some] at hr
          simp only at hr
          split at hr
          · rename_i hz
            refine ⟨asI, ρ1, osi, H5', yv, os6, n5, q3, fun v as6 H6' H6 e6 n6 g6 r6 => ?_⟩
            have D6 : H6 D = some (.lst vacc) := g6.e1 D _ nDI D5
            have D6' : H6' D = none := keep_none g6 nDI D5' (by rw [D5]; simp)
            have nD6 : D ∉ as6 := fun z => by
              obtain ⟨bs, rfl, hb⟩ := e6
              rcases List.mem_append.mp z with z | z
              · exact nDI z
              · have := hb D z
                rw [D5] at this
                cases this
            have h46 : ArgsOk K as6 H6' vacc acc := (h4.mono ((g3.e0.trans g5.e0).trans g6.e0)).exs e6
            have gB : Gr as Ha Hb H6' H6 := gA.trans g6 eI.mem
            refine ⟨vacc, D6, by rw [args_len h46]; exact hz, acc ++ [yv], os6, as6, H6', vacc ++ [v], eI.trans e6 gA.kp, ?_, gr_upd gB hD D6', nD6, D6', upd_same, argsOk_snoc r6 h46, hr⟩
            exact (n6.backE nI e6 ((g3.e0.trans g5.e0).trans g6.e0)).away nD6 (fun a h => upd_ne h) (by rw [upd_same]; simp) D6'
          · cases hr
    · have e : items.drop i = [] := List.drop_eq_nil_of_le (by omega)
      rw [e] at hr
      cases hr
      have ei : i = items.length := by omega
      subst ei
      have hDH : H D = none := by
        cases z : H D with
        | none => rfl
        | some u => exact absurd hD (g1.kp D (by rw [z]; simp))
      have nb : En K asI ρ osz σ H2' H2 := nI.backE n1 eI gI.e0
      have n3 := nb.own (ob := .r ss) (ho := .lst vacc) ρ.length h2 nDI h3 h4
      rw [List.set_eq_of_length_le (Nat.le_refl _), List.set_eq_of_length_le (by rw [nb.len]; exact Nat.le_refl _)] at n3
      have ex : Exs as H (asI ++ [D]) := by
        obtain ⟨bs, rfl, hb⟩ := eI
        refine ⟨bs ++ [D], by simp, fun b hbm => ?_⟩
        rcases List.mem_append.mp hbm with z | z
        · cases y : H b with
          | none => rfl
          | some u => exact absurd (hb b z) (g1.kp b (by rw [y]; simp))
        · rw [List.mem_singleton.mp z]
          exact hDH
      refine .inl ⟨w.stops H2 (gI.e0.trans nI.sub), k _ _ H2' H2 ex n3 (g1.tr gI) ⟨D, by rw [← nI.ow.len, List.getElem?_append_right (Nat.le_refl _)]; simp, rfl⟩⟩
theorem pxs_lcS (hc : X.calm = true) (hN : X.N.Nodup) (hi : PXI X tg iter xi) (ok : BlkOk X.N X.env.scope scope own)
    (hg : ∀ (s : Shared) (H : Hp) (C : Addr) (cl : List (Str × Addr)) (fp : List Addr), PXG (X.blk s H scope (compEnvC scope cl C X.env) fp) tg xg js)
    (he : ∀ (s : Shared) (H : Hp) (C : Addr) (cl : List (Str × Addr)) (fp : List Addr), PXS (X.blk s H scope (compEnvC scope cl C X.env) fp) elt xs)
    (hj : ∀ j ∈ js, j ∈ own.map (·.2)) (hs : ∀ x, foldedSetIterable iter X.env x = pure x := by intro _; rfl) : PXS X (.ListComp elt [⟨tg, iter, [], 0⟩] scope pos) (lcS xi xg xs (own.map (·.2))) :=
  pe_imp (pe_lc hc hN hi ok hg (fun _ _ _ _ _ => pxts_nil) he hs) fun _ _ _ q => to_lcS hj q
end
/-! a whole comprehension seen as data -/
theorem to_viewF {K : PySem.W.Frag} {x : XI} {σ : L2.St} {H : Hp} {Q : VK} (q : teF K (fViewN x) σ H Q) : teF K x σ H Q := by
  obtain ⟨as, ρ, os, H0, ds, os', n, hx, k⟩ := q
  unfold fViewN at hx
  cases h1 : x (ρ.map (viewN os)) [] with
  | none => rw [h1] at hx; cases hx
  | some p =>
    obtain ⟨y, os1⟩ := p
    rw [h1, Option.bind_some] at hx
    simp only at hx
    split at hx
    · rename_i hf
      cases hx
      obtain ⟨Hv, up, nv⟩ := en_viewN n
      refine ⟨[], _, [], Hv, _, os1, nv, h1, fun p vs H1 H1' hp n1 g1 r1 r2 r3 r4 => ?_⟩
      obtain ⟨n2, g2⟩ := en_back n up g1
      have h0 : H0 p = none := by
        cases z : H0 p with
        | none => rfl
        | some o =>
          have := n.sub _ _ z
          rw [hp] at this
          cases this
      exact k p vs H0 H1' hp n2 g2 h0 (fun z => n.ow.trk p z hp) r3 (das_flat hf r4)
    · cases hx
theorem ps_viewF {X : Cx} {st : Stmt} {x : XI} {g : TG} (h : PS X st (tAsg (teF X.K x) g)) : PS X st (tAsg (teF X.K (fViewN x)) g) := ps_impE h fun _ _ _ q => to_viewF q
/-! xs.count(e) of a list of any data -/
def rCntG (K : PySem.W.Frag) : V → List V → Hp → VK → Prop := fun x xs H Q => ∃ (p : Addr) (vs : List V) (ds : List PyData) (u : V) (d : PyData), x = .ref p ∧ xs = [u] ∧ SqL K H p vs ∧ DaAll K H vs ds ∧ Da K H u d ∧ PyData.plainAll ds = true ∧ d.plain = true ∧ d.depth ≤ 60 ∧ Q (.int (ds.countP fun y => PyData.eqv y d : Nat)) H
theorem mt_gcount {X : Cx} (hu : X.A.units + 65 < cLine) : MtR X "list.count" (rCntG X.K) := by
  intro pins s σ H x xs v us Q I rx rxs h
  obtain ⟨p, vs, ds, u, d, rfl, rfl, hs, ha, hd, h1, h2, h3, q⟩ := h
  cases rx
  obtain ⟨u', rfl, ru⟩ := rxs.one
  obtain ⟨its, rv, pl, hlen⟩ := I.list hs
  obtain ⟨as, rs⟩ := DaAll.reads I ds vs _ ha rv
  obtain ⟨bs, rd⟩ := Da.reads I d _ _ hd ru
  refine PySem.SeqAt.count_list_data pl.isList rs rd h1 h2 (by omega) ?_
  exact ⟨.int (ds.countP fun y => PyData.eqv y d : Nat), H, I.tok _, ⟨_, rfl⟩, q⟩
def gcntD : PyData → PyData → Option PyData
  | .list c, d => if PyData.plainAll c = true ∧ d.plain = true ∧ d.depth ≤ 60 then some (.int (c.countP fun y => PyData.eqv y d : Nat)) else none
  | _, _ => none
theorem px_gcount {X : Cx} {a b : Expr} {xa xb : XE} {apos cpos : Pos} (hu : X.A.units + 65 < cLine) (ha : PX X a xa) (hb : PX X b xb)
    (hbase : attributeBase a "count" X.env (eval a X.env) = eval a X.env := by rfl)
    (hfew : ((backTo cpos (starEach [b] X.env)).all (fun x => !x.1) && (backToKw cpos (keywordEach [] X.env)).all (fun x => x.1.isSome)
      && decide ([b].length + ([] : List Keyword).length + (if ([] : List Keyword).isEmpty then 0 else 1) < 30)) = true := by rfl)
    (hline : (apos.endLine == cpos.line) = true := by rfl) (hs : starEach [b] X.env = (false, eval b X.env) :: starEach [] X.env := by rfl) (hplain : (backTo cpos (starEach [] X.env)).any (·.1) = false := by rfl) : PX X (.Call (.Attribute a "count" apos) [b] [] cpos) (xOp gcntD xa xb) :=
  pe_imp (pe_bm PySem.F.plainAttrs_list PySem.F.slot_list_count PySem.F.type_list_count (mt_gcount hu) ha (pa_cons hb pa_nil hs) hbase hfew hline hs hplain) fun σ H Q q => by
    obtain ⟨as, ρ, os, H0, d, os', n, hx, k⟩ := q
    obtain ⟨x, os1, y, h1, h2, h3⟩ := xOp_some hx
    refine ⟨as, ρ, os, H0, x, os1, n, h1, fun v H1 H1' n1 g1 r1 => ?_⟩
    unfold gcntD at h3
    split at h3
    · rename_i c z
      split at h3
      · rename_i hc
        cases h3
        cases r1 with
        | @lst p vs ds l1 l2 =>
          refine ⟨.inl ⟨rfl, vs, ex_l n1.sub l1⟩, as, ρ, os1, H1, y, os', n1, h2, fun u H2 H2' n2 g2 r2 => ?_⟩
          have l3 := ex_l n2.sub (ex_l g2.e0 l1)
          exact ⟨p, vs, _, u, _, rfl, rfl, l3, DaAll.mono (g2.e0.trans n2.sub) _ _ l2, Da.mono n2.sub _ _ r2, hc.1, hc.2.1, hc.2.2, k _ H2 H2' n2 (g1.tr g2) (.int _)⟩
      · cases h3
    · cases h3
end DL

set_option Elab.async false
set_option linter.all false
set_option maxRecDepth 100000
set_option maxHeartbeats 4000000
namespace Lw
open PySem PySem.Spec PyProof.Rows L2 Evl DL
/-! the text -/
def topS (i : Nat) : Stmt := PySem.Challenge.pw_supermoves_k41_whole_rooms_of_supermoves.main.body.getD i (.Pass ⟨0, 0, 0, 0⟩)
abbrev s_is_whole : Stmt := topS 6
abbrev N_is_whole : List Str := ["value"]
theorem sc_is_whole : FnScope N_is_whole ["value"] (defScope s_is_whole) := ⟨rfl, rfl, rfl, by decide +kernel, rfl, by decide +kernel, by decide +kernel⟩
abbrev s_is_within : Stmt := topS 7
abbrev N_is_within : List Str := ["value", "low", "high"]
theorem sc_is_within : FnScope N_is_within ["value", "low", "high"] (defScope s_is_within) := ⟨rfl, rfl, rfl, by decide +kernel, rfl, by decide +kernel, by decide +kernel⟩
abbrev s_is_tuple_of : Stmt := topS 8
abbrev N_is_tuple_of : List Str := ["value", "many"]
theorem sc_is_tuple_of : FnScope N_is_tuple_of ["value", "many"] (defScope s_is_tuple_of) := ⟨rfl, rfl, rfl, by decide +kernel, rfl, by decide +kernel, by decide +kernel⟩
abbrev s_is_rules : Stmt := topS 13
abbrev N_is_rules : List Str := ["value", "ranks", "suits", "build"]
theorem sc_is_rules : FnScope N_is_rules ["value"] (defScope s_is_rules) := ⟨rfl, rfl, rfl, by decide +kernel, rfl, by decide +kernel, by decide +kernel⟩
abbrev s_check_rules : Stmt := topS 14
abbrev N_check_rules : List Str := ["rules"]
theorem sc_check_rules : FnScope N_check_rules ["rules"] (defScope s_check_rules) := ⟨rfl, rfl, rfl, by decide +kernel, rfl, by decide +kernel, by decide +kernel⟩
abbrev s_fits_deck : Stmt := topS 15
abbrev N_fits_deck : List Str := ["rules", "value", "rank", "suit"]
theorem sc_fits_deck : FnScope N_fits_deck ["rules", "value"] (defScope s_fits_deck) := ⟨rfl, rfl, rfl, by decide +kernel, rfl, by decide +kernel, by decide +kernel⟩
abbrev s_cards_of : Stmt := topS 16
abbrev N_cards_of : List Str := ["rules", "ranks", "suits", "_", "rank", "suit"]
theorem sc_cards_of : FnScope N_cards_of ["rules"] (defScope s_cards_of) := ⟨rfl, rfl, rfl, by decide +kernel, rfl, by decide +kernel, by decide +kernel⟩
abbrev s_goes_on : Stmt := topS 17
abbrev N_goes_on : List Str := ["rules", "card", "other", "build"]
theorem sc_goes_on : FnScope N_goes_on ["rules", "card", "other"] (defScope s_goes_on) := ⟨rfl, rfl, rfl, by decide +kernel, rfl, by decide +kernel, by decide +kernel⟩
abbrev s_are_cards : Stmt := topS 19
abbrev N_are_cards : List Str := ["rules", "value", "card"]
theorem sc_are_cards : FnScope N_are_cards ["rules", "value"] (defScope s_are_cards) := ⟨rfl, rfl, rfl, by decide +kernel, rfl, by decide +kernel, by decide +kernel⟩
abbrev s_are_columns : Stmt := topS 20
abbrev N_are_columns : List Str := ["rules", "value", "column"]
theorem sc_are_columns : FnScope N_are_columns ["rules", "value"] (defScope s_are_columns) := ⟨rfl, rfl, rfl, by decide +kernel, rfl, by decide +kernel, by decide +kernel⟩
abbrev s_are_cells : Stmt := topS 21
abbrev N_are_cells : List Str := ["rules", "value", "card"]
theorem sc_are_cells : FnScope N_are_cells ["rules", "value"] (defScope s_are_cells) := ⟨rfl, rfl, rfl, by decide +kernel, rfl, by decide +kernel, by decide +kernel⟩
abbrev s_are_homes : Stmt := topS 22
abbrev N_are_homes : List Str := ["rules", "value", "ranks", "suits", "_", "home"]
theorem sc_are_homes : FnScope N_are_homes ["rules", "value"] (defScope s_are_homes) := ⟨rfl, rfl, rfl, by decide +kernel, rfl, by decide +kernel, by decide +kernel⟩
abbrev s_cards_about : Stmt := topS 23
abbrev N_cards_about : List Str := ["position", "columns", "cells", "_", "column", "card"]
theorem sc_cards_about : FnScope N_cards_about ["position"] (defScope s_cards_about) := ⟨rfl, rfl, rfl, by decide +kernel, rfl, by decide +kernel, by decide +kernel⟩
abbrev s_fits_rules : Stmt := topS 24
abbrev N_fits_rules : List Str := ["rules", "value", "columns", "cells", "homes", "card"]
theorem sc_fits_rules : FnScope N_fits_rules ["rules", "value"] (defScope s_fits_rules) := ⟨rfl, rfl, rfl, by decide +kernel, rfl, by decide +kernel, by decide +kernel⟩
abbrev s_check_position : Stmt := topS 25
abbrev N_check_position : List Str := ["rules", "position"]
theorem sc_check_position : FnScope N_check_position ["rules", "position"] (defScope s_check_position) := ⟨rfl, rfl, rfl, by decide +kernel, rfl, by decide +kernel, by decide +kernel⟩
abbrev s_run_of : Stmt := topS 26
abbrev N_run_of : List Str := ["rules", "column", "length"]
theorem sc_run_of : FnScope N_run_of ["rules", "column"] (defScope s_run_of) := ⟨rfl, rfl, rfl, by decide +kernel, rfl, by decide +kernel, by decide +kernel⟩
abbrev s_fits_supermove : Stmt := topS 27
abbrev N_fits_supermove : List Str := ["rules", "position", "value", "columns", "last", "start", "goal", "many"]
theorem sc_fits_supermove : FnScope N_fits_supermove ["rules", "position", "value"] (defScope s_fits_supermove) := ⟨rfl, rfl, rfl, by decide +kernel, rfl, by decide +kernel, by decide +kernel⟩
abbrev s_lowest_of : Stmt := topS 29
abbrev N_lowest_of : List Str := ["position", "supermove", "start", "_", "many"]
theorem sc_lowest_of : FnScope N_lowest_of ["position", "supermove"] (defScope s_lowest_of) := ⟨rfl, rfl, rfl, by decide +kernel, rfl, by decide +kernel, by decide +kernel⟩
abbrev s_makes_sense : Stmt := topS 30
abbrev N_makes_sense : List Str := ["rules", "position", "supermove", "columns", "start", "goal", "many"]
theorem sc_makes_sense : FnScope N_makes_sense ["rules", "position", "supermove"] (defScope s_makes_sense) := ⟨rfl, rfl, rfl, by decide +kernel, rfl, by decide +kernel, by decide +kernel⟩
abbrev s_check_supermove : Stmt := topS 31
abbrev N_check_supermove : List Str := ["rules", "position", "supermove"]
theorem sc_check_supermove : FnScope N_check_supermove ["rules", "position", "supermove"] (defScope s_check_supermove) := ⟨rfl, rfl, rfl, by decide +kernel, rfl, by decide +kernel, by decide +kernel⟩
abbrev s_is_sensible : Stmt := topS 32
abbrev N_is_sensible : List Str := ["rules", "position", "supermove"]
theorem sc_is_sensible : FnScope N_is_sensible ["rules", "position", "supermove"] (defScope s_is_sensible) := ⟨rfl, rfl, rfl, by decide +kernel, rfl, by decide +kernel, by decide +kernel⟩
abbrev s_check_sensible : Stmt := topS 33
abbrev N_check_sensible : List Str := ["rules", "position", "supermove"]
theorem sc_check_sensible : FnScope N_check_sensible ["rules", "position", "supermove"] (defScope s_check_sensible) := ⟨rfl, rfl, rfl, by decide +kernel, rfl, by decide +kernel, by decide +kernel⟩
abbrev s_numbers_free : Stmt := topS 34
abbrev N_numbers_free : List Str := ["position", "free", "columns", "cells", "_", "number", "card", "column"]
theorem sc_numbers_free : FnScope N_numbers_free ["position"] (defScope s_numbers_free) := ⟨rfl, rfl, rfl, by decide +kernel, rfl, by decide +kernel, by decide +kernel⟩
abbrev s_helping_columns : Stmt := topS 35
abbrev N_helping_columns : List Str := ["rules", "position", "supermove", "card", "columns", "moved", "start", "goal", "_", "number", "column"]
theorem sc_helping_columns : FnScope N_helping_columns ["rules", "position", "supermove", "card"] (defScope s_helping_columns) := ⟨rfl, rfl, rfl, by decide +kernel, rfl, by decide +kernel, by decide +kernel⟩
abbrev s_kind_beside : Stmt := topS 36
abbrev N_kind_beside : List Str := ["position", "supermove", "start", "goal", "many"]
theorem sc_kind_beside : FnScope N_kind_beside ["position", "supermove"] (defScope s_kind_beside) := ⟨rfl, rfl, rfl, by decide +kernel, rfl, by decide +kernel, by decide +kernel⟩
abbrev s_room_beside : Stmt := topS 37
abbrev N_room_beside : List Str := ["rules", "position", "supermove", "tops", "cells", "empty", "card"]
theorem sc_room_beside : FnScope N_room_beside ["rules", "position", "supermove"] (defScope s_room_beside) := ⟨rfl, rfl, rfl, by decide +kernel, rfl, by decide +kernel, by decide +kernel⟩
abbrev s_room_of : Stmt := topS 38
abbrev N_room_of : List Str := ["rules", "position", "supermove"]
theorem sc_room_of : FnScope N_room_of ["rules", "position", "supermove"] (defScope s_room_of) := ⟨rfl, rfl, rfl, by decide +kernel, rfl, by decide +kernel, by decide +kernel⟩
abbrev s_law_cell : Stmt := topS 40
abbrev N_law_cell : List Str := ["script", "index"]
theorem sc_law_cell : FnScope N_law_cell ["script", "index"] (defScope s_law_cell) := ⟨rfl, rfl, rfl, by decide +kernel, rfl, by decide +kernel, by decide +kernel⟩
abbrev s_law_hash : Stmt := topS 41
abbrev N_law_hash : List Str := ["seed", "index", "mixed"]
theorem sc_law_hash : FnScope N_law_hash ["seed", "index"] (defScope s_law_hash) := ⟨rfl, rfl, rfl, by decide +kernel, rfl, by decide +kernel, by decide +kernel⟩
abbrev s_law_generator : Stmt := topS 42
abbrev N_law_generator : List Str := ["script", "index", "seed"]
theorem sc_law_generator : FnScope N_law_generator ["script", "index"] (defScope s_law_generator) := ⟨rfl, rfl, rfl, by decide +kernel, rfl, by decide +kernel, by decide +kernel⟩
abbrev s_law_random : Stmt := topS 43
abbrev N_law_random : List Str := ["generator", "limit", "drawn", "turn"]
theorem sc_law_random : FnScope N_law_random ["generator", "limit"] (defScope s_law_random) := ⟨rfl, rfl, rfl, by decide +kernel, rfl, by decide +kernel, by decide +kernel⟩
abbrev s_law_rules : Stmt := topS 44
abbrev N_law_rules : List Str := ["generator"]
theorem sc_law_rules : FnScope N_law_rules ["generator"] (defScope s_law_rules) := ⟨rfl, rfl, rfl, by decide +kernel, rfl, by decide +kernel, by decide +kernel⟩
abbrev s_law_lies : Stmt := topS 45
abbrev N_law_lies : List Str := ["rules", "card", "other"]
theorem sc_law_lies : FnScope N_law_lies ["rules", "card", "other"] (defScope s_law_lies) := ⟨rfl, rfl, rfl, by decide +kernel, rfl, by decide +kernel, by decide +kernel⟩
abbrev s_law_position : Stmt := topS 46
abbrev N_law_position : List Str := ["generator", "rules", "homes", "cells", "rank", "card", "columns", "cards", "suit", "fits", "free", "turn", "at", "column", "other"]
theorem sc_law_position : FnScope N_law_position ["generator", "rules"] (defScope s_law_position) := ⟨rfl, rfl, rfl, by decide +kernel, rfl, by decide +kernel, by decide +kernel⟩
abbrev s_law_run : Stmt := topS 47
abbrev N_law_run : List Str := ["rules", "column", "many"]
theorem sc_law_run : FnScope N_law_run ["rules", "column"] (defScope s_law_run) := ⟨rfl, rfl, rfl, by decide +kernel, rfl, by decide +kernel, by decide +kernel⟩
abbrev s_law_supermoves : Stmt := topS 48
abbrev N_law_supermoves : List Str := ["rules", "position", "found", "start", "column", "goal", "many"]
theorem sc_law_supermoves : FnScope N_law_supermoves ["rules", "position"] (defScope s_law_supermoves) := ⟨rfl, rfl, rfl, by decide +kernel, rfl, by decide +kernel, by decide +kernel⟩
abbrev s_law_sensible : Stmt := topS 49
abbrev N_law_sensible : List Str := ["rules", "position", "supermove", "start", "goal", "many", "column", "other"]
theorem sc_law_sensible : FnScope N_law_sensible ["rules", "position", "supermove"] (defScope s_law_sensible) := ⟨rfl, rfl, rfl, by decide +kernel, rfl, by decide +kernel, by decide +kernel⟩
abbrev s_law_room_of : Stmt := topS 50
abbrev N_law_room_of : List Str := ["rules", "position", "supermove", "card", "kind", "start", "goal", "many", "column", "tops", "at", "other"]
theorem sc_law_room_of : FnScope N_law_room_of ["rules", "position", "supermove"] (defScope s_law_room_of) := ⟨rfl, rfl, rfl, by decide +kernel, rfl, by decide +kernel, by decide +kernel⟩
abbrev s_law_right : Stmt := topS 51
abbrev N_law_right : List Str := ["generator", "rules", "position", "supermove", "kept", "some", "right", "due", "told"]
theorem sc_law_right : FnScope N_law_right ["generator"] (defScope s_law_right) := ⟨rfl, rfl, rfl, by decide +kernel, rfl, by decide +kernel, by decide +kernel⟩
abbrev s_law : Stmt := topS 52
abbrev N_law : List Str := ["script", "index", "run", "columns", "deal", "empties", "rules", "position", "told", "wide", "nine", "row", "rank", "supermove", "goal"]
theorem sc_law : FnScope N_law ["script"] (defScope s_law) := ⟨rfl, rfl, rfl, by decide +kernel, rfl, by decide +kernel, by decide +kernel⟩
/-! the mirrors -/
def c_BUILDS : List PyData := [.str "other", .str "same", .str "any"]
/-! def is_whole -/
def b_is_whole : SE :=
  (sRet (xAndV (xUn (isiD "int") (xVar 0)) (xUn notD (xUn (isiD "bool") (xVar 0)))))
def m_is_whole : XM := mOf 1 1 b_is_whole
/-! def is_within -/
def b_is_within : SE :=
  (sRet (xAndV (xFn m_is_whole (xaD (xVar 0) xaNil)) (xChain leD leD (xVar 1) (xVar 0) (xVar 2))))
def m_is_within : XM := mOf 3 3 b_is_within
/-! def is_tuple_of -/
def b_is_tuple_of : SE :=
  (sRet (xAndV (xUn (isiD "tuple") (xVar 0)) (xOp eqD (xCall lenD (xaD (xVar 0) xaNil)) (xVar 1))))
def m_is_tuple_of : XM := mOf 2 2 b_is_tuple_of
/-! def is_rules -/
def b_is_rules : SE :=
  (sSeq (sIf (xNotT (xTruth (xFn m_is_tuple_of (xaD (xVar 0) (xaD (xC (.int 3)) xaNil)))))
  (sRet (xC (.bool false)))
  sNext)
  (sSeq (sAsg (xVar 0) (gTp 3 (gsCons (gNm 1) (gsCons (gNm 2) (gsCons (gNm 3) gsNil)))))
  (sRet (xAndV (xFn m_is_within (xaD (xVar 1) (xaD (xC (.int 1)) (xaD (xC (.int 20)) xaNil)))) (xAndV (xFn m_is_within (xaD (xVar 2) (xaD (xC (.int 1)) (xaD (xC (.int 8)) xaNil)))) (xInT c_BUILDS (xVar 3)))))))
def m_is_rules : XM := mOf 1 4 b_is_rules
/-! def check_rules -/
def b_check_rules : SE :=
  (sIf (xNotT (xTruth (xFn m_is_rules (xaD (xVar 0) xaNil))))
  sNever
  sNext)
def m_check_rules : XM := mOf 1 1 b_check_rules
/-! def fits_deck -/
def b_fits_deck : SE :=
  (sSeq (sIf (xNotT (xTruth (xFn m_is_tuple_of (xaD (xVar 1) (xaD (xC (.int 2)) xaNil)))))
  (sRet (xC (.bool false)))
  sNext)
  (sSeq (sAsg (xVar 1) (gTp 2 (gsCons (gNm 2) (gsCons (gNm 3) gsNil))))
  (sRet (xAndV (xFn m_is_within (xaD (xVar 2) (xaD (xC (.int 1)) (xaD (xOp ixD (xVar 0) (xC (.int 0))) xaNil)))) (xFn m_is_within (xaD (xVar 3) (xaD (xC (.int 0)) (xaD (xOp subD (xOp ixD (xVar 0) (xC (.int 1))) (xC (.int 1))) xaNil))))))))
def m_fits_deck : XM := mOf 2 4 b_fits_deck
/-! def cards_of -/
def b_cards_of : SE :=
  (sSeq (sAsg (xVar 0) (gTp 3 (gsCons (gNm 1) (gsCons (gNm 2) (gsCons (gNm 3) gsNil)))))
  (sRet (xF (lc2D (iRg (xaD (xC (.int 1)) (xaD (xOp addD (xVar 1) (xC (.int 1))) xaNil))) (gNm 4) xYes (iRg (xaD (xVar 2) xaNil)) (gNm 5) xYes (xCall tupD (xaD (xVar 4) (xaD (xVar 5) xaNil))) [4, 5] [5]))))
def m_cards_of : XM := mOf 1 6 b_cards_of
/-! def goes_on -/
def b_goes_on : SE :=
  (sSeq (sAsg (xOp ixD (xVar 0) (xC (.int 2))) (gNm 3))
  (sSeq (sIf (xBool (xOp neD (xOp addD (xOp ixD (xVar 1) (xC (.int 0))) (xC (.int 1))) (xOp ixD (xVar 2) (xC (.int 0)))))
  (sRet (xC (.bool false)))
  sNext)
  (sSeq (sIf (xBool (xOp eqD (xVar 3) (xC (.str "same"))))
  (sRet (xOp eqD (xOp ixD (xVar 1) (xC (.int 1))) (xOp ixD (xVar 2) (xC (.int 1)))))
  sNext)
  (sRet (xOrV (xOp eqD (xVar 3) (xC (.str "any"))) (xOp eqD (xOp modD (xOp subD (xOp ixD (xVar 1) (xC (.int 1))) (xOp ixD (xVar 2) (xC (.int 1)))) (xC (.int 2))) (xC (.int 1))))))))
def m_goes_on : XM := mOf 3 4 b_goes_on
/-! def are_cards -/
def b_are_cards : SE :=
  (sRet (xAndV (xUn (isiD "list") (xVar 1)) (xCall allD (xaD (xF (lcD (iLst (xVar 1)) (gNm 2) xYes (xFn m_fits_deck (xaD (xVar 0) (xaD (xVar 2) xaNil))) [2])) xaNil))))
def m_are_cards : XM := mOf 2 3 b_are_cards
/-! def are_columns -/
def b_are_columns : SE :=
  (sRet (xAndV (xUn (isiD "list") (xVar 1)) (xAndV (xOp gtD (xCall lenD (xaD (xVar 1) xaNil)) (xC (.int 0))) (xCall allD (xaD (xF (lcD (iLst (xVar 1)) (gNm 2) xYes (xFn m_are_cards (xaD (xVar 0) (xaD (xVar 2) xaNil))) [2])) xaNil)))))
def m_are_columns : XM := mOf 2 3 b_are_columns
/-! def are_cells -/
def b_are_cells : SE :=
  (sRet (xAndV (xUn (isiD "list") (xVar 1)) (xCall allD (xaD (xF (lcD (iLst (xVar 1)) (gNm 2) xYes (xOrV (xOp (isD false) (xVar 2) (xC .none)) (xFn m_fits_deck (xaD (xVar 0) (xaD (xVar 2) xaNil)))) [2])) xaNil))))
def m_are_cells : XM := mOf 2 3 b_are_cells
/-! def are_homes -/
def b_are_homes : SE :=
  (sSeq (sAsg (xVar 0) (gTp 3 (gsCons (gNm 2) (gsCons (gNm 3) (gsCons (gNm 4) gsNil)))))
  (sRet (xAndV (xUn (isiD "list") (xVar 1)) (xAndV (xOp eqD (xCall lenD (xaD (xVar 1) xaNil)) (xVar 3)) (xCall allD (xaD (xF (lcD (iLst (xVar 1)) (gNm 5) xYes (xFn m_is_within (xaD (xVar 5) (xaD (xC (.int 0)) (xaD (xVar 2) xaNil)))) [5])) xaNil))))))
def m_are_homes : XM := mOf 2 6 b_are_homes
/-! def cards_about -/
def b_cards_about : SE :=
  (sSeq (sAsg (xVar 0) (gTp 3 (gsCons (gNm 1) (gsCons (gNm 2) (gsCons (gNm 3) gsNil)))))
  (sRet (xOp addD (xF (lc2D (iLst (xVar 1)) (gNm 4) xYes (iLst (xVar 4)) (gNm 5) xYes (xVar 5) [4, 5] [5])) (xF (lcD (iLst (xVar 2)) (gNm 5) (xBool (xOp (isD true) (xVar 5) (xC .none))) (xVar 5) [5])))))
def m_cards_about : XM := mOf 1 6 b_cards_about
/-! def fits_rules -/
def b_fits_rules : SE :=
  (sSeq (sIf (xNotT (xTruth (xFn m_is_tuple_of (xaD (xVar 1) (xaD (xC (.int 3)) xaNil)))))
  (sRet (xC (.bool false)))
  sNext)
  (sSeq (sAsg (xVar 1) (gTp 3 (gsCons (gNm 2) (gsCons (gNm 3) (gsCons (gNm 4) gsNil)))))
  (sSeq (sIf (xNotT (xAndT (xTruth (xFn m_are_columns (xaD (xVar 0) (xaD (xVar 2) xaNil)))) (xAndT (xTruth (xFn m_are_cells (xaD (xVar 0) (xaD (xVar 3) xaNil)))) (xTruth (xFn m_are_homes (xaD (xVar 0) (xaD (xVar 4) xaNil)))))))
  (sRet (xC (.bool false)))
  sNext)
  (sRet (xOp eqD (xCall sortGD (xaD (xFn m_cards_about (xaD (xVar 1) xaNil)) xaNil)) (xF (lcD (iLst (xFn m_cards_of (xaD (xVar 0) xaNil))) (gNm 5) (xBool (xOp gtD (xOp ixD (xVar 5) (xC (.int 0))) (xOp ixD (xVar 4) (xOp ixD (xVar 5) (xC (.int 1)))))) (xVar 5) [5])))))))
def m_fits_rules : XM := mOf 2 6 b_fits_rules
/-! def check_position -/
def b_check_position : SE :=
  (sSeq (sDrop (xFn m_check_rules (xaD (xVar 0) xaNil)))
  (sIf (xNotT (xTruth (xFn m_fits_rules (xaD (xVar 0) (xaD (xVar 1) xaNil)))))
  sNever
  sNext))
def m_check_position : XM := mOf 2 2 b_check_position
/-! def run_of -/
def b_run_of : SE :=
  (sSeq (sIf (xNotT (xTruth (xVar 1)))
  (sRet (xC (.int 0)))
  sNext)
  (sSeq (sAsg (xC (.int 1)) (gNm 2))
  (sSeq (sWhile 1000000 (xAndT (xBool (xOp ltD (xVar 2) (xCall lenD (xaD (xVar 1) xaNil)))) (xTruth (xFn m_goes_on (xaD (xVar 0) (xaD (xOp ixD (xVar 1) (xUn negD (xVar 2))) (xaD (xOp ixD (xVar 1) (xOp subD (xUn negD (xVar 2)) (xC (.int 1)))) xaNil))))))
  (sAug 2 (fun i j => i + j) (xC (.int 1))))
  (sRet (xVar 2)))))
def m_run_of : XM := mOf 2 3 b_run_of
/-! def fits_supermove -/
def b_fits_supermove : SE :=
  (sSeq (sIf (xNotT (xTruth (xFn m_is_tuple_of (xaD (xVar 2) (xaD (xC (.int 3)) xaNil)))))
  (sRet (xC (.bool false)))
  sNext)
  (sSeq (sAsg (xVar 2) (gTp 3 (gsCons (gNm 5) (gsCons (gNm 6) (gsCons (gNm 7) gsNil)))))
  (sSeq (sAsg (xOp ixD (xVar 1) (xC (.int 0))) (gNm 3))
  (sSeq (sAsg (xOp subD (xCall lenD (xaD (xVar 3) xaNil)) (xC (.int 1))) (gNm 4))
  (sSeq (sIf (xNotT (xAndT (xTruth (xFn m_is_within (xaD (xVar 5) (xaD (xC (.int 0)) (xaD (xVar 4) xaNil))))) (xTruth (xFn m_is_within (xaD (xVar 6) (xaD (xC (.int 0)) (xaD (xVar 4) xaNil)))))))
  (sRet (xC (.bool false)))
  sNext)
  (sRet (xAndV (xOp neD (xVar 5) (xVar 6)) (xFn m_is_within (xaD (xVar 7) (xaD (xC (.int 1)) (xaD (xFn m_run_of (xaD (xVar 0) (xaD (xOp ixD (xVar 3) (xVar 5)) xaNil))) xaNil)))))))))))
def m_fits_supermove : XM := mOf 3 8 b_fits_supermove
/-! def lowest_of -/
def b_lowest_of : SE :=
  (sSeq (sAsg (xVar 1) (gTp 3 (gsCons (gNm 2) (gsCons (gNm 3) (gsCons (gNm 4) gsNil)))))
  (sRet (xOp ixD (xOp ixD (xOp ixD (xVar 0) (xC (.int 0))) (xVar 2)) (xUn negD (xVar 4)))))
def m_lowest_of : XM := mOf 2 5 b_lowest_of
/-! def makes_sense -/
def b_makes_sense : SE :=
  (sSeq (sAsg (xVar 2) (gTp 3 (gsCons (gNm 4) (gsCons (gNm 5) (gsCons (gNm 6) gsNil)))))
  (sSeq (sAsg (xOp ixD (xVar 1) (xC (.int 0))) (gNm 3))
  (sSeq (sIf (xNotT (xTruth (xOp ixD (xVar 3) (xVar 5))))
  (sRet (xOp ltD (xVar 6) (xCall lenD (xaD (xOp ixD (xVar 3) (xVar 4)) xaNil))))
  sNext)
  (sRet (xFn m_goes_on (xaD (xVar 0) (xaD (xFn m_lowest_of (xaD (xVar 1) (xaD (xVar 2) xaNil))) (xaD (xOp ixD (xOp ixD (xVar 3) (xVar 5)) (xUn negD (xC (.int 1)))) xaNil))))))))
def m_makes_sense : XM := mOf 3 7 b_makes_sense
/-! def check_supermove -/
def b_check_supermove : SE :=
  (sSeq (sDrop (xFn m_check_position (xaD (xVar 0) (xaD (xVar 1) xaNil))))
  (sIf (xNotT (xTruth (xFn m_fits_supermove (xaD (xVar 0) (xaD (xVar 1) (xaD (xVar 2) xaNil))))))
  sNever
  sNext))
def m_check_supermove : XM := mOf 3 3 b_check_supermove
/-! def is_sensible -/
def b_is_sensible : SE :=
  (sSeq (sDrop (xFn m_check_supermove (xaD (xVar 0) (xaD (xVar 1) (xaD (xVar 2) xaNil)))))
  (sRet (xFn m_makes_sense (xaD (xVar 0) (xaD (xVar 1) (xaD (xVar 2) xaNil))))))
def m_is_sensible : XM := mOf 3 3 b_is_sensible
/-! def check_sensible -/
def b_check_sensible : SE :=
  (sSeq (sDrop (xFn m_check_supermove (xaD (xVar 0) (xaD (xVar 1) (xaD (xVar 2) xaNil)))))
  (sIf (xNotT (xTruth (xFn m_makes_sense (xaD (xVar 0) (xaD (xVar 1) (xaD (xVar 2) xaNil))))))
  sNever
  sNext))
def m_check_sensible : XM := mOf 3 3 b_check_sensible
/-! def numbers_free -/
def b_numbers_free : SE :=
  (sSeq (sAsg (xVar 0) (gTp 3 (gsCons (gNm 2) (gsCons (gNm 3) (gsCons (gNm 4) gsNil)))))
  (sSeq (sAsg (xF (lcD (iEn (xaD (xVar 3) xaNil)) (gTp 2 (gsCons (gNm 5) (gsCons (gNm 6) gsNil))) (xBool (xOp (isD false) (xVar 6) (xC .none))) (xVar 5) [5, 6])) (gNm 1))
  (sRet (xCall tupD (xaD (xVar 1) (xaD (xF (lcD (iEn (xaD (xVar 2) xaNil)) (gTp 2 (gsCons (gNm 5) (gsCons (gNm 7) gsNil))) (xNotT (xTruth (xVar 7))) (xVar 5) [5, 7])) xaNil))))))
def m_numbers_free : XM := mOf 1 8 b_numbers_free
/-! def helping_columns -/
def b_helping_columns : SE :=
  (sSeq (sAsg (xVar 2) (gTp 3 (gsCons (gNm 6) (gsCons (gNm 7) (gsCons (gNm 8) gsNil)))))
  (sSeq (sAsg (xOp ixD (xVar 1) (xC (.int 0))) (gNm 4))
  (sSeq (sAsg (xOp ixD (xOp ixD (xVar 4) (xVar 6)) (xUn negD (xVar 3))) (gNm 5))
  (sRet (xF (lcD (iEn (xaD (xVar 4) xaNil)) (gTp 2 (gsCons (gNm 9) (gsCons (gNm 10) gsNil))) (xAndT (xTruth (xVar 10)) (xAndT (xBool (xOp (inD true) (xVar 9) (xCall tupD (xaD (xVar 6) (xaD (xVar 7) xaNil))))) (xTruth (xFn m_goes_on (xaD (xVar 0) (xaD (xVar 5) (xaD (xOp ixD (xVar 10) (xUn negD (xC (.int 1)))) xaNil))))))) (xVar 9) [9, 10]))))))
def m_helping_columns : XM := mOf 4 11 b_helping_columns
/-! def kind_beside -/
def b_kind_beside : SE :=
  (sSeq (sAsg (xVar 1) (gTp 3 (gsCons (gNm 2) (gsCons (gNm 3) (gsCons (gNm 4) gsNil)))))
  (sSeq (sIf (xNotT (xTruth (xOp ixD (xOp ixD (xVar 0) (xC (.int 0))) (xVar 3))))
  (sRet (xC (.str "into")))
  sNext)
  (sRet (xIf (xBool (xOp eqD (xCall lenD (xaD (xOp ixD (xOp ixD (xVar 0) (xC (.int 0))) (xVar 2)) xaNil)) (xVar 4))) (xC (.str "whole")) (xC (.str "over"))))))
def m_kind_beside : XM := mOf 2 5 b_kind_beside
/-! def room_beside -/
def b_room_beside : SE :=
  (sSeq (sAsg (xFn m_numbers_free (xaD (xVar 1) xaNil)) (gTp 2 (gsCons (gNm 4) (gsCons (gNm 5) gsNil))))
  (sSeq (sOwn 3 (lcD (iRg (xaD (xC (.int 1)) (xaD (xOp ixD (xVar 2) (xC (.int 2))) xaNil))) (gNm 6) (xTruth (xFn m_helping_columns (xaD (xVar 0) (xaD (xVar 1) (xaD (xVar 2) (xaD (xVar 6) xaNil)))))) (xVar 6) [6]))
  (sRetS (xsTup (xaS (xrD (xFn m_kind_beside (xaD (xVar 1) (xaD (xVar 2) xaNil)))) (xaS (xsTup (xaS (xrD (xCall lenD (xaD (xVar 4) xaNil))) (xaS (xrD (xCall lenD (xaD (xVar 5) xaNil))) (xaS (xrVar 3) xaNil)))) xaNil))))))
def m_room_beside : XMS := mOfS 3 7 b_room_beside
/-! def room_of -/
def b_room_of : SE :=
  (sSeq (sDrop (xFn m_check_sensible (xaD (xVar 0) (xaD (xVar 1) (xaD (xVar 2) xaNil)))))
  (sRetS (xsFn m_room_beside (xaS (xrD (xVar 0)) (xaS (xrD (xVar 1)) (xaS (xrD (xVar 2)) xaNil))))))
def m_room_of : XMS := mOfS 3 3 b_room_of
/-! def law_cell -/
def b_law_cell : SE :=
  (sSeq (sIf (xBool (xOp ltD (xVar 1) (xCall lenD (xaD (xVar 0) xaNil))))
  (sRet (xOp ixD (xVar 0) (xVar 1)))
  sNext)
  (sRet (xOp modD (xCall sumD (xaD (xF (xSl (xVar 0) oNone (oSome (xC (.int 1))))) xaNil)) (xC (.int 1000003)))))
def m_law_cell : XM := mOf 2 2 b_law_cell
/-! def law_hash -/
def b_law_hash : SE :=
  (sSeq (sAsg (xOp modD (xCall intD (xaD (xOp addD (xOp addD (xOp addD (xOp mulD (xVar 0) (xC (.int 1140671))) (xOp mulD (xOp mulD (xC (.int 27644437)) (xVar 1)) (xVar 1))) (xOp mulD (xC (.int 131)) (xVar 1))) (xC (.int 19))) xaNil)) (xC (.int 2147483629))) (gNm 2))
  (sSeq (sAsg (xOp modD (xCall intD (xaD (xOp addD (xOp addD (xOp mulD (xVar 2) (xVar 2)) (xOp mulD (xC (.int 62089)) (xVar 1))) (xC (.int 32416187))) xaNil)) (xC (.int 2147483587))) (gNm 2))
  (sRet (xOp modD (xCall intD (xaD (xOp mulD (xVar 2) (xC (.int 48271))) xaNil)) (xC (.int 2147483647))))))
def m_law_hash : XM := mOf 2 3 b_law_hash
/-! def law_generator -/
def b_law_generator (n0 : Nat) : SE :=
  (sSeq (sAsg (xFn m_law_cell (xaD (xVar 0) (xaD (xVar 1) xaNil))) (gNm 2))
  (sRetF (fLst (xaD (xOp modD (xCall intD (xaD (xCall maxD (xaD (xOp subD (xVar 2) (xOp powD (xC (.int 10)) (xC (.int 18)))) (xaD (xC (.int 0)) xaNil))) xaNil)) (xOp powD (xOp powD (xC (.int 10)) (xC (.int 60))) (xC (.int 10)))) (xaD (xOp modD (xCall intD (xaD (xVar 2) xaNil)) (xC (.int 2147483647))) (xaD (xOp mulD (xC (.int 1000)) (xVar 1)) xaNil))))))
def m_law_generator : XMF := mOfF 2 3 b_law_generator
/-! def law_random -/
def b_law_random : SE :=
  (sSeq (sIf (xBool (xOp gtD (xIxO 0 (xC (.int 0))) (xC (.int 0))))
  (sSeq (sAsg (xOp modD (xCall intD (xaD (xIxO 0 (xC (.int 0))) xaNil)) (xVar 1)) (gNm 2))
  (sSeq (sSet 0 (xC (.int 0)) (xOp fdivD (xIxO 0 (xC (.int 0))) (xVar 1)))
  (sRet (xVar 2))))
  sNext)
  (sSeq (sAsg (xC (.int 0)) (gNm 2))
  (sSeq (sFor (iRg (xaD (xOp addD (xC (.int 1)) (xOp fdivD (xUn bitsD (xVar 1)) (xC (.int 30)))) xaNil)) (gNm 3)
  (sSeq (sSet 0 (xC (.int 2)) (xOp addD (xIxO 0 (xC (.int 2))) (xC (.int 1))))
  (sAsg (xOp addD (xOp mulD (xVar 2) (xC (.int 2147483587))) (xFn m_law_hash (xaD (xIxO 0 (xC (.int 1))) (xaD (xIxO 0 (xC (.int 2))) xaNil)))) (gNm 2))))
  (sRet (xOp modD (xCall intD (xaD (xVar 2) xaNil)) (xVar 1))))))
def m_law_random : XM := mOf 2 4 b_law_random
/-! def law_rules -/
def b_law_rules : SE :=
  (sRet (xCall tupD (xaD (xOp addD (xC (.int 3)) (xFn m_law_random (xaO 0 (xaD (xC (.int 4)) xaNil)))) (xaD (xOp addD (xC (.int 1)) (xFn m_law_random (xaO 0 (xaD (xC (.int 3)) xaNil)))) (xaD (xOp ixD (xCall lstD (xaD (xC (.str "other")) (xaD (xC (.str "same")) (xaD (xC (.str "any")) xaNil)))) (xFn m_law_random (xaO 0 (xaD (xC (.int 3)) xaNil)))) xaNil)))))
def m_law_rules : XM := mOf 1 1 b_law_rules
/-! def law_lies -/
def b_law_lies : SE :=
  (sSeq (sIf (xBool (xOp neD (xOp addD (xOp ixD (xVar 1) (xC (.int 0))) (xC (.int 1))) (xOp ixD (xVar 2) (xC (.int 0)))))
  (sRet (xC (.bool false)))
  sNext)
  (sSeq (sIf (xBool (xOp eqD (xOp ixD (xVar 0) (xC (.int 2))) (xC (.str "same"))))
  (sRet (xOp eqD (xOp ixD (xVar 1) (xC (.int 1))) (xOp ixD (xVar 2) (xC (.int 1)))))
  sNext)
  (sRet (xOrV (xOp eqD (xOp ixD (xVar 0) (xC (.int 2))) (xC (.str "any"))) (xOp eqD (xOp modD (xCall intD (xaD (xOp addD (xOp ixD (xVar 1) (xC (.int 1))) (xOp ixD (xVar 2) (xC (.int 1)))) xaNil)) (xC (.int 2))) (xC (.int 1)))))))
def m_law_lies : XM := mOf 3 3 b_law_lies
/-! def law_position -/
def b_law_position : SE :=
  (sSeq (sAsg (xF (lcD (iRg (xaD (xOp ixD (xVar 1) (xC (.int 1))) xaNil)) (gNm 8) xYes (xIf (xBool (xOp eqD (xFn m_law_random (xaO 0 (xaD (xC (.int 4)) xaNil))) (xC (.int 0)))) (xFn m_law_random (xaO 0 (xaD (xC (.int 3)) xaNil))) (xC (.int 0))) [8])) (gNm 2))
  (sSeq (sOwn 3 (fRep (fLst (xaD (xC .none) xaNil)) (xFn m_law_random (xaO 0 (xaD (xC (.int 4)) xaNil)))))
  (sSeq (sTupV [6, 7] (xaS (lcS (iRg (xaD (xOp addD (xC (.int 2)) (xFn m_law_random (xaO 0 (xaD (xC (.int 4)) xaNil)))) xaNil)) (gNm 11) (xsOwn (fLst xaNil)) [11]) (xaS (xsOwn (fLst xaNil)) xaNil)))
  (sSeq (sFor (iRgN (xaD (xOp ixD (xVar 1) (xC (.int 0))) (xaD (xC (.int 0)) (xaD (xUn negD (xC (.int 1))) xaNil)))) (gNm 4)
  (sFor (iRg (xaD (xOp ixD (xVar 1) (xC (.int 1))) xaNil)) (gNm 8)
  (sIf (xBool (xOp gtD (xVar 4) (xOp ixD (xVar 2) (xVar 8))))
  (sIns 7 (xIf (xBool (xOp gtD (xFn m_law_random (xaO 0 (xaD (xC (.int 4)) xaNil))) (xC (.int 0)))) (xLenO 7) (xFn m_law_random (xaO 0 (xaD (xOp addD (xLenO 7) (xC (.int 1))) xaNil)))) (xCall tupD (xaD (xVar 4) (xaD (xVar 8) xaNil))))
  sNext)))
  (sSeq (sForL (xrVar 7) (gLNm 5)
  (sSeq (sAsg (xF (fViewN (lcD (iEn (xaD (xVar 6) xaNil)) (gTp 2 (gsCons (gNm 12) (gsCons (gNm 13) gsNil))) (xAndT (xBool (xOp neD (xVar 13) (xCall lstD xaNil))) (xTruth (xFn m_law_lies (xaD (xVar 1) (xaD (xVar 5) (xaD (xOp ixD (xVar 13) (xUn negD (xC (.int 1)))) xaNil)))))) (xVar 12) [12, 13]))) (gNm 9))
  (sSeq (sAsg (xF (fViewN (lcD (iEn (xaD (xVar 3) xaNil)) (gTp 2 (gsCons (gNm 12) (gsCons (gNm 14) gsNil))) (xBool (xOp (isD false) (xVar 14) (xC .none))) (xVar 12) [12, 14]))) (gNm 10))
  (sIf (xAndT (xBool (xOp neD (xVar 10) (xCall lstD xaNil))) (xBool (xOp eqD (xFn m_law_random (xaO 0 (xaD (xC (.int 9)) xaNil))) (xC (.int 0)))))
  (sSet 3 (xOp ixD (xVar 10) (xFn m_law_random (xaO 0 (xaD (xCall lenD (xaD (xVar 10) xaNil)) xaNil)))) (xVar 5))
  (sIf (xAndT (xBool (xOp neD (xVar 9) (xCall lstD xaNil))) (xBool (xOp gtD (xFn m_law_random (xaO 0 (xaD (xC (.int 8)) xaNil))) (xC (.int 0)))))
  (sAppV (xrIx (xrVar 6) (xOp ixD (xVar 9) (xFn m_law_random (xaO 0 (xaD (xCall lenD (xaD (xVar 9) xaNil)) xaNil))))) (xrD (xVar 5)))
  (sAppV (xrIx (xrVar 6) (xFn m_law_random (xaO 0 (xaD (xOp subD (xLenV (xrVar 6)) (xFn m_law_random (xaO 0 (xaD (xC (.int 2)) xaNil)))) xaNil)))) (xrD (xVar 5))))))))
  (sRetS (xsTup (xaS (xrVar 6) (xaS (xrVar 3) (xaS (xrD (xVar 2)) xaNil))))))))))
def m_law_position : XMS := mOfS 2 15 b_law_position
/-! def law_run -/
def b_law_run : SE :=
  (sSeq (sAsg (xCall intD (xaD (xOp neD (xVar 1) (xCall lstD xaNil)) xaNil)) (gNm 2))
  (sSeq (sWhile 1000000 (xAndT (xBool (xChain ltD ltD (xC (.int 0)) (xVar 2) (xCall lenD (xaD (xVar 1) xaNil)))) (xTruth (xFn m_law_lies (xaD (xVar 0) (xaD (xOp ixD (xVar 1) (xUn negD (xVar 2))) (xaD (xOp ixD (xVar 1) (xOp subD (xUn negD (xVar 2)) (xC (.int 1)))) xaNil))))))
  (sAsg (xOp addD (xVar 2) (xC (.int 1))) (gNm 2)))
  (sRet (xVar 2))))
def m_law_run : XM := mOf 2 3 b_law_run
/-! def law_supermoves -/
def b_law_supermoves : SE :=
  (sSeq (sAsg (xCall lstD xaNil) (gNm 2))
  (sSeq (sFor (iEn (xaD (xOp ixD (xVar 1) (xC (.int 0))) xaNil)) (gTp 2 (gsCons (gNm 3) (gsCons (gNm 4) gsNil)))
  (sFor (iRg (xaD (xCall lenD (xaD (xOp ixD (xVar 1) (xC (.int 0))) xaNil)) xaNil)) (gNm 5)
  (sIf (xBool (xOp neD (xVar 5) (xVar 3)))
  (sAsg (xOp addD (xVar 2) (xF (lcD (iRg (xaD (xC (.int 1)) (xaD (xOp addD (xFn m_law_run (xaD (xVar 0) (xaD (xVar 4) xaNil))) (xC (.int 1))) xaNil))) (gNm 6) xYes (xCall tupD (xaD (xVar 3) (xaD (xVar 5) (xaD (xVar 6) xaNil)))) [6]))) (gNm 2))
  sNext)))
  (sRet (xVar 2))))
def m_law_supermoves : XM := mOf 2 7 b_law_supermoves
/-! def law_sensible -/
def b_law_sensible : SE :=
  (sSeq (sAsg (xVar 2) (gTp 3 (gsCons (gNm 3) (gsCons (gNm 4) (gsCons (gNm 5) gsNil)))))
  (sSeq (sPar 6 7 (xOp ixD (xOp ixD (xVar 1) (xC (.int 0))) (xVar 3)) (xOp ixD (xOp ixD (xVar 1) (xC (.int 0))) (xVar 4)))
  (sRet (xIf (xBool (xOp eqD (xVar 7) (xCall lstD xaNil))) (xOp ltD (xVar 5) (xCall lenD (xaD (xVar 6) xaNil))) (xFn m_law_lies (xaD (xVar 0) (xaD (xOp ixD (xVar 6) (xUn negD (xVar 5))) (xaD (xOp ixD (xVar 7) (xUn negD (xC (.int 1)))) xaNil))))))))
def m_law_sensible : XM := mOf 3 8 b_law_sensible
/-! def law_room_of -/
def b_law_room_of : SE :=
  (sSeq (sAsg (xVar 2) (gTp 3 (gsCons (gNm 5) (gsCons (gNm 6) (gsCons (gNm 7) gsNil)))))
  (sSeq (sTupV [8, 9] (xaS (xrD (xOp ixD (xOp ixD (xVar 1) (xC (.int 0))) (xVar 5))) (xaS (xsOwn (fLst xaNil)) xaNil)))
  (sSeq (sFor (iRg (xaD (xC (.int 1)) (xaD (xVar 7) xaNil))) (gNm 3)
  (sFor (iEn (xaD (xOp ixD (xVar 1) (xC (.int 0))) xaNil)) (gTp 2 (gsCons (gNm 10) (gsCons (gNm 11) gsNil)))
  (sIf (xAndT (xBool (xOp neD (xVar 10) (xVar 5))) (xAndT (xBool (xOp neD (xVar 10) (xVar 6))) (xAndT (xBool (xOp neD (xVar 11) (xCall lstD xaNil))) (xAndT (xTruth (xFn m_law_lies (xaD (xVar 0) (xaD (xOp ixD (xVar 8) (xUn negD (xVar 3))) (xaD (xOp ixD (xVar 11) (xUn negD (xC (.int 1)))) xaNil))))) (tView (xBool (xOp (inD true) (xVar 3) (xVar 9))))))))
  (sApp 9 (xVar 3))
  sNext)))
  (sSeq (sAsg (xIf (xBool (xOp eqD (xOp ixD (xOp ixD (xVar 1) (xC (.int 0))) (xVar 6)) (xCall lstD xaNil))) (xC (.str "into")) (xIf (xBool (xOp eqD (xCall lenD (xaD (xVar 8) xaNil)) (xVar 7))) (xC (.str "whole")) (xC (.str "over")))) (gNm 4))
  (sFrz 9 (sRet (xCall tupD (xaD (xVar 4) (xaD (xCall tupD (xaD (xOp gcntD (xOp ixD (xVar 1) (xC (.int 1))) (xC .none)) (xaD (xOp gcntD (xOp ixD (xVar 1) (xC (.int 0))) (xCall lstD xaNil)) (xaD (xVar 9) xaNil)))) xaNil)))))))))
def m_law_room_of : XM := mOf 3 12 b_law_room_of
/-! def law_right -/
def b_law_right : SE :=
  (sSeq (sAsg (xFn m_law_rules (xaO 0 xaNil)) (gNm 1))
  (sSeq (sAsg (xFn (asMN m_law_position) (xaO 0 (xaD (xVar 1) xaNil))) (gNm 2))
  (sSeq (sPar 4 5 (xCall reprD (xaD (xCall lstD (xaD (xVar 1) (xaD (xVar 2) xaNil))) xaNil)) (xC (.int 0)))
  (sSeq (sFor (iLst (xFn m_law_supermoves (xaD (xVar 1) (xaD (xVar 2) xaNil)))) (gNm 3)
  (sSeq (sAsg (xFn m_law_sensible (xaD (xVar 1) (xaD (xVar 2) (xaD (xVar 3) xaNil)))) (gNm 6))
  (sSeq (sIf (xOrT (xBool (xOp neD (xCall reprD (xaD (xFn m_is_sensible (xaD (xVar 1) (xaD (xVar 2) (xaD (xVar 3) xaNil)))) xaNil)) (xCall reprD (xaD (xVar 6) xaNil)))) (xBool (xOp neD (xFn (fun ss => m_is_sensible (pmI [2, 1, 0] ss)) (xaD (xVar 3) (xaD (xVar 2) (xaD (xVar 1) xaNil)))) (xVar 6))))
  (sRet (xC (.bool false)))
  sNext)
  (sIf (xTruth (xVar 6))
  (sSeq (sTupV [7, 8] (xaS (xrD (xFn m_law_room_of (xaD (xVar 1) (xaD (xVar 2) (xaD (xVar 3) xaNil))))) (xaS (xsFn m_room_of (xaS (xrD (xVar 1)) (xaS (xrD (xVar 2)) (xaS (xrD (xVar 3)) xaNil)))) xaNil)))
  (sSeq (sIf (xOrT (xBool (xOp neD (xViewN (xCall reprD (xaD (xVar 8) xaNil))) (xCall reprD (xaD (xVar 7) xaNil)))) (xBool (xOp neD (xCall reprD (xaD (xFn (fun ss => (asMN m_room_of) (pmI [2, 1, 0] ss)) (xaD (xVar 3) (xaD (xVar 2) (xaD (xVar 1) xaNil)))) xaNil)) (xCall reprD (xaD (xVar 7) xaNil)))))
  (sRet (xC (.bool false)))
  sNext)
  (sSeq (sAppV (xrIx (xrIx (xrVar 8) (xC (.int 1))) (xC (.int 2))) (xrD (xC .none)))
  (sIf (xBool (xOp neD (xCall reprD (xaD (xFn (asMN m_room_of) (xaD (xVar 1) (xaD (xVar 2) (xaD (xVar 3) xaNil)))) xaNil)) (xCall reprD (xaD (xVar 7) xaNil))))
  (sRet (xC (.bool false)))
  sNext))))
  sNext))))
  (sRet (xOp eqD (xCall reprD (xaD (xCall lstD (xaD (xVar 1) (xaD (xVar 2) xaNil))) xaNil)) (xVar 4)))))))
def m_law_right : XM := mOf 1 9 b_law_right
/-! def law -/
def b_law : SE :=
  (sSeq (sFor (iRg (xaD (xC (.int 6)) xaNil)) (gNm 1)
  (sIf (xNotT (xTruth (xFnN m_law_right (fFn m_law_generator (xaD (xVar 0) (xaD (xVar 1) xaNil))) xaNil)))
  (sRet (xC (.bool false)))
  sNext))
  (sSeq (sAsg (xF (lcD (iRgN (xaD (xC (.int 12)) (xaD (xC (.int 0)) (xaD (xUn negD (xC (.int 1))) xaNil)))) (gNm 12) xYes (xCall tupD (xaD (xVar 12) (xaD (xCall intD (xaD (xOp eqD (xOp modD (xVar 12) (xC (.int 2))) (xC (.int 0))) xaNil)) xaNil))) [12])) (gNm 2))
  (sSeq (sAsg (xCall lstD (xaD (xOp addD (xCall lstD (xaD (xCall tupD (xaD (xC (.int 13)) (xaD (xC (.int 1)) xaNil))) xaNil)) (xVar 2)) (xaD (xCall lstD (xaD (xCall tupD (xaD (xC (.int 13)) (xaD (xC (.int 0)) xaNil))) xaNil)) (xaD (xF (lcD (iRgN (xaD (xC (.int 12)) (xaD (xC (.int 6)) (xaD (xUn negD (xC (.int 1))) xaNil)))) (gNm 12) xYes (xCall tupD (xaD (xVar 12) (xaD (xCall intD (xaD (xOp eqD (xOp modD (xVar 12) (xC (.int 2))) (xC (.int 1))) xaNil)) xaNil))) [12])) xaNil)))) (gNm 3))
  (sSeq (sAsg (xOp addD (xVar 3) (xCall lstD (xaD (xCall lstD (xaD (xCall tupD (xaD (xC (.int 8)) (xaD (xC (.int 2)) xaNil))) (xaD (xCall tupD (xaD (xC (.int 9)) (xaD (xC (.int 2)) xaNil))) (xaD (xCall tupD (xaD (xC (.int 10)) (xaD (xC (.int 2)) xaNil))) (xaD (xCall tupD (xaD (xC (.int 11)) (xaD (xC (.int 2)) xaNil))) (xaD (xCall tupD (xaD (xC (.int 12)) (xaD (xC (.int 2)) xaNil))) (xaD (xCall tupD (xaD (xC (.int 13)) (xaD (xC (.int 2)) xaNil))) (xaD (xCall tupD (xaD (xC (.int 7)) (xaD (xC (.int 2)) xaNil))) xaNil)))))))) (xaD (xCall lstD (xaD (xCall tupD (xaD (xC (.int 11)) (xaD (xC (.int 3)) xaNil))) (xaD (xCall tupD (xaD (xC (.int 12)) (xaD (xC (.int 3)) xaNil))) (xaD (xCall tupD (xaD (xC (.int 13)) (xaD (xC (.int 3)) xaNil))) (xaD (xCall tupD (xaD (xC (.int 10)) (xaD (xC (.int 3)) xaNil))) xaNil))))) xaNil)))) (gNm 3))
  (sSeq (sAsg (xOp addD (xVar 3) (xCall lstD (xaD (xCall lstD xaNil) (xaD (xCall lstD xaNil) (xaD (xF (lcD (iRgN (xaD (xC (.int 6)) (xaD (xC (.int 1)) (xaD (xUn negD (xC (.int 1))) xaNil)))) (gNm 12) xYes (xCall tupD (xaD (xVar 12) (xaD (xCall intD (xaD (xOp eqD (xOp modD (xVar 12) (xC (.int 2))) (xC (.int 1))) xaNil)) xaNil))) [12])) xaNil))))) (gNm 3))
  (sSeq (sAsg (xCall tupD (xaD (xVar 3) (xaD (xCall lstD (xaD (xC .none) (xaD (xCall tupD (xaD (xC (.int 1)) (xaD (xC (.int 1)) xaNil))) (xaD (xC .none) (xaD (xC .none) xaNil))))) (xaD (xCall lstD (xaD (xC (.int 0)) (xaD (xC (.int 0)) (xaD (xC (.int 6)) (xaD (xC (.int 9)) xaNil))))) xaNil)))) (gNm 4))
  (sSeq (sIf (xBool (xOp neD (xF (lcD (iLst (xCall lstD (xaD (xC (.int 1)) (xaD (xC (.int 5)) xaNil)))) (gNm 14) xYes (xFn (asMN m_room_of) (xaD (xCall tupD (xaD (xC (.int 13)) (xaD (xC (.int 4)) (xaD (xC (.str "other")) xaNil)))) (xaD (xVar 4) (xaD (xCall tupD (xaD (xC (.int 0)) (xaD (xVar 14) (xaD (xC (.int 12)) xaNil)))) xaNil)))) [14])) (xCall lstD (xaD (xCall tupD (xaD (xC (.str "over")) (xaD (xCall tupD (xaD (xC (.int 3)) (xaD (xC (.int 2)) (xaD (xCall lstD (xaD (xC (.int 6)) (xaD (xC (.int 9)) xaNil))) xaNil)))) xaNil))) (xaD (xCall tupD (xaD (xC (.str "into")) (xaD (xCall tupD (xaD (xC (.int 3)) (xaD (xC (.int 2)) (xaD (xCall lstD (xaD (xC (.int 6)) (xaD (xC (.int 9)) xaNil))) xaNil)))) xaNil))) xaNil)))))
  (sRet (xC (.bool false)))
  sNext)
  (sSeq (sPar 10 11 (xCall tupD (xaD (xC (.int 9)) (xaD (xC (.int 1)) (xaD (xC (.str "same")) xaNil)))) (xCall tupD (xaD (xCall lstD (xaD (xCall lstD (xaD (xCall tupD (xaD (xC (.int 9)) (xaD (xC (.int 0)) xaNil))) xaNil)) (xaD (xF (lcD (iRgN (xaD (xC (.int 8)) (xaD (xC (.int 0)) (xaD (xUn negD (xC (.int 1))) xaNil)))) (gNm 12) xYes (xCall tupD (xaD (xVar 12) (xaD (xC (.int 0)) xaNil))) [12])) xaNil))) (xaD (xF (fRep (fLst (xaD (xC .none) xaNil)) (xC (.int 7)))) (xaD (xCall lstD (xaD (xC (.int 0)) xaNil)) xaNil)))))
  (sSeq (sAsg (xCall tupD (xaD (xCall lstD (xaD (xCall lstD (xaD (xCall tupD (xaD (xC (.int 9)) (xaD (xC (.int 0)) xaNil))) xaNil)) (xaD (xF (lcD (iRgN (xaD (xC (.int 8)) (xaD (xC (.int 0)) (xaD (xUn negD (xC (.int 1))) xaNil)))) (gNm 12) xYes (xCall tupD (xaD (xVar 12) (xaD (xC (.int 0)) xaNil))) [12])) (xaD (xCall lstD xaNil) (xaD (xCall lstD xaNil) (xaD (xCall lstD xaNil) (xaD (xCall lstD xaNil) (xaD (xCall lstD xaNil) (xaD (xCall lstD xaNil) (xaD (xCall lstD xaNil) xaNil)))))))))) (xaD (xCall lstD xaNil) (xaD (xCall lstD (xaD (xC (.int 0)) xaNil)) xaNil)))) (gNm 5))
  (sSeq (sIf (xBool (xOp neD (xCall reprD (xaD (xCall lstD (xaD (xFn (asMN m_room_of) (xaD (xVar 10) (xaD (xVar 11) (xaD (xCall tupD (xaD (xC (.int 1)) (xaD (xC (.int 0)) (xaD (xC (.int 8)) xaNil)))) xaNil)))) (xaD (xFn (asMN m_room_of) (xaD (xVar 10) (xaD (xVar 5) (xaD (xCall tupD (xaD (xC (.int 1)) (xaD (xC (.int 0)) (xaD (xC (.int 8)) xaNil)))) xaNil)))) (xaD (xFn (asMN m_room_of) (xaD (xVar 10) (xaD (xVar 5) (xaD (xCall tupD (xaD (xC (.int 1)) (xaD (xC (.int 5)) (xaD (xC (.int 3)) xaNil)))) xaNil)))) xaNil)))) xaNil)) (xCall reprD (xaD (xCall lstD (xaD (xCall tupD (xaD (xC (.str "whole")) (xaD (xCall tupD (xaD (xC (.int 7)) (xaD (xC (.int 0)) (xaD (xCall lstD xaNil) xaNil)))) xaNil))) (xaD (xCall tupD (xaD (xC (.str "whole")) (xaD (xCall tupD (xaD (xC (.int 0)) (xaD (xC (.int 7)) (xaD (xCall lstD xaNil) xaNil)))) xaNil))) (xaD (xCall tupD (xaD (xC (.str "into")) (xaD (xCall tupD (xaD (xC (.int 0)) (xaD (xC (.int 7)) (xaD (xCall lstD xaNil) xaNil)))) xaNil))) xaNil)))) xaNil))))
  (sRet (xC (.bool false)))
  sNext)
  (sSeq (sAsg (xCall tupD (xaD (xC (.int 4)) (xaD (xC (.int 2)) (xaD (xC (.str "other")) xaNil)))) (gNm 6))
  (sSeq (sAsg (xCall tupD (xaD (xCall lstD (xaD (xCall lstD (xaD (xCall tupD (xaD (xC (.int 4)) (xaD (xC (.int 0)) xaNil))) (xaD (xCall tupD (xaD (xC (.int 3)) (xaD (xC (.int 1)) xaNil))) (xaD (xCall tupD (xaD (xC (.int 2)) (xaD (xC (.int 0)) xaNil))) (xaD (xCall tupD (xaD (xC (.int 1)) (xaD (xC (.int 1)) xaNil))) xaNil))))) (xaD (xCall lstD (xaD (xCall tupD (xaD (xC (.int 4)) (xaD (xC (.int 1)) xaNil))) (xaD (xCall tupD (xaD (xC (.int 3)) (xaD (xC (.int 0)) xaNil))) xaNil))) (xaD (xCall lstD xaNil) (xaD (xCall lstD (xaD (xCall tupD (xaD (xC (.int 2)) (xaD (xC (.int 1)) xaNil))) xaNil)) xaNil))))) (xaD (xCall lstD (xaD (xC .none) (xaD (xCall tupD (xaD (xC (.int 1)) (xaD (xC (.int 0)) xaNil))) xaNil))) (xaD (xCall lstD (xaD (xC (.int 0)) (xaD (xC (.int 0)) xaNil))) xaNil)))) (gNm 7))
  (sSeq (sAsg (xF (lcD (iLst (xCall lstD (xaD (xCall tupD (xaD (xC (.int 0)) (xaD (xC (.int 2)) (xaD (xC (.int 3)) xaNil)))) (xaD (xCall tupD (xaD (xC (.int 0)) (xaD (xC (.int 1)) (xaD (xC (.int 1)) xaNil)))) (xaD (xCall tupD (xaD (xC (.int 0)) (xaD (xC (.int 2)) (xaD (xC (.int 2)) xaNil)))) (xaD (xCall tupD (xaD (xC (.int 3)) (xaD (xC (.int 1)) (xaD (xC (.int 1)) xaNil)))) xaNil)))))) (gNm 13) (xTruth (xFn m_is_sensible (xaD (xVar 6) (xaD (xVar 7) (xaD (xVar 13) xaNil))))) (xFn (asMN m_room_of) (xaD (xVar 6) (xaD (xVar 7) (xaD (xVar 13) xaNil)))) [13])) (gNm 8))
  (sSeq (sIf (xBool (xOp neD (xVar 8) (xCall lstD (xaD (xCall tupD (xaD (xC (.str "into")) (xaD (xCall tupD (xaD (xC (.int 1)) (xaD (xC (.int 1)) (xaD (xCall lstD xaNil) xaNil)))) xaNil))) (xaD (xCall tupD (xaD (xC (.str "into")) (xaD (xCall tupD (xaD (xC (.int 1)) (xaD (xC (.int 1)) (xaD (xCall lstD xaNil) xaNil)))) xaNil))) (xaD (xCall tupD (xaD (xC (.str "whole")) (xaD (xCall tupD (xaD (xC (.int 1)) (xaD (xC (.int 1)) (xaD (xCall lstD xaNil) xaNil)))) xaNil))) xaNil))))))
  (sRet (xC (.bool false)))
  sNext)
  (sSeq (sAsg (xCall tupD (xaD (xCall lstD (xaD (xCall lstD (xaD (xCall tupD (xaD (xC (.int 4)) (xaD (xC (.int 0)) xaNil))) (xaD (xCall tupD (xaD (xC (.int 3)) (xaD (xC (.int 0)) xaNil))) (xaD (xCall tupD (xaD (xC (.int 2)) (xaD (xC (.int 0)) xaNil))) (xaD (xCall tupD (xaD (xC (.int 1)) (xaD (xC (.int 0)) xaNil))) xaNil))))) (xaD (xCall lstD (xaD (xCall tupD (xaD (xC (.int 3)) (xaD (xC (.int 1)) xaNil))) xaNil)) (xaD (xCall lstD (xaD (xCall tupD (xaD (xC (.int 2)) (xaD (xC (.int 1)) xaNil))) xaNil)) (xaD (xCall lstD (xaD (xCall tupD (xaD (xC (.int 4)) (xaD (xC (.int 1)) xaNil))) (xaD (xCall tupD (xaD (xC (.int 1)) (xaD (xC (.int 1)) xaNil))) xaNil))) xaNil))))) (xaD (xCall lstD xaNil) (xaD (xCall lstD (xaD (xC (.int 0)) (xaD (xC (.int 0)) xaNil))) xaNil)))) (gNm 9))
  (sSeq (sIf (xOrT (xBool (xOp neD (xFn (asMN m_room_of) (xaD (xCall tupD (xaD (xC (.int 4)) (xaD (xC (.int 2)) (xaD (xC (.str "any")) xaNil)))) (xaD (xVar 9) (xaD (xCall tupD (xaD (xC (.int 0)) (xaD (xC (.int 1)) (xaD (xC (.int 2)) xaNil)))) xaNil)))) (xCall tupD (xaD (xC (.str "over")) (xaD (xCall tupD (xaD (xC (.int 0)) (xaD (xC (.int 0)) (xaD (xCall lstD (xaD (xC (.int 1)) xaNil)) xaNil)))) xaNil))))) (xBool (xOp (isD true) (xFn m_is_sensible (xaD (xCall tupD (xaD (xC (.int 4)) (xaD (xC (.int 2)) (xaD (xC (.str "any")) xaNil)))) (xaD (xVar 9) (xaD (xCall tupD (xaD (xC (.int 3)) (xaD (xC (.int 2)) (xaD (xC (.int 1)) xaNil)))) xaNil)))) (xC (.bool true)))))
  (sRet (xC (.bool false)))
  sNext)
  (sRet (xAndV (xOp eqD (xFn (asMN m_room_of) (xaD (xCall tupD (xaD (xC (.int 4)) (xaD (xC (.int 2)) (xaD (xC (.str "any")) xaNil)))) (xaD (xVar 9) (xaD (xCall tupD (xaD (xC (.int 3)) (xaD (xC (.int 2)) (xaD (xC (.int 1)) xaNil)))) xaNil)))) (xCall tupD (xaD (xC (.str "over")) (xaD (xCall tupD (xaD (xC (.int 0)) (xaD (xC (.int 0)) (xaD (xCall lstD xaNil) xaNil)))) xaNil)))) (xOp (isD false) (xFn m_is_sensible (xaD (xCall tupD (xaD (xC (.int 4)) (xaD (xC (.int 2)) (xaD (xC (.str "same")) xaNil)))) (xaD (xVar 9) (xaD (xCall tupD (xaD (xC (.int 0)) (xaD (xC (.int 1)) (xaD (xC (.int 2)) xaNil)))) xaNil)))) (xC (.bool false)))))))))))))))))))))
def m_law : XM := mOf 1 15 b_law
/-! what stands at the top -/
structure Tx (K : PySem.W.Frag) (w : World) (mg : Str → Option Value) where
  f_is_whole : Addr
  d_is_whole : FuncData
  F_is_whole : Fun K "is_whole" "is_whole" s_is_whole f_is_whole d_is_whole
  b_is_whole : Binds K d_is_whole ["value"] []
  m_is_whole : mg "is_whole" = some (.ref f_is_whole)
  f_is_within : Addr
  d_is_within : FuncData
  F_is_within : Fun K "is_within" "is_within" s_is_within f_is_within d_is_within
  b_is_within : Binds K d_is_within ["value", "low", "high"] []
  m_is_within : mg "is_within" = some (.ref f_is_within)
  f_is_tuple_of : Addr
  d_is_tuple_of : FuncData
  F_is_tuple_of : Fun K "is_tuple_of" "is_tuple_of" s_is_tuple_of f_is_tuple_of d_is_tuple_of
  b_is_tuple_of : Binds K d_is_tuple_of ["value", "many"] []
  m_is_tuple_of : mg "is_tuple_of" = some (.ref f_is_tuple_of)
  f_is_rules : Addr
  d_is_rules : FuncData
  F_is_rules : Fun K "is_rules" "is_rules" s_is_rules f_is_rules d_is_rules
  b_is_rules : Binds K d_is_rules ["value"] []
  m_is_rules : mg "is_rules" = some (.ref f_is_rules)
  f_check_rules : Addr
  d_check_rules : FuncData
  F_check_rules : Fun K "check_rules" "check_rules" s_check_rules f_check_rules d_check_rules
  b_check_rules : Binds K d_check_rules ["rules"] []
  m_check_rules : mg "check_rules" = some (.ref f_check_rules)
  f_fits_deck : Addr
  d_fits_deck : FuncData
  F_fits_deck : Fun K "fits_deck" "fits_deck" s_fits_deck f_fits_deck d_fits_deck
  b_fits_deck : Binds K d_fits_deck ["rules", "value"] []
  m_fits_deck : mg "fits_deck" = some (.ref f_fits_deck)
  f_cards_of : Addr
  d_cards_of : FuncData
  F_cards_of : Fun K "cards_of" "cards_of" s_cards_of f_cards_of d_cards_of
  b_cards_of : Binds K d_cards_of ["rules"] []
  m_cards_of : mg "cards_of" = some (.ref f_cards_of)
  f_goes_on : Addr
  d_goes_on : FuncData
  F_goes_on : Fun K "goes_on" "goes_on" s_goes_on f_goes_on d_goes_on
  b_goes_on : Binds K d_goes_on ["rules", "card", "other"] []
  m_goes_on : mg "goes_on" = some (.ref f_goes_on)
  f_are_cards : Addr
  d_are_cards : FuncData
  F_are_cards : Fun K "are_cards" "are_cards" s_are_cards f_are_cards d_are_cards
  b_are_cards : Binds K d_are_cards ["rules", "value"] []
  m_are_cards : mg "are_cards" = some (.ref f_are_cards)
  f_are_columns : Addr
  d_are_columns : FuncData
  F_are_columns : Fun K "are_columns" "are_columns" s_are_columns f_are_columns d_are_columns
  b_are_columns : Binds K d_are_columns ["rules", "value"] []
  m_are_columns : mg "are_columns" = some (.ref f_are_columns)
  f_are_cells : Addr
  d_are_cells : FuncData
  F_are_cells : Fun K "are_cells" "are_cells" s_are_cells f_are_cells d_are_cells
  b_are_cells : Binds K d_are_cells ["rules", "value"] []
  m_are_cells : mg "are_cells" = some (.ref f_are_cells)
  f_are_homes : Addr
  d_are_homes : FuncData
  F_are_homes : Fun K "are_homes" "are_homes" s_are_homes f_are_homes d_are_homes
  b_are_homes : Binds K d_are_homes ["rules", "value"] []
  m_are_homes : mg "are_homes" = some (.ref f_are_homes)
  f_cards_about : Addr
  d_cards_about : FuncData
  F_cards_about : Fun K "cards_about" "cards_about" s_cards_about f_cards_about d_cards_about
  b_cards_about : Binds K d_cards_about ["position"] []
  m_cards_about : mg "cards_about" = some (.ref f_cards_about)
  f_fits_rules : Addr
  d_fits_rules : FuncData
  F_fits_rules : Fun K "fits_rules" "fits_rules" s_fits_rules f_fits_rules d_fits_rules
  b_fits_rules : Binds K d_fits_rules ["rules", "value"] []
  m_fits_rules : mg "fits_rules" = some (.ref f_fits_rules)
  f_check_position : Addr
  d_check_position : FuncData
  F_check_position : Fun K "check_position" "check_position" s_check_position f_check_position d_check_position
  b_check_position : Binds K d_check_position ["rules", "position"] []
  m_check_position : mg "check_position" = some (.ref f_check_position)
  f_run_of : Addr
  d_run_of : FuncData
  F_run_of : Fun K "run_of" "run_of" s_run_of f_run_of d_run_of
  b_run_of : Binds K d_run_of ["rules", "column"] []
  m_run_of : mg "run_of" = some (.ref f_run_of)
  f_fits_supermove : Addr
  d_fits_supermove : FuncData
  F_fits_supermove : Fun K "fits_supermove" "fits_supermove" s_fits_supermove f_fits_supermove d_fits_supermove
  b_fits_supermove : Binds K d_fits_supermove ["rules", "position", "value"] []
  m_fits_supermove : mg "fits_supermove" = some (.ref f_fits_supermove)
  f_lowest_of : Addr
  d_lowest_of : FuncData
  F_lowest_of : Fun K "lowest_of" "lowest_of" s_lowest_of f_lowest_of d_lowest_of
  b_lowest_of : Binds K d_lowest_of ["position", "supermove"] []
  m_lowest_of : mg "lowest_of" = some (.ref f_lowest_of)
  f_makes_sense : Addr
  d_makes_sense : FuncData
  F_makes_sense : Fun K "makes_sense" "makes_sense" s_makes_sense f_makes_sense d_makes_sense
  b_makes_sense : Binds K d_makes_sense ["rules", "position", "supermove"] []
  m_makes_sense : mg "makes_sense" = some (.ref f_makes_sense)
  f_check_supermove : Addr
  d_check_supermove : FuncData
  F_check_supermove : Fun K "check_supermove" "check_supermove" s_check_supermove f_check_supermove d_check_supermove
  b_check_supermove : Binds K d_check_supermove ["rules", "position", "supermove"] []
  m_check_supermove : mg "check_supermove" = some (.ref f_check_supermove)
  f_is_sensible : Addr
  d_is_sensible : FuncData
  F_is_sensible : Fun K "is_sensible" "is_sensible" s_is_sensible f_is_sensible d_is_sensible
  b_is_sensible : Binds K d_is_sensible ["rules", "position", "supermove"] []
  m_is_sensible : mg "is_sensible" = some (.ref f_is_sensible)
  f_check_sensible : Addr
  d_check_sensible : FuncData
  F_check_sensible : Fun K "check_sensible" "check_sensible" s_check_sensible f_check_sensible d_check_sensible
  b_check_sensible : Binds K d_check_sensible ["rules", "position", "supermove"] []
  m_check_sensible : mg "check_sensible" = some (.ref f_check_sensible)
  f_numbers_free : Addr
  d_numbers_free : FuncData
  F_numbers_free : Fun K "numbers_free" "numbers_free" s_numbers_free f_numbers_free d_numbers_free
  b_numbers_free : Binds K d_numbers_free ["position"] []
  m_numbers_free : mg "numbers_free" = some (.ref f_numbers_free)
  f_helping_columns : Addr
  d_helping_columns : FuncData
  F_helping_columns : Fun K "helping_columns" "helping_columns" s_helping_columns f_helping_columns d_helping_columns
  b_helping_columns : Binds K d_helping_columns ["rules", "position", "supermove", "card"] []
  m_helping_columns : mg "helping_columns" = some (.ref f_helping_columns)
  f_kind_beside : Addr
  d_kind_beside : FuncData
  F_kind_beside : Fun K "kind_beside" "kind_beside" s_kind_beside f_kind_beside d_kind_beside
  b_kind_beside : Binds K d_kind_beside ["position", "supermove"] []
  m_kind_beside : mg "kind_beside" = some (.ref f_kind_beside)
  f_room_beside : Addr
  d_room_beside : FuncData
  F_room_beside : Fun K "room_beside" "room_beside" s_room_beside f_room_beside d_room_beside
  b_room_beside : Binds K d_room_beside ["rules", "position", "supermove"] []
  m_room_beside : mg "room_beside" = some (.ref f_room_beside)
  f_room_of : Addr
  d_room_of : FuncData
  F_room_of : Fun K "room_of" "room_of" s_room_of f_room_of d_room_of
  b_room_of : Binds K d_room_of ["rules", "position", "supermove"] []
  m_room_of : mg "room_of" = some (.ref f_room_of)
  f_law_cell : Addr
  d_law_cell : FuncData
  F_law_cell : Fun K "_law_cell" "_law_cell" s_law_cell f_law_cell d_law_cell
  b_law_cell : Binds K d_law_cell ["script", "index"] []
  m_law_cell : mg "_law_cell" = some (.ref f_law_cell)
  f_law_hash : Addr
  d_law_hash : FuncData
  F_law_hash : Fun K "_law_hash" "_law_hash" s_law_hash f_law_hash d_law_hash
  b_law_hash : Binds K d_law_hash ["seed", "index"] []
  m_law_hash : mg "_law_hash" = some (.ref f_law_hash)
  f_law_generator : Addr
  d_law_generator : FuncData
  F_law_generator : Fun K "_law_generator" "_law_generator" s_law_generator f_law_generator d_law_generator
  b_law_generator : Binds K d_law_generator ["script", "index"] []
  m_law_generator : mg "_law_generator" = some (.ref f_law_generator)
  f_law_random : Addr
  d_law_random : FuncData
  F_law_random : Fun K "_law_random" "_law_random" s_law_random f_law_random d_law_random
  b_law_random : Binds K d_law_random ["generator", "limit"] []
  m_law_random : mg "_law_random" = some (.ref f_law_random)
  f_law_rules : Addr
  d_law_rules : FuncData
  F_law_rules : Fun K "_law_rules" "_law_rules" s_law_rules f_law_rules d_law_rules
  b_law_rules : Binds K d_law_rules ["generator"] []
  m_law_rules : mg "_law_rules" = some (.ref f_law_rules)
  f_law_lies : Addr
  d_law_lies : FuncData
  F_law_lies : Fun K "_law_lies" "_law_lies" s_law_lies f_law_lies d_law_lies
  b_law_lies : Binds K d_law_lies ["rules", "card", "other"] []
  m_law_lies : mg "_law_lies" = some (.ref f_law_lies)
  f_law_position : Addr
  d_law_position : FuncData
  F_law_position : Fun K "_law_position" "_law_position" s_law_position f_law_position d_law_position
  b_law_position : Binds K d_law_position ["generator", "rules"] []
  m_law_position : mg "_law_position" = some (.ref f_law_position)
  f_law_run : Addr
  d_law_run : FuncData
  F_law_run : Fun K "_law_run" "_law_run" s_law_run f_law_run d_law_run
  b_law_run : Binds K d_law_run ["rules", "column"] []
  m_law_run : mg "_law_run" = some (.ref f_law_run)
  f_law_supermoves : Addr
  d_law_supermoves : FuncData
  F_law_supermoves : Fun K "_law_supermoves" "_law_supermoves" s_law_supermoves f_law_supermoves d_law_supermoves
  b_law_supermoves : Binds K d_law_supermoves ["rules", "position"] []
  m_law_supermoves : mg "_law_supermoves" = some (.ref f_law_supermoves)
  f_law_sensible : Addr
  d_law_sensible : FuncData
  F_law_sensible : Fun K "_law_sensible" "_law_sensible" s_law_sensible f_law_sensible d_law_sensible
  b_law_sensible : Binds K d_law_sensible ["rules", "position", "supermove"] []
  m_law_sensible : mg "_law_sensible" = some (.ref f_law_sensible)
  f_law_room_of : Addr
  d_law_room_of : FuncData
  F_law_room_of : Fun K "_law_room_of" "_law_room_of" s_law_room_of f_law_room_of d_law_room_of
  b_law_room_of : Binds K d_law_room_of ["rules", "position", "supermove"] []
  m_law_room_of : mg "_law_room_of" = some (.ref f_law_room_of)
  f_law_right : Addr
  d_law_right : FuncData
  F_law_right : Fun K "_law_right" "_law_right" s_law_right f_law_right d_law_right
  b_law_right : Binds K d_law_right ["generator"] []
  m_law_right : mg "_law_right" = some (.ref f_law_right)
  f_law : Addr
  d_law : FuncData
  F_law : Fun K "law" "law" s_law f_law d_law
  b_law : Binds K d_law ["script"] []
  m_law : mg "law" = some (.ref f_law)
  n_all : mg "all" = none
  n_bool : mg "bool" = none
  n_enumerate : mg "enumerate" = none
  n_int : mg "int" = none
  n_isinstance : mg "isinstance" = none
  n_len : mg "len" = none
  n_list : mg "list" = none
  n_max : mg "max" = none
  n_range : mg "range" = none
  n_repr : mg "repr" = none
  n_sorted : mg "sorted" = none
  n_sum : mg "sum" = none
  n_tuple : mg "tuple" = none
  a_BUILDS : Addr
  v_BUILDS : List V
  g_BUILDS : mg "BUILDS" = some (.ref a_BUILDS)
  t_BUILDS : ∀ H, SqT K H a_BUILDS v_BUILDS
  d_BUILDS : ∀ H, DaAll K H v_BUILDS c_BUILDS
  k_MOST_RANKS : Tok
  g_MOST_RANKS : mg "MOST_RANKS" = some (.int 20 k_MOST_RANKS)
  k_MOST_SUITS : Tok
  g_MOST_SUITS : mg "MOST_SUITS" = some (.int 8 k_MOST_SUITS)
  kb_0 : KwBinds d_is_sensible ["rules", "position", "supermove"] ["supermove", "position", "rules"] (pmI [2, 1, 0])
  kb_1 : KwBinds d_room_of ["rules", "position", "supermove"] ["supermove", "position", "rules"] (pmI [2, 1, 0])
section
variable {P : Program} {w : World} {K : PySem.W.Frag} {mg : Str → Option Value} {base : Heap}
theorem ok_is_whole (T : Tx K w mg) : FnG P w K mg base 1 T.f_is_whole T.d_is_whole 1 ["value"] (spM K 1 m_is_whole) :=
  fn_m T.F_is_whole sc_is_whole fun W cdv A outer s H E hr =>
  (psx_one (psx_ret (px_and (px_isi (by rfl) T.n_isinstance (px_var (pv 0)) (by rfl) T.n_int bt_int) (px_one (px_not (px_isi (by rfl) T.n_isinstance (px_var (pv 0)) (by rfl) T.n_bool bt_bool))))))
theorem ok_is_within (T : Tx K w mg) (G_is_whole : FnG P w K mg base 1 T.f_is_whole T.d_is_whole 1 ["value"] (spM K 1 m_is_whole)) : FnG P w K mg base 2 T.f_is_within T.d_is_within 3 ["value", "low", "high"] (spM K 3 m_is_within) :=
  fn_m T.F_is_within sc_is_within fun W cdv A outer s H E hr =>
  (psx_one (psx_ret (px_and (px_fn G_is_whole (hr.mono (by decide)) (by rfl) T.m_is_whole T.F_is_whole.kp T.b_is_whole (pxa_d (px_var (pv 0)) pxa_nil) (xaD_len (fun _ _ _ _ h => xaNil_len h))) (px_one (px_chain op_leD op_leD (px_var (pv 1)) (px_var (pv 0)) (px_var (pv 2)))))))
theorem ok_is_tuple_of (T : Tx K w mg) : FnG P w K mg base 1 T.f_is_tuple_of T.d_is_tuple_of 2 ["value", "many"] (spM K 2 m_is_tuple_of) :=
  fn_m T.F_is_tuple_of sc_is_tuple_of fun W cdv A outer s H E hr =>
  (psx_one (psx_ret (px_and (px_isi (by rfl) T.n_isinstance (px_var (pv 0)) (by rfl) T.n_tuple bt_tuple) (px_one (px_cmp (op_eqDD hr.u64) (px_bi (c_len) (by rfl) T.n_len bt_len (pxa_d (px_var (pv 0)) pxa_nil)) (px_var (pv 1)) (nomark _))))))
theorem ok_is_rules (T : Tx K w mg) (G_is_within : FnG P w K mg base 2 T.f_is_within T.d_is_within 3 ["value", "low", "high"] (spM K 3 m_is_within)) (G_is_tuple_of : FnG P w K mg base 1 T.f_is_tuple_of T.d_is_tuple_of 2 ["value", "many"] (spM K 2 m_is_tuple_of)) : FnG P w K mg base 3 T.f_is_rules T.d_is_rules 1 ["value"] (spM K 1 m_is_rules) :=
  fn_m T.F_is_rules sc_is_rules fun W cdv A outer s H E hr =>
  (psx_cons (psx_if (pxt_not (pxt_truth (px_fn G_is_tuple_of (hr.mono (by decide)) (by rfl) T.m_is_tuple_of T.F_is_tuple_of.kp T.b_is_tuple_of (pxa_d (px_var (pv 0)) (pxa_d px_int pxa_nil)) (xaD_len (xaD_len (fun _ _ _ _ h => xaNil_len h))))))
  (psx_one (psx_ret px_bl))
  psx_nil)
  (psx_cons (psx_asg (px_var (pv 0)) (pxg_tup rfl (pxgs_cons (pxg_nm (pg_name (i := 1) sc_is_rules.nd rfl (.inl rfl))) (pxgs_cons (pxg_nm (pg_name (i := 2) sc_is_rules.nd rfl (.inl rfl))) (pxgs_cons (pxg_nm (pg_name (i := 3) sc_is_rules.nd rfl (.inl rfl))) pxgs_nil)))))
  (psx_one (psx_ret (px_and (px_fn G_is_within (hr.mono (by decide)) (by rfl) T.m_is_within T.F_is_within.kp T.b_is_within (pxa_d (px_var (pv 1)) (pxa_d px_int (pxa_d (px_c (pe_glob (v := .int 20) (by rfl) T.g_MOST_RANKS ⟨_, rfl⟩) fun _ _ => .int _) pxa_nil))) (xaD_len (xaD_len (xaD_len (fun _ _ _ _ h => xaNil_len h))))) (px_and (px_fn G_is_within (hr.mono (by decide)) (by rfl) T.m_is_within T.F_is_within.kp T.b_is_within (pxa_d (px_var (pv 2)) (pxa_d px_int (pxa_d (px_c (pe_glob (v := .int 8) (by rfl) T.g_MOST_SUITS ⟨_, rfl⟩) fun _ _ => .int _) pxa_nil))) (xaD_len (xaD_len (xaD_len (fun _ _ _ _ h => xaNil_len h))))) (px_one (px_inT hr.u65 (px_var (pv 3)) (by rfl) T.g_BUILDS T.t_BUILDS T.d_BUILDS))))))))
theorem ok_check_rules (T : Tx K w mg) (G_is_rules : FnG P w K mg base 3 T.f_is_rules T.d_is_rules 1 ["value"] (spM K 1 m_is_rules)) : FnG P w K mg base 4 T.f_check_rules T.d_check_rules 1 ["rules"] (spM K 1 m_check_rules) :=
  fn_m T.F_check_rules sc_check_rules fun W cdv A outer s H E hr =>
  (psx_one (psx_if (pxt_not (pxt_truth (px_fn G_is_rules (hr.mono (by decide)) (by rfl) T.m_is_rules T.F_is_rules.kp T.b_is_rules (pxa_d (px_var (pv 0)) pxa_nil) (xaD_len (fun _ _ _ _ h => xaNil_len h)))))
  (psx_one psx_never)
  psx_nil))
theorem ok_fits_deck (T : Tx K w mg) (G_is_within : FnG P w K mg base 2 T.f_is_within T.d_is_within 3 ["value", "low", "high"] (spM K 3 m_is_within)) (G_is_tuple_of : FnG P w K mg base 1 T.f_is_tuple_of T.d_is_tuple_of 2 ["value", "many"] (spM K 2 m_is_tuple_of)) : FnG P w K mg base 3 T.f_fits_deck T.d_fits_deck 2 ["rules", "value"] (spM K 2 m_fits_deck) :=
  fn_m T.F_fits_deck sc_fits_deck fun W cdv A outer s H E hr =>
  (psx_cons (psx_if (pxt_not (pxt_truth (px_fn G_is_tuple_of (hr.mono (by decide)) (by rfl) T.m_is_tuple_of T.F_is_tuple_of.kp T.b_is_tuple_of (pxa_d (px_var (pv 1)) (pxa_d px_int pxa_nil)) (xaD_len (xaD_len (fun _ _ _ _ h => xaNil_len h))))))
  (psx_one (psx_ret px_bl))
  psx_nil)
  (psx_cons (psx_asg (px_var (pv 1)) (pxg_tup rfl (pxgs_cons (pxg_nm (pg_name (i := 2) sc_fits_deck.nd rfl (.inl rfl))) (pxgs_cons (pxg_nm (pg_name (i := 3) sc_fits_deck.nd rfl (.inl rfl))) pxgs_nil))))
  (psx_one (psx_ret (px_and (px_fn G_is_within (hr.mono (by decide)) (by rfl) T.m_is_within T.F_is_within.kp T.b_is_within (pxa_d (px_var (pv 2)) (pxa_d px_int (pxa_d (px_ix (px_var (pv 0)) px_int (fun _ _ => rfl)) pxa_nil))) (xaD_len (xaD_len (xaD_len (fun _ _ _ _ h => xaNil_len h))))) (px_one (px_fn G_is_within (hr.mono (by decide)) (by rfl) T.m_is_within T.F_is_within.kp T.b_is_within (pxa_d (px_var (pv 3)) (pxa_d px_int (pxa_d (px_op op_subD (px_ix (px_var (pv 0)) px_int (fun _ _ => rfl)) px_int) pxa_nil))) (xaD_len (xaD_len (xaD_len (fun _ _ _ _ h => xaNil_len h)))))))))))
theorem ok_cards_of (T : Tx K w mg) : FnG P w K mg base 1 T.f_cards_of T.d_cards_of 1 ["rules"] (spM K 1 m_cards_of) :=
  fn_m T.F_cards_of sc_cards_of fun W cdv A outer s H E hr =>
  (psx_cons (psx_asg (px_var (pv 0)) (pxg_tup rfl (pxgs_cons (pxg_nm (pg_name (i := 1) sc_cards_of.nd rfl (.inl rfl))) (pxgs_cons (pxg_nm (pg_name (i := 2) sc_cards_of.nd rfl (.inr rfl))) (pxgs_cons (pxg_nm (pg_name (i := 3) sc_cards_of.nd rfl (.inl rfl))) pxgs_nil)))))
  (psx_one (psx_ret (px_of_f (pxf_lc2 (own := [("rank", 4), ("suit", 5)]) (vs1 := [5]) rfl sc_cards_of.nd (pxi_range2 (by rfl) T.n_range (pxa_d px_int (pxa_d (px_op op_addD (px_var (pv 1)) px_int) pxa_nil)) (h1 := (xaD_len (xaD_len (fun _ _ _ _ h => xaNil_len h))))) (blkOk_by (own := [("rank", 4), ("suit", 5)]) (N := N_cards_of) (sc := defScope s_cards_of) (by decide +kernel)) (by decide) (fun _ _ _ _ _ => (pxg_nm (pg_name (i := 4) sc_cards_of.nd rfl (.inl rfl)))) (fun _ _ _ _ _ => pxts_nil) (fun _ _ _ _ _ => (pxi_range1 (by rfl) T.n_range (pxa_d (px_var (pv 2)) pxa_nil) (h1 := (xaD_len (fun _ _ _ _ h => xaNil_len h))))) (fun _ _ _ _ _ => (pxg_nm (pg_name (i := 5) sc_cards_of.nd rfl (.inl rfl)))) (fun _ _ _ _ _ => pxts_nil) (fun _ _ _ _ _ => (px_tup (pxa_d (px_var (pv 4)) (pxa_d (px_var (pv 5)) pxa_nil)))) (by decide) (by decide))))))
theorem ok_goes_on (T : Tx K w mg) : FnG P w K mg base 1 T.f_goes_on T.d_goes_on 3 ["rules", "card", "other"] (spM K 3 m_goes_on) :=
  fn_m T.F_goes_on sc_goes_on fun W cdv A outer s H E hr =>
  (psx_cons (psx_set (i := 3) sc_goes_on.nd rfl (.inl rfl) (px_ix (px_var (pv 0)) px_int (fun _ _ => rfl)))
  (psx_cons (psx_if (pxt_cmp (op_neDD hr.u64) (px_op op_addD (px_ix (px_var (pv 1)) px_int (fun _ _ => rfl)) px_int) (px_ix (px_var (pv 2)) px_int (fun _ _ => rfl)) (nomark _))
  (psx_one (psx_ret px_bl))
  psx_nil)
  (psx_cons (psx_if (pxt_cmp (op_eqDD hr.u64) (px_var (pv 3)) px_str (nomark _))
  (psx_one (psx_ret (px_cmp (op_eqDD hr.u64) (px_ix (px_var (pv 1)) px_int (fun _ _ => rfl)) (px_ix (px_var (pv 2)) px_int (fun _ _ => rfl)) (nomark _))))
  psx_nil)
  (psx_one (psx_ret (px_or (px_cmp (op_eqDD hr.u64) (px_var (pv 3)) px_str (nomark _)) (px_one (px_cmp (op_eqDD hr.u64) (px_op op_modD (px_op op_subD (px_ix (px_var (pv 1)) px_int (fun _ _ => rfl)) (px_ix (px_var (pv 2)) px_int (fun _ _ => rfl))) px_int) px_int (nomark _)))))))))
theorem ok_are_cards (T : Tx K w mg) (G_fits_deck : FnG P w K mg base 3 T.f_fits_deck T.d_fits_deck 2 ["rules", "value"] (spM K 2 m_fits_deck)) : FnG P w K mg base 4 T.f_are_cards T.d_are_cards 2 ["rules", "value"] (spM K 2 m_are_cards) :=
  fn_m T.F_are_cards sc_are_cards fun W cdv A outer s H E hr =>
  (psx_one (psx_ret (px_and (px_isi (by rfl) T.n_isinstance (px_var (pv 1)) (by rfl) T.n_list bt_list) (px_one (px_bi (c_all rfl) (by rfl) T.n_all bt_all (pxa_d (px_of_f (pxf_lc (own := [("card", 2)]) rfl sc_are_cards.nd (pxi_list (px_var (pv 1))) (blkOk_by (own := [("card", 2)]) (N := N_are_cards) (sc := defScope s_are_cards) (by decide +kernel)) (fun _ _ _ _ _ => (pxg_nm (pg_name (i := 2) sc_are_cards.nd rfl (.inl rfl)))) (fun _ _ _ _ _ => pxts_nil) (fun _ _ _ _ _ => (px_fn G_fits_deck (hr.mono (by decide)) (by rfl) T.m_fits_deck T.F_fits_deck.kp T.b_fits_deck (pxa_d (px_var (pv 0)) (pxa_d (px_var (pv 2)) pxa_nil)) (xaD_len (xaD_len (fun _ _ _ _ h => xaNil_len h))))) (by decide))) pxa_nil))))))
theorem ok_are_columns (T : Tx K w mg) (G_are_cards : FnG P w K mg base 4 T.f_are_cards T.d_are_cards 2 ["rules", "value"] (spM K 2 m_are_cards)) : FnG P w K mg base 5 T.f_are_columns T.d_are_columns 2 ["rules", "value"] (spM K 2 m_are_columns) :=
  fn_m T.F_are_columns sc_are_columns fun W cdv A outer s H E hr =>
  (psx_one (psx_ret (px_and (px_isi (by rfl) T.n_isinstance (px_var (pv 1)) (by rfl) T.n_list bt_list) (px_and (px_cmp op_gtD (px_bi (c_len) (by rfl) T.n_len bt_len (pxa_d (px_var (pv 1)) pxa_nil)) px_int (nomark _)) (px_one (px_bi (c_all rfl) (by rfl) T.n_all bt_all (pxa_d (px_of_f (pxf_lc (own := [("column", 2)]) rfl sc_are_columns.nd (pxi_list (px_var (pv 1))) (blkOk_by (own := [("column", 2)]) (N := N_are_columns) (sc := defScope s_are_columns) (by decide +kernel)) (fun _ _ _ _ _ => (pxg_nm (pg_name (i := 2) sc_are_columns.nd rfl (.inl rfl)))) (fun _ _ _ _ _ => pxts_nil) (fun _ _ _ _ _ => (px_fn G_are_cards (hr.mono (by decide)) (by rfl) T.m_are_cards T.F_are_cards.kp T.b_are_cards (pxa_d (px_var (pv 0)) (pxa_d (px_var (pv 2)) pxa_nil)) (xaD_len (xaD_len (fun _ _ _ _ h => xaNil_len h))))) (by decide))) pxa_nil)))))))
theorem ok_are_cells (T : Tx K w mg) (G_fits_deck : FnG P w K mg base 3 T.f_fits_deck T.d_fits_deck 2 ["rules", "value"] (spM K 2 m_fits_deck)) : FnG P w K mg base 4 T.f_are_cells T.d_are_cells 2 ["rules", "value"] (spM K 2 m_are_cells) :=
  fn_m T.F_are_cells sc_are_cells fun W cdv A outer s H E hr =>
  (psx_one (psx_ret (px_and (px_isi (by rfl) T.n_isinstance (px_var (pv 1)) (by rfl) T.n_list bt_list) (px_one (px_bi (c_all rfl) (by rfl) T.n_all bt_all (pxa_d (px_of_f (pxf_lc (own := [("card", 2)]) rfl sc_are_cells.nd (pxi_list (px_var (pv 1))) (blkOk_by (own := [("card", 2)]) (N := N_are_cells) (sc := defScope s_are_cells) (by decide +kernel)) (fun _ _ _ _ _ => (pxg_nm (pg_name (i := 2) sc_are_cells.nd rfl (.inl rfl)))) (fun _ _ _ _ _ => pxts_nil) (fun _ _ _ _ _ => (px_or (px_cmp op_isD (px_var (pv 2)) px_non (nomark _)) (px_one (px_fn G_fits_deck (hr.mono (by decide)) (by rfl) T.m_fits_deck T.F_fits_deck.kp T.b_fits_deck (pxa_d (px_var (pv 0)) (pxa_d (px_var (pv 2)) pxa_nil)) (xaD_len (xaD_len (fun _ _ _ _ h => xaNil_len h))))))) (by decide))) pxa_nil))))))
theorem ok_are_homes (T : Tx K w mg) (G_is_within : FnG P w K mg base 2 T.f_is_within T.d_is_within 3 ["value", "low", "high"] (spM K 3 m_is_within)) : FnG P w K mg base 3 T.f_are_homes T.d_are_homes 2 ["rules", "value"] (spM K 2 m_are_homes) :=
  fn_m T.F_are_homes sc_are_homes fun W cdv A outer s H E hr =>
  (psx_cons (psx_asg (px_var (pv 0)) (pxg_tup rfl (pxgs_cons (pxg_nm (pg_name (i := 2) sc_are_homes.nd rfl (.inr rfl))) (pxgs_cons (pxg_nm (pg_name (i := 3) sc_are_homes.nd rfl (.inl rfl))) (pxgs_cons (pxg_nm (pg_name (i := 4) sc_are_homes.nd rfl (.inl rfl))) pxgs_nil)))))
  (psx_one (psx_ret (px_and (px_isi (by rfl) T.n_isinstance (px_var (pv 1)) (by rfl) T.n_list bt_list) (px_and (px_cmp (op_eqDD hr.u64) (px_bi (c_len) (by rfl) T.n_len bt_len (pxa_d (px_var (pv 1)) pxa_nil)) (px_var (pv 3)) (nomark _)) (px_one (px_bi (c_all rfl) (by rfl) T.n_all bt_all (pxa_d (px_of_f (pxf_lc (own := [("home", 5)]) rfl sc_are_homes.nd (pxi_list (px_var (pv 1))) (blkOk_by (own := [("home", 5)]) (N := N_are_homes) (sc := defScope s_are_homes) (by decide +kernel)) (fun _ _ _ _ _ => (pxg_nm (pg_name (i := 5) sc_are_homes.nd rfl (.inl rfl)))) (fun _ _ _ _ _ => pxts_nil) (fun _ _ _ _ _ => (px_fn G_is_within (hr.mono (by decide)) (by rfl) T.m_is_within T.F_is_within.kp T.b_is_within (pxa_d (px_var (pv 5)) (pxa_d px_int (pxa_d (px_var (pv 2)) pxa_nil))) (xaD_len (xaD_len (xaD_len (fun _ _ _ _ h => xaNil_len h)))))) (by decide))) pxa_nil))))))))
theorem ok_cards_about (T : Tx K w mg) : FnG P w K mg base 1 T.f_cards_about T.d_cards_about 1 ["position"] (spM K 1 m_cards_about) :=
  fn_m T.F_cards_about sc_cards_about fun W cdv A outer s H E hr =>
  (psx_cons (psx_asg (px_var (pv 0)) (pxg_tup rfl (pxgs_cons (pxg_nm (pg_name (i := 1) sc_cards_about.nd rfl (.inl rfl))) (pxgs_cons (pxg_nm (pg_name (i := 2) sc_cards_about.nd rfl (.inl rfl))) (pxgs_cons (pxg_nm (pg_name (i := 3) sc_cards_about.nd rfl (.inl rfl))) pxgs_nil)))))
  (psx_one (psx_ret (px_op op_addD (px_of_f (pxf_lc2 (own := [("column", 4), ("card", 5)]) (vs1 := [5]) rfl sc_cards_about.nd (pxi_list (px_var (pv 1))) (blkOk_by (own := [("column", 4), ("card", 5)]) (N := N_cards_about) (sc := defScope s_cards_about) (by decide +kernel)) (by decide) (fun _ _ _ _ _ => (pxg_nm (pg_name (i := 4) sc_cards_about.nd rfl (.inl rfl)))) (fun _ _ _ _ _ => pxts_nil) (fun _ _ _ _ _ => (pxi_list (px_var (pv 4)))) (fun _ _ _ _ _ => (pxg_nm (pg_name (i := 5) sc_cards_about.nd rfl (.inl rfl)))) (fun _ _ _ _ _ => pxts_nil) (fun _ _ _ _ _ => (px_var (pv 5))) (by decide) (by decide))) (px_of_f (pxf_lc (own := [("card", 5)]) rfl sc_cards_about.nd (pxi_list (px_var (pv 2))) (blkOk_by (own := [("card", 5)]) (N := N_cards_about) (sc := defScope s_cards_about) (by decide +kernel)) (fun _ _ _ _ _ => (pxg_nm (pg_name (i := 5) sc_cards_about.nd rfl (.inl rfl)))) (fun _ _ _ _ _ => (pxts_one (pxt_cmp op_isntD (px_var (pv 5)) px_non (nomark _)))) (fun _ _ _ _ _ => (px_var (pv 5))) (by decide)))))))
theorem ok_fits_rules (T : Tx K w mg) (G_is_tuple_of : FnG P w K mg base 1 T.f_is_tuple_of T.d_is_tuple_of 2 ["value", "many"] (spM K 2 m_is_tuple_of)) (G_cards_of : FnG P w K mg base 1 T.f_cards_of T.d_cards_of 1 ["rules"] (spM K 1 m_cards_of)) (G_are_columns : FnG P w K mg base 5 T.f_are_columns T.d_are_columns 2 ["rules", "value"] (spM K 2 m_are_columns)) (G_are_cells : FnG P w K mg base 4 T.f_are_cells T.d_are_cells 2 ["rules", "value"] (spM K 2 m_are_cells)) (G_are_homes : FnG P w K mg base 3 T.f_are_homes T.d_are_homes 2 ["rules", "value"] (spM K 2 m_are_homes)) (G_cards_about : FnG P w K mg base 1 T.f_cards_about T.d_cards_about 1 ["position"] (spM K 1 m_cards_about)) : FnG P w K mg base 6 T.f_fits_rules T.d_fits_rules 2 ["rules", "value"] (spM K 2 m_fits_rules) :=
  fn_m T.F_fits_rules sc_fits_rules fun W cdv A outer s H E hr =>
  (psx_cons (psx_if (pxt_not (pxt_truth (px_fn G_is_tuple_of (hr.mono (by decide)) (by rfl) T.m_is_tuple_of T.F_is_tuple_of.kp T.b_is_tuple_of (pxa_d (px_var (pv 1)) (pxa_d px_int pxa_nil)) (xaD_len (xaD_len (fun _ _ _ _ h => xaNil_len h))))))
  (psx_one (psx_ret px_bl))
  psx_nil)
  (psx_cons (psx_asg (px_var (pv 1)) (pxg_tup rfl (pxgs_cons (pxg_nm (pg_name (i := 2) sc_fits_rules.nd rfl (.inl rfl))) (pxgs_cons (pxg_nm (pg_name (i := 3) sc_fits_rules.nd rfl (.inl rfl))) (pxgs_cons (pxg_nm (pg_name (i := 4) sc_fits_rules.nd rfl (.inr rfl))) pxgs_nil)))))
  (psx_cons (psx_if (pxt_not (pxw_t (pxw_and (pxt_truth (px_fn G_are_columns (hr.mono (by decide)) (by rfl) T.m_are_columns T.F_are_columns.kp T.b_are_columns (pxa_d (px_var (pv 0)) (pxa_d (px_var (pv 2)) pxa_nil)) (xaD_len (xaD_len (fun _ _ _ _ h => xaNil_len h))))) (pxw_and (pxt_truth (px_fn G_are_cells (hr.mono (by decide)) (by rfl) T.m_are_cells T.F_are_cells.kp T.b_are_cells (pxa_d (px_var (pv 0)) (pxa_d (px_var (pv 3)) pxa_nil)) (xaD_len (xaD_len (fun _ _ _ _ h => xaNil_len h))))) (pxw_and1 (pxt_truth (px_fn G_are_homes (hr.mono (by decide)) (by rfl) T.m_are_homes T.F_are_homes.kp T.b_are_homes (pxa_d (px_var (pv 0)) (pxa_d (px_var (pv 4)) pxa_nil)) (xaD_len (xaD_len (fun _ _ _ _ h => xaNil_len h))))))))))
  (psx_one (psx_ret px_bl))
  psx_nil)
  (psx_one (psx_ret (px_cmp (op_eqDD hr.u64) (px_bi (c_sortG hr.u65) (by rfl) T.n_sorted bt_sorted (pxa_d (px_fn G_cards_about (hr.mono (by decide)) (by rfl) T.m_cards_about T.F_cards_about.kp T.b_cards_about (pxa_d (px_var (pv 1)) pxa_nil) (xaD_len (fun _ _ _ _ h => xaNil_len h))) pxa_nil)) (px_of_f (pxf_lc (own := [("card", 5)]) rfl sc_fits_rules.nd (pxi_list (px_fn G_cards_of (hr.mono (by decide)) (by rfl) T.m_cards_of T.F_cards_of.kp T.b_cards_of (pxa_d (px_var (pv 0)) pxa_nil) (xaD_len (fun _ _ _ _ h => xaNil_len h)))) (blkOk_by (own := [("card", 5)]) (N := N_fits_rules) (sc := defScope s_fits_rules) (by decide +kernel)) (fun _ _ _ _ _ => (pxg_nm (pg_name (i := 5) sc_fits_rules.nd rfl (.inl rfl)))) (fun _ _ _ _ _ => (pxts_one (pxt_cmp op_gtD (px_ix (px_var (pv 5)) px_int (fun _ _ => rfl)) (px_ix (px_var (pv 4)) (px_ix (px_var (pv 5)) px_int (fun _ _ => rfl)) (fun _ _ => rfl)) (nomark _)))) (fun _ _ _ _ _ => (px_var (pv 5))) (by decide))) (nomark _)))))))
theorem ok_check_position (T : Tx K w mg) (G_check_rules : FnG P w K mg base 4 T.f_check_rules T.d_check_rules 1 ["rules"] (spM K 1 m_check_rules)) (G_fits_rules : FnG P w K mg base 6 T.f_fits_rules T.d_fits_rules 2 ["rules", "value"] (spM K 2 m_fits_rules)) : FnG P w K mg base 7 T.f_check_position T.d_check_position 2 ["rules", "position"] (spM K 2 m_check_position) :=
  fn_m T.F_check_position sc_check_position fun W cdv A outer s H E hr =>
  (psx_cons (psx_expr (px_fn G_check_rules (hr.mono (by decide)) (by rfl) T.m_check_rules T.F_check_rules.kp T.b_check_rules (pxa_d (px_var (pv 0)) pxa_nil) (xaD_len (fun _ _ _ _ h => xaNil_len h))))
  (psx_one (psx_if (pxt_not (pxt_truth (px_fn G_fits_rules (hr.mono (by decide)) (by rfl) T.m_fits_rules T.F_fits_rules.kp T.b_fits_rules (pxa_d (px_var (pv 0)) (pxa_d (px_var (pv 1)) pxa_nil)) (xaD_len (xaD_len (fun _ _ _ _ h => xaNil_len h))))))
  (psx_one psx_never)
  psx_nil)))
theorem ok_run_of (T : Tx K w mg) (G_goes_on : FnG P w K mg base 1 T.f_goes_on T.d_goes_on 3 ["rules", "card", "other"] (spM K 3 m_goes_on)) : FnG P w K mg base 2 T.f_run_of T.d_run_of 2 ["rules", "column"] (spM K 2 m_run_of) :=
  fn_m T.F_run_of sc_run_of fun W cdv A outer s H E hr =>
  (psx_cons (psx_if (pxt_not (pxt_truth (px_var (pv 1))))
  (psx_one (psx_ret px_int))
  psx_nil)
  (psx_cons (psx_set (i := 2) sc_run_of.nd rfl (.inl rfl) px_int)
  (psx_cons (psx_while PassesOwn.never (pxw_t (pxw_and (pxt_cmp op_ltD (px_var (pv 2)) (px_bi (c_len) (by rfl) T.n_len bt_len (pxa_d (px_var (pv 1)) pxa_nil)) (nomark _)) (pxw_and1 (pxt_truth (px_fn G_goes_on (hr.mono (by decide)) (by rfl) T.m_goes_on T.F_goes_on.kp T.b_goes_on (pxa_d (px_var (pv 0)) (pxa_d (px_ix (px_var (pv 1)) (px_un un_negD (px_var (pv 2))) (fun _ _ => rfl)) (pxa_d (px_ix (px_var (pv 1)) (px_op op_subD (px_un un_negD (px_var (pv 2))) px_int) (fun _ _ => rfl)) pxa_nil))) (xaD_len (xaD_len (xaD_len (fun _ _ _ _ h => xaNil_len h)))))))))
  (psx_one (psx_aug (ps_aug (i := 2) sc_run_of.nd rfl (.inl rfl) px_int ip_add))))
  (psx_one (psx_ret (px_var (pv 2)))))))
theorem ok_fits_supermove (T : Tx K w mg) (G_is_within : FnG P w K mg base 2 T.f_is_within T.d_is_within 3 ["value", "low", "high"] (spM K 3 m_is_within)) (G_is_tuple_of : FnG P w K mg base 1 T.f_is_tuple_of T.d_is_tuple_of 2 ["value", "many"] (spM K 2 m_is_tuple_of)) (G_run_of : FnG P w K mg base 2 T.f_run_of T.d_run_of 2 ["rules", "column"] (spM K 2 m_run_of)) : FnG P w K mg base 3 T.f_fits_supermove T.d_fits_supermove 3 ["rules", "position", "value"] (spM K 3 m_fits_supermove) :=
  fn_m T.F_fits_supermove sc_fits_supermove fun W cdv A outer s H E hr =>
  (psx_cons (psx_if (pxt_not (pxt_truth (px_fn G_is_tuple_of (hr.mono (by decide)) (by rfl) T.m_is_tuple_of T.F_is_tuple_of.kp T.b_is_tuple_of (pxa_d (px_var (pv 2)) (pxa_d px_int pxa_nil)) (xaD_len (xaD_len (fun _ _ _ _ h => xaNil_len h))))))
  (psx_one (psx_ret px_bl))
  psx_nil)
  (psx_cons (psx_asg (px_var (pv 2)) (pxg_tup rfl (pxgs_cons (pxg_nm (pg_name (i := 5) sc_fits_supermove.nd rfl (.inl rfl))) (pxgs_cons (pxg_nm (pg_name (i := 6) sc_fits_supermove.nd rfl (.inl rfl))) (pxgs_cons (pxg_nm (pg_name (i := 7) sc_fits_supermove.nd rfl (.inl rfl))) pxgs_nil)))))
  (psx_cons (psx_set (i := 3) sc_fits_supermove.nd rfl (.inl rfl) (px_ix (px_var (pv 1)) px_int (fun _ _ => rfl)))
  (psx_cons (psx_set (i := 4) sc_fits_supermove.nd rfl (.inl rfl) (px_op op_subD (px_bi (c_len) (by rfl) T.n_len bt_len (pxa_d (px_var (pv 3)) pxa_nil)) px_int))
  (psx_cons (psx_if (pxt_not (pxw_t (pxw_and (pxt_truth (px_fn G_is_within (hr.mono (by decide)) (by rfl) T.m_is_within T.F_is_within.kp T.b_is_within (pxa_d (px_var (pv 5)) (pxa_d px_int (pxa_d (px_var (pv 4)) pxa_nil))) (xaD_len (xaD_len (xaD_len (fun _ _ _ _ h => xaNil_len h)))))) (pxw_and1 (pxt_truth (px_fn G_is_within (hr.mono (by decide)) (by rfl) T.m_is_within T.F_is_within.kp T.b_is_within (pxa_d (px_var (pv 6)) (pxa_d px_int (pxa_d (px_var (pv 4)) pxa_nil))) (xaD_len (xaD_len (xaD_len (fun _ _ _ _ h => xaNil_len h))))))))))
  (psx_one (psx_ret px_bl))
  psx_nil)
  (psx_one (psx_ret (px_and (px_cmp (op_neDD hr.u64) (px_var (pv 5)) (px_var (pv 6)) (nomark _)) (px_one (px_fn G_is_within (hr.mono (by decide)) (by rfl) T.m_is_within T.F_is_within.kp T.b_is_within (pxa_d (px_var (pv 7)) (pxa_d px_int (pxa_d (px_fn G_run_of (hr.mono (by decide)) (by rfl) T.m_run_of T.F_run_of.kp T.b_run_of (pxa_d (px_var (pv 0)) (pxa_d (px_ix (px_var (pv 3)) (px_var (pv 5)) (fun _ _ => rfl)) pxa_nil)) (xaD_len (xaD_len (fun _ _ _ _ h => xaNil_len h)))) pxa_nil))) (xaD_len (xaD_len (xaD_len (fun _ _ _ _ h => xaNil_len h))))))))))))))
theorem ok_lowest_of (T : Tx K w mg) : FnG P w K mg base 1 T.f_lowest_of T.d_lowest_of 2 ["position", "supermove"] (spM K 2 m_lowest_of) :=
  fn_m T.F_lowest_of sc_lowest_of fun W cdv A outer s H E hr =>
  (psx_cons (psx_asg (px_var (pv 1)) (pxg_tup rfl (pxgs_cons (pxg_nm (pg_name (i := 2) sc_lowest_of.nd rfl (.inl rfl))) (pxgs_cons (pxg_nm (pg_name (i := 3) sc_lowest_of.nd rfl (.inl rfl))) (pxgs_cons (pxg_nm (pg_name (i := 4) sc_lowest_of.nd rfl (.inl rfl))) pxgs_nil)))))
  (psx_one (psx_ret (px_ix (px_ix (px_ix (px_var (pv 0)) px_int (fun _ _ => rfl)) (px_var (pv 2)) (fun _ _ => rfl)) (px_un un_negD (px_var (pv 4))) (fun _ _ => rfl)))))
theorem ok_makes_sense (T : Tx K w mg) (G_goes_on : FnG P w K mg base 1 T.f_goes_on T.d_goes_on 3 ["rules", "card", "other"] (spM K 3 m_goes_on)) (G_lowest_of : FnG P w K mg base 1 T.f_lowest_of T.d_lowest_of 2 ["position", "supermove"] (spM K 2 m_lowest_of)) : FnG P w K mg base 2 T.f_makes_sense T.d_makes_sense 3 ["rules", "position", "supermove"] (spM K 3 m_makes_sense) :=
  fn_m T.F_makes_sense sc_makes_sense fun W cdv A outer s H E hr =>
  (psx_cons (psx_asg (px_var (pv 2)) (pxg_tup rfl (pxgs_cons (pxg_nm (pg_name (i := 4) sc_makes_sense.nd rfl (.inl rfl))) (pxgs_cons (pxg_nm (pg_name (i := 5) sc_makes_sense.nd rfl (.inl rfl))) (pxgs_cons (pxg_nm (pg_name (i := 6) sc_makes_sense.nd rfl (.inl rfl))) pxgs_nil)))))
  (psx_cons (psx_set (i := 3) sc_makes_sense.nd rfl (.inl rfl) (px_ix (px_var (pv 1)) px_int (fun _ _ => rfl)))
  (psx_cons (psx_if (pxt_not (pxt_truth (px_ix (px_var (pv 3)) (px_var (pv 5)) (fun _ _ => rfl))))
  (psx_one (psx_ret (px_cmp op_ltD (px_var (pv 6)) (px_bi (c_len) (by rfl) T.n_len bt_len (pxa_d (px_ix (px_var (pv 3)) (px_var (pv 4)) (fun _ _ => rfl)) pxa_nil)) (nomark _))))
  psx_nil)
  (psx_one (psx_ret (px_fn G_goes_on (hr.mono (by decide)) (by rfl) T.m_goes_on T.F_goes_on.kp T.b_goes_on (pxa_d (px_var (pv 0)) (pxa_d (px_fn G_lowest_of (hr.mono (by decide)) (by rfl) T.m_lowest_of T.F_lowest_of.kp T.b_lowest_of (pxa_d (px_var (pv 1)) (pxa_d (px_var (pv 2)) pxa_nil)) (xaD_len (xaD_len (fun _ _ _ _ h => xaNil_len h)))) (pxa_d (px_ix (px_ix (px_var (pv 3)) (px_var (pv 5)) (fun _ _ => rfl)) (px_un un_negD px_int) (fun _ _ => rfl)) pxa_nil))) (xaD_len (xaD_len (xaD_len (fun _ _ _ _ h => xaNil_len h))))))))))
theorem ok_check_supermove (T : Tx K w mg) (G_check_position : FnG P w K mg base 7 T.f_check_position T.d_check_position 2 ["rules", "position"] (spM K 2 m_check_position)) (G_fits_supermove : FnG P w K mg base 3 T.f_fits_supermove T.d_fits_supermove 3 ["rules", "position", "value"] (spM K 3 m_fits_supermove)) : FnG P w K mg base 8 T.f_check_supermove T.d_check_supermove 3 ["rules", "position", "supermove"] (spM K 3 m_check_supermove) :=
  fn_m T.F_check_supermove sc_check_supermove fun W cdv A outer s H E hr =>
  (psx_cons (psx_expr (px_fn G_check_position (hr.mono (by decide)) (by rfl) T.m_check_position T.F_check_position.kp T.b_check_position (pxa_d (px_var (pv 0)) (pxa_d (px_var (pv 1)) pxa_nil)) (xaD_len (xaD_len (fun _ _ _ _ h => xaNil_len h)))))
  (psx_one (psx_if (pxt_not (pxt_truth (px_fn G_fits_supermove (hr.mono (by decide)) (by rfl) T.m_fits_supermove T.F_fits_supermove.kp T.b_fits_supermove (pxa_d (px_var (pv 0)) (pxa_d (px_var (pv 1)) (pxa_d (px_var (pv 2)) pxa_nil))) (xaD_len (xaD_len (xaD_len (fun _ _ _ _ h => xaNil_len h)))))))
  (psx_one psx_never)
  psx_nil)))
theorem ok_is_sensible (T : Tx K w mg) (G_makes_sense : FnG P w K mg base 2 T.f_makes_sense T.d_makes_sense 3 ["rules", "position", "supermove"] (spM K 3 m_makes_sense)) (G_check_supermove : FnG P w K mg base 8 T.f_check_supermove T.d_check_supermove 3 ["rules", "position", "supermove"] (spM K 3 m_check_supermove)) : FnG P w K mg base 9 T.f_is_sensible T.d_is_sensible 3 ["rules", "position", "supermove"] (spM K 3 m_is_sensible) :=
  fn_m T.F_is_sensible sc_is_sensible fun W cdv A outer s H E hr =>
  (psx_cons (psx_expr (px_fn G_check_supermove (hr.mono (by decide)) (by rfl) T.m_check_supermove T.F_check_supermove.kp T.b_check_supermove (pxa_d (px_var (pv 0)) (pxa_d (px_var (pv 1)) (pxa_d (px_var (pv 2)) pxa_nil))) (xaD_len (xaD_len (xaD_len (fun _ _ _ _ h => xaNil_len h))))))
  (psx_one (psx_ret (px_fn G_makes_sense (hr.mono (by decide)) (by rfl) T.m_makes_sense T.F_makes_sense.kp T.b_makes_sense (pxa_d (px_var (pv 0)) (pxa_d (px_var (pv 1)) (pxa_d (px_var (pv 2)) pxa_nil))) (xaD_len (xaD_len (xaD_len (fun _ _ _ _ h => xaNil_len h))))))))
theorem ok_check_sensible (T : Tx K w mg) (G_makes_sense : FnG P w K mg base 2 T.f_makes_sense T.d_makes_sense 3 ["rules", "position", "supermove"] (spM K 3 m_makes_sense)) (G_check_supermove : FnG P w K mg base 8 T.f_check_supermove T.d_check_supermove 3 ["rules", "position", "supermove"] (spM K 3 m_check_supermove)) : FnG P w K mg base 9 T.f_check_sensible T.d_check_sensible 3 ["rules", "position", "supermove"] (spM K 3 m_check_sensible) :=
  fn_m T.F_check_sensible sc_check_sensible fun W cdv A outer s H E hr =>
  (psx_cons (psx_expr (px_fn G_check_supermove (hr.mono (by decide)) (by rfl) T.m_check_supermove T.F_check_supermove.kp T.b_check_supermove (pxa_d (px_var (pv 0)) (pxa_d (px_var (pv 1)) (pxa_d (px_var (pv 2)) pxa_nil))) (xaD_len (xaD_len (xaD_len (fun _ _ _ _ h => xaNil_len h))))))
  (psx_one (psx_if (pxt_not (pxt_truth (px_fn G_makes_sense (hr.mono (by decide)) (by rfl) T.m_makes_sense T.F_makes_sense.kp T.b_makes_sense (pxa_d (px_var (pv 0)) (pxa_d (px_var (pv 1)) (pxa_d (px_var (pv 2)) pxa_nil))) (xaD_len (xaD_len (xaD_len (fun _ _ _ _ h => xaNil_len h)))))))
  (psx_one psx_never)
  psx_nil)))
theorem ok_numbers_free (T : Tx K w mg) : FnG P w K mg base 1 T.f_numbers_free T.d_numbers_free 1 ["position"] (spM K 1 m_numbers_free) :=
  fn_m T.F_numbers_free sc_numbers_free fun W cdv A outer s H E hr =>
  (psx_cons (psx_asg (px_var (pv 0)) (pxg_tup rfl (pxgs_cons (pxg_nm (pg_name (i := 2) sc_numbers_free.nd rfl (.inl rfl))) (pxgs_cons (pxg_nm (pg_name (i := 3) sc_numbers_free.nd rfl (.inl rfl))) (pxgs_cons (pxg_nm (pg_name (i := 4) sc_numbers_free.nd rfl (.inl rfl))) pxgs_nil)))))
  (psx_cons (psx_setLc (ps_lcF (own := [("number", 5), ("card", 6)]) (by decide) (ps_setLc (i := 1) (own := [("number", 5), ("card", 6)]) rfl sc_numbers_free.nd rfl rfl (sw_true rfl rfl rfl (by decide +kernel)) (pxi_enum (by rfl) T.n_enumerate (pxa_d (px_var (pv 3)) pxa_nil)) (blkOk_by (own := [("number", 5), ("card", 6)]) (N := N_numbers_free) (sc := defScope s_numbers_free) (by decide +kernel)) (fun _ _ _ _ _ => (pxg_tup rfl (pxgs_cons (pxg_nm (pg_name (i := 5) sc_numbers_free.nd rfl (.inl rfl))) (pxgs_cons (pxg_nm (pg_name (i := 6) sc_numbers_free.nd rfl (.inl rfl))) pxgs_nil)))) (fun _ _ _ _ _ => (pxts_one (pxt_cmp op_isD (px_var (pv 6)) px_non (nomark _)))) (fun _ _ _ _ _ => (px_var (pv 5))))))
  (psx_one (psx_ret (px_tup (pxa_d (px_var (pv 1)) (pxa_d (px_of_f (pxf_lc (own := [("number", 5), ("column", 7)]) rfl sc_numbers_free.nd (pxi_enum (by rfl) T.n_enumerate (pxa_d (px_var (pv 2)) pxa_nil)) (blkOk_by (own := [("number", 5), ("column", 7)]) (N := N_numbers_free) (sc := defScope s_numbers_free) (by decide +kernel)) (fun _ _ _ _ _ => (pxg_tup rfl (pxgs_cons (pxg_nm (pg_name (i := 5) sc_numbers_free.nd rfl (.inl rfl))) (pxgs_cons (pxg_nm (pg_name (i := 7) sc_numbers_free.nd rfl (.inl rfl))) pxgs_nil)))) (fun _ _ _ _ _ => (pxts_one (pxt_not (pxt_truth (px_var (pv 7)))))) (fun _ _ _ _ _ => (px_var (pv 5))) (by decide))) pxa_nil)))))))
theorem ok_helping_columns (T : Tx K w mg) (G_goes_on : FnG P w K mg base 1 T.f_goes_on T.d_goes_on 3 ["rules", "card", "other"] (spM K 3 m_goes_on)) : FnG P w K mg base 2 T.f_helping_columns T.d_helping_columns 4 ["rules", "position", "supermove", "card"] (spM K 4 m_helping_columns) :=
  fn_m T.F_helping_columns sc_helping_columns fun W cdv A outer s H E hr =>
  (psx_cons (psx_asg (px_var (pv 2)) (pxg_tup rfl (pxgs_cons (pxg_nm (pg_name (i := 6) sc_helping_columns.nd rfl (.inr rfl))) (pxgs_cons (pxg_nm (pg_name (i := 7) sc_helping_columns.nd rfl (.inr rfl))) (pxgs_cons (pxg_nm (pg_name (i := 8) sc_helping_columns.nd rfl (.inl rfl))) pxgs_nil)))))
  (psx_cons (psx_set (i := 4) sc_helping_columns.nd rfl (.inl rfl) (px_ix (px_var (pv 1)) px_int (fun _ _ => rfl)))
  (psx_cons (psx_set (i := 5) sc_helping_columns.nd rfl (.inr rfl) (px_ix (px_ix (px_var (pv 4)) (px_var (pv 6)) (fun _ _ => rfl)) (px_un un_negD (px_var (pv 3))) (fun _ _ => rfl)))
  (psx_one (psx_ret (px_of_f (pxf_lc (own := [("number", 9), ("column", 10)]) rfl sc_helping_columns.nd (pxi_enum (by rfl) T.n_enumerate (pxa_d (px_var (pv 4)) pxa_nil)) (blkOk_by (own := [("number", 9), ("column", 10)]) (N := N_helping_columns) (sc := defScope s_helping_columns) (by decide +kernel)) (fun _ _ _ _ _ => (pxg_tup rfl (pxgs_cons (pxg_nm (pg_name (i := 9) sc_helping_columns.nd rfl (.inl rfl))) (pxgs_cons (pxg_nm (pg_name (i := 10) sc_helping_columns.nd rfl (.inl rfl))) pxgs_nil)))) (fun _ _ _ _ _ => (pxts_one (pxw_t (pxw_and (pxt_truth (px_var (pv 10))) (pxw_and (pxt_cmp (op_niDD hr.u65) (px_var (pv 9)) (px_tup (pxa_d (px_var (pv 6)) (pxa_d (px_var (pv 7)) pxa_nil))) (by rfl)) (pxw_and1 (pxt_truth (px_fn G_goes_on (hr.mono (by decide)) (by rfl) T.m_goes_on T.F_goes_on.kp T.b_goes_on (pxa_d (px_var (pv 0)) (pxa_d (px_var (pv 5)) (pxa_d (px_ix (px_var (pv 10)) (px_un un_negD px_int) (fun _ _ => rfl)) pxa_nil))) (xaD_len (xaD_len (xaD_len (fun _ _ _ _ h => xaNil_len h)))))))))))) (fun _ _ _ _ _ => (px_var (pv 9))) (by decide))))))))
theorem ok_kind_beside (T : Tx K w mg) : FnG P w K mg base 1 T.f_kind_beside T.d_kind_beside 2 ["position", "supermove"] (spM K 2 m_kind_beside) :=
  fn_m T.F_kind_beside sc_kind_beside fun W cdv A outer s H E hr =>
  (psx_cons (psx_asg (px_var (pv 1)) (pxg_tup rfl (pxgs_cons (pxg_nm (pg_name (i := 2) sc_kind_beside.nd rfl (.inl rfl))) (pxgs_cons (pxg_nm (pg_name (i := 3) sc_kind_beside.nd rfl (.inl rfl))) (pxgs_cons (pxg_nm (pg_name (i := 4) sc_kind_beside.nd rfl (.inl rfl))) pxgs_nil)))))
  (psx_cons (psx_if (pxt_not (pxt_truth (px_ix (px_ix (px_var (pv 0)) px_int (fun _ _ => rfl)) (px_var (pv 3)) (fun _ _ => rfl))))
  (psx_one (psx_ret px_str))
  psx_nil)
  (psx_one (psx_ret (px_if (pxt_cmp (op_eqDD hr.u64) (px_bi (c_len) (by rfl) T.n_len bt_len (pxa_d (px_ix (px_ix (px_var (pv 0)) px_int (fun _ _ => rfl)) (px_var (pv 2)) (fun _ _ => rfl)) pxa_nil)) (px_var (pv 4)) (nomark _)) px_str px_str)))))
theorem ok_room_beside (T : Tx K w mg) (G_numbers_free : FnG P w K mg base 1 T.f_numbers_free T.d_numbers_free 1 ["position"] (spM K 1 m_numbers_free)) (G_helping_columns : FnG P w K mg base 2 T.f_helping_columns T.d_helping_columns 4 ["rules", "position", "supermove", "card"] (spM K 4 m_helping_columns)) (G_kind_beside : FnG P w K mg base 1 T.f_kind_beside T.d_kind_beside 2 ["position", "supermove"] (spM K 2 m_kind_beside)) : FnG P w K mg base 3 T.f_room_beside T.d_room_beside 3 ["rules", "position", "supermove"] (spS K 3 m_room_beside) :=
  fn_s T.F_room_beside sc_room_beside fun W cdv A outer s H E hr =>
  (psx_cons (psx_asg (px_fn G_numbers_free (hr.mono (by decide)) (by rfl) T.m_numbers_free T.F_numbers_free.kp T.b_numbers_free (pxa_d (px_var (pv 1)) pxa_nil) (xaD_len (fun _ _ _ _ h => xaNil_len h))) (pxg_tup rfl (pxgs_cons (pxg_nm (pg_name (i := 4) sc_room_beside.nd rfl (.inl rfl))) (pxgs_cons (pxg_nm (pg_name (i := 5) sc_room_beside.nd rfl (.inl rfl))) pxgs_nil))))
  (psx_cons (psx_ownLc (ps_lcF (own := [("card", 6)]) (by decide) (ps_setLc (i := 3) (own := [("card", 6)]) rfl sc_room_beside.nd rfl rfl (sw_true rfl rfl rfl (by decide +kernel)) (pxi_range2 (by rfl) T.n_range (pxa_d px_int (pxa_d (px_ix (px_var (pv 2)) px_int (fun _ _ => rfl)) pxa_nil)) (h1 := (xaD_len (xaD_len (fun _ _ _ _ h => xaNil_len h))))) (blkOk_by (own := [("card", 6)]) (N := N_room_beside) (sc := defScope s_room_beside) (by decide +kernel)) (fun _ _ _ _ _ => (pxg_nm (pg_name (i := 6) sc_room_beside.nd rfl (.inl rfl)))) (fun _ _ _ _ _ => (pxts_one (pxt_truth (px_fn G_helping_columns (hr.mono (by decide)) (by rfl) T.m_helping_columns T.F_helping_columns.kp T.b_helping_columns (pxa_d (px_var (pv 0)) (pxa_d (px_var (pv 1)) (pxa_d (px_var (pv 2)) (pxa_d (px_var (pv 6)) pxa_nil)))) (xaD_len (xaD_len (xaD_len (xaD_len (fun _ _ _ _ h => xaNil_len h))))))))) (fun _ _ _ _ _ => (px_var (pv 6))))))
  (psx_one (psx_retS (pxs_tup (pxas_s (pxs_r (pxv_d (px_fn G_kind_beside (hr.mono (by decide)) (by rfl) T.m_kind_beside T.F_kind_beside.kp T.b_kind_beside (pxa_d (px_var (pv 1)) (pxa_d (px_var (pv 2)) pxa_nil)) (xaD_len (xaD_len (fun _ _ _ _ h => xaNil_len h)))))) (pxas_s (pxs_tup (pxas_s (pxs_r (pxv_d (px_bi (c_len) (by rfl) T.n_len bt_len (pxa_d (px_var (pv 4)) pxa_nil)))) (pxas_s (pxs_r (pxv_d (px_bi (c_len) (by rfl) T.n_len bt_len (pxa_d (px_var (pv 5)) pxa_nil)))) (pxas_s (pxs_r (pxv_var (pv 3))) (pxas_of pxa_nil))))) (pxas_of pxa_nil))))))))
theorem ok_room_of (T : Tx K w mg) (G_check_sensible : FnG P w K mg base 9 T.f_check_sensible T.d_check_sensible 3 ["rules", "position", "supermove"] (spM K 3 m_check_sensible)) (G_room_beside : FnG P w K mg base 3 T.f_room_beside T.d_room_beside 3 ["rules", "position", "supermove"] (spS K 3 m_room_beside)) : FnG P w K mg base 10 T.f_room_of T.d_room_of 3 ["rules", "position", "supermove"] (spS K 3 m_room_of) :=
  fn_s T.F_room_of sc_room_of fun W cdv A outer s H E hr =>
  (psx_cons (psx_expr (px_fn G_check_sensible (hr.mono (by decide)) (by rfl) T.m_check_sensible T.F_check_sensible.kp T.b_check_sensible (pxa_d (px_var (pv 0)) (pxa_d (px_var (pv 1)) (pxa_d (px_var (pv 2)) pxa_nil))) (xaD_len (xaD_len (xaD_len (fun _ _ _ _ h => xaNil_len h))))))
  (psx_one (psx_retS (pxs_fn G_room_beside (hr.mono (by decide)) (by rfl) T.m_room_beside T.F_room_beside.kp T.b_room_beside (pxas_s (pxs_r (pxv_d (px_var (pv 0)))) (pxas_s (pxs_r (pxv_d (px_var (pv 1)))) (pxas_s (pxs_r (pxv_d (px_var (pv 2)))) (pxas_of pxa_nil)))) (xaS_len (xaS_len (xaS_len (fun _ _ _ _ h => xaNil_len h))))))))
theorem ok_law_cell (T : Tx K w mg) : FnG P w K mg base 1 T.f_law_cell T.d_law_cell 2 ["script", "index"] (spM K 2 m_law_cell) :=
  fn_m T.F_law_cell sc_law_cell fun W cdv A outer s H E hr =>
  (psx_cons (psx_if (pxt_cmp op_ltD (px_var (pv 1)) (px_bi (c_len) (by rfl) T.n_len bt_len (pxa_d (px_var (pv 0)) pxa_nil)) (nomark _))
  (psx_one (psx_ret (px_ix (px_var (pv 0)) (px_var (pv 1)) (fun _ _ => rfl))))
  psx_nil)
  (psx_one (psx_ret (px_op op_modD (px_bi (c_sum rfl) (by rfl) T.n_sum bt_sum (pxa_d (px_of_f (pxf_slice (px_var (pv 0)) pxo_none (pxo_some px_int))) pxa_nil)) px_int))))
theorem ok_law_hash (T : Tx K w mg) : FnG P w K mg base 1 T.f_law_hash T.d_law_hash 2 ["seed", "index"] (spM K 2 m_law_hash) :=
  fn_m T.F_law_hash sc_law_hash fun W cdv A outer s H E hr =>
  (psx_cons (psx_set (i := 2) sc_law_hash.nd rfl (.inl rfl) (px_op op_modD (px_ty (c_int) (by rfl) T.n_int bt_int (pxa_d (px_op op_addD (px_op op_addD (px_op op_addD (px_op op_mulD (px_var (pv 0)) px_int) (px_op op_mulD (px_op op_mulD px_int (px_var (pv 1))) (px_var (pv 1)))) (px_op op_mulD px_int (px_var (pv 1)))) px_int) pxa_nil)) px_int))
  (psx_cons (psx_set (i := 2) sc_law_hash.nd rfl (.inl rfl) (px_op op_modD (px_ty (c_int) (by rfl) T.n_int bt_int (pxa_d (px_op op_addD (px_op op_addD (px_op op_mulD (px_var (pv 2)) (px_var (pv 2))) (px_op op_mulD px_int (px_var (pv 1)))) px_int) pxa_nil)) px_int))
  (psx_one (psx_ret (px_op op_modD (px_ty (c_int) (by rfl) T.n_int bt_int (pxa_d (px_op op_mulD (px_var (pv 2)) px_int) pxa_nil)) px_int)))))
theorem ok_law_generator (T : Tx K w mg) (G_law_cell : FnG P w K mg base 1 T.f_law_cell T.d_law_cell 2 ["script", "index"] (spM K 2 m_law_cell)) : FnG P w K mg base 2 T.f_law_generator T.d_law_generator 2 ["script", "index"] (spF K 2 m_law_generator) :=
  fn_f T.F_law_generator sc_law_generator fun n0 W cdv A outer s H E hr =>
  (psx_cons (psx_set (i := 2) sc_law_generator.nd rfl (.inl rfl) (px_fn G_law_cell (hr.mono (by decide)) (by rfl) T.m_law_cell T.F_law_cell.kp T.b_law_cell (pxa_d (px_var (pv 0)) (pxa_d (px_var (pv 1)) pxa_nil)) (xaD_len (xaD_len (fun _ _ _ _ h => xaNil_len h)))))
  (psx_one (psx_retF (pxf_lst (pxa_d (px_op op_modD (px_ty (c_int) (by rfl) T.n_int bt_int (pxa_d (px_bi (c_max rfl) (by rfl) T.n_max bt_max (pxa_d (px_op op_subD (px_var (pv 2)) (px_op op_powD px_int px_int)) (pxa_d px_int pxa_nil))) pxa_nil)) (px_op op_powD (px_op op_powD px_int px_int) px_int)) (pxa_d (px_op op_modD (px_ty (c_int) (by rfl) T.n_int bt_int (pxa_d (px_var (pv 2)) pxa_nil)) px_int) (pxa_d (px_op op_mulD px_int (px_var (pv 1))) pxa_nil)))))))
theorem ok_law_random (T : Tx K w mg) (G_law_hash : FnG P w K mg base 1 T.f_law_hash T.d_law_hash 2 ["seed", "index"] (spM K 2 m_law_hash)) : FnG P w K mg base 2 T.f_law_random T.d_law_random 2 ["generator", "limit"] (spM K 2 m_law_random) :=
  fn_m T.F_law_random sc_law_random fun W cdv A outer s H E hr =>
  (psx_cons (psx_if (pxt_cmp op_gtD (px_ixO (pe_ix ix_list (pv 0) px_int (fun _ _ => rfl))) px_int (nomark _))
  (psx_cons (psx_set (i := 2) sc_law_random.nd rfl (.inl rfl) (px_op op_modD (px_ty (c_int) (by rfl) T.n_int bt_int (pxa_d (px_ixO (pe_ix ix_list (pv 0) px_int (fun _ _ => rfl))) pxa_nil)) (px_var (pv 1))))
  (psx_cons (psx_setItem (ps_asg (px_op op_fdivD (px_ixO (pe_ix ix_list (pv 0) px_int (fun _ _ => rfl))) (px_var (pv 1))) (pg_sub (pv 0) px_int set_list)))
  (psx_one (psx_ret (px_var (pv 2))))))
  psx_nil)
  (psx_cons (psx_set (i := 2) sc_law_random.nd rfl (.inl rfl) px_int)
  (psx_cons (psx_for PassesOwn.never rfl (pxi_range1 (by rfl) T.n_range (pxa_d (px_op op_addD px_int (px_op op_fdivD (px_bits (pe_bits (px_var (pv 1)))) px_int)) pxa_nil) (h1 := (xaD_len (fun _ _ _ _ h => xaNil_len h)))) (pxg_nm (pg_name (i := 3) sc_law_random.nd rfl (.inl rfl)))
  (psx_cons (psx_setItem (ps_asg (px_op op_addD (px_ixO (pe_ix ix_list (pv 0) px_int (fun _ _ => rfl))) px_int) (pg_sub (pv 0) px_int set_list)))
  (psx_one (psx_set (i := 2) sc_law_random.nd rfl (.inl rfl) (px_op op_addD (px_op op_mulD (px_var (pv 2)) px_int) (px_fn G_law_hash (hr.mono (by decide)) (by rfl) T.m_law_hash T.F_law_hash.kp T.b_law_hash (pxa_d (px_ixO (pe_ix ix_list (pv 0) px_int (fun _ _ => rfl))) (pxa_d (px_ixO (pe_ix ix_list (pv 0) px_int (fun _ _ => rfl))) pxa_nil)) (xaD_len (xaD_len (fun _ _ _ _ h => xaNil_len h)))))))))
  (psx_one (psx_ret (px_op op_modD (px_ty (c_int) (by rfl) T.n_int bt_int (pxa_d (px_var (pv 2)) pxa_nil)) (px_var (pv 1))))))))
theorem ok_law_rules (T : Tx K w mg) (G_law_random : FnG P w K mg base 2 T.f_law_random T.d_law_random 2 ["generator", "limit"] (spM K 2 m_law_random)) : FnG P w K mg base 3 T.f_law_rules T.d_law_rules 1 ["generator"] (spM K 1 m_law_rules) :=
  fn_m T.F_law_rules sc_law_rules fun W cdv A outer s H E hr =>
  (psx_one (psx_ret (px_tup (pxa_d (px_op op_addD px_int (px_fn G_law_random (hr.mono (by decide)) (by rfl) T.m_law_random T.F_law_random.kp T.b_law_random (pxa_o (pv 0) (pxa_d px_int pxa_nil)) (xaO_len (xaD_len (fun _ _ _ _ h => xaNil_len h))))) (pxa_d (px_op op_addD px_int (px_fn G_law_random (hr.mono (by decide)) (by rfl) T.m_law_random T.F_law_random.kp T.b_law_random (pxa_o (pv 0) (pxa_d px_int pxa_nil)) (xaO_len (xaD_len (fun _ _ _ _ h => xaNil_len h))))) (pxa_d (px_ix (px_lst (pxa_d px_str (pxa_d px_str (pxa_d px_str pxa_nil)))) (px_fn G_law_random (hr.mono (by decide)) (by rfl) T.m_law_random T.F_law_random.kp T.b_law_random (pxa_o (pv 0) (pxa_d px_int pxa_nil)) (xaO_len (xaD_len (fun _ _ _ _ h => xaNil_len h)))) (fun _ _ => rfl)) pxa_nil))))))
theorem ok_law_lies (T : Tx K w mg) : FnG P w K mg base 1 T.f_law_lies T.d_law_lies 3 ["rules", "card", "other"] (spM K 3 m_law_lies) :=
  fn_m T.F_law_lies sc_law_lies fun W cdv A outer s H E hr =>
  (psx_cons (psx_if (pxt_cmp (op_neDD hr.u64) (px_op op_addD (px_ix (px_var (pv 1)) px_int (fun _ _ => rfl)) px_int) (px_ix (px_var (pv 2)) px_int (fun _ _ => rfl)) (nomark _))
  (psx_one (psx_ret px_bl))
  psx_nil)
  (psx_cons (psx_if (pxt_cmp (op_eqDD hr.u64) (px_ix (px_var (pv 0)) px_int (fun _ _ => rfl)) px_str (nomark _))
  (psx_one (psx_ret (px_cmp (op_eqDD hr.u64) (px_ix (px_var (pv 1)) px_int (fun _ _ => rfl)) (px_ix (px_var (pv 2)) px_int (fun _ _ => rfl)) (nomark _))))
  psx_nil)
  (psx_one (psx_ret (px_or (px_cmp (op_eqDD hr.u64) (px_ix (px_var (pv 0)) px_int (fun _ _ => rfl)) px_str (nomark _)) (px_one (px_cmp (op_eqDD hr.u64) (px_op op_modD (px_ty (c_int) (by rfl) T.n_int bt_int (pxa_d (px_op op_addD (px_ix (px_var (pv 1)) px_int (fun _ _ => rfl)) (px_ix (px_var (pv 2)) px_int (fun _ _ => rfl))) pxa_nil)) px_int) px_int (nomark _))))))))
theorem ok_law_position (T : Tx K w mg) (G_law_random : FnG P w K mg base 2 T.f_law_random T.d_law_random 2 ["generator", "limit"] (spM K 2 m_law_random)) (G_law_lies : FnG P w K mg base 1 T.f_law_lies T.d_law_lies 3 ["rules", "card", "other"] (spM K 3 m_law_lies)) : FnG P w K mg base 3 T.f_law_position T.d_law_position 2 ["generator", "rules"] (spS K 2 m_law_position) :=
  fn_s T.F_law_position sc_law_position fun W cdv A outer s H E hr =>
  (psx_cons (psx_setLc (ps_lcF (own := [("suit", 8)]) (by decide) (ps_setLc (i := 2) (own := [("suit", 8)]) rfl sc_law_position.nd rfl rfl (sw_true rfl rfl rfl (by decide +kernel)) (pxi_range1 (by rfl) T.n_range (pxa_d (px_ix (px_var (pv 1)) px_int (fun _ _ => rfl)) pxa_nil) (h1 := (xaD_len (fun _ _ _ _ h => xaNil_len h)))) (blkOk_by (own := [("suit", 8)]) (N := N_law_position) (sc := defScope s_law_position) (by decide +kernel)) (fun _ _ _ _ _ => (pxg_nm (pg_name (i := 8) sc_law_position.nd rfl (.inl rfl)))) (fun _ _ _ _ _ => pxts_nil) (fun _ _ _ _ _ => (px_if (pxt_cmp (op_eqDD hr.u64) (px_fn G_law_random (hr.mono (by decide)) (by rfl) T.m_law_random T.F_law_random.kp T.b_law_random (pxa_o (pv 0) (pxa_d px_int pxa_nil)) (xaO_len (xaD_len (fun _ _ _ _ h => xaNil_len h)))) px_int (nomark _)) (px_fn G_law_random (hr.mono (by decide)) (by rfl) T.m_law_random T.F_law_random.kp T.b_law_random (pxa_o (pv 0) (pxa_d px_int pxa_nil)) (xaO_len (xaD_len (fun _ _ _ _ h => xaNil_len h)))) px_int)))))
  (psx_cons (psx_own (i := 3) sc_law_position.nd rfl (.inl rfl) (pxf_rep (pxf_lst (pxa_d px_non pxa_nil)) (px_fn G_law_random (hr.mono (by decide)) (by rfl) T.m_law_random T.F_law_random.kp T.b_law_random (pxa_o (pv 0) (pxa_d px_int pxa_nil)) (xaO_len (xaD_len (fun _ _ _ _ h => xaNil_len h))))))
  (psx_cons (psx_tup2 (ps_par (i := 6) (j := 7) rfl sc_law_position.nd rfl rfl (by decide) rfl rfl (pxas_s (pxs_lcS (own := [("turn", 11)]) rfl sc_law_position.nd (pxi_range1 (by rfl) T.n_range (pxa_d (px_op op_addD px_int (px_fn G_law_random (hr.mono (by decide)) (by rfl) T.m_law_random T.F_law_random.kp T.b_law_random (pxa_o (pv 0) (pxa_d px_int pxa_nil)) (xaO_len (xaD_len (fun _ _ _ _ h => xaNil_len h))))) pxa_nil) (h1 := (xaD_len (fun _ _ _ _ h => xaNil_len h)))) (blkOk_by (own := [("turn", 11)]) (N := N_law_position) (sc := defScope s_law_position) (by decide +kernel)) (fun _ _ _ _ _ => (pxg_nm (pg_name (i := 11) sc_law_position.nd rfl (.inl rfl)))) (fun _ _ _ _ _ => (pxs_own (pxf_lst pxa_nil))) (by decide)) (pxas_s (pxs_own (pxf_lst pxa_nil)) (pxas_of pxa_nil))) (by rfl)))
  (psx_cons (psx_for PassesOwn.never rfl (pxi_range3 (by rfl) T.n_range (pxa_d (px_ix (px_var (pv 1)) px_int (fun _ _ => rfl)) (pxa_d px_int (pxa_d (px_un un_negD px_int) pxa_nil)))) (pxg_nm (pg_name (i := 4) sc_law_position.nd rfl (.inl rfl)))
  (psx_one (psx_for PassesOwn.never rfl (pxi_range1 (by rfl) T.n_range (pxa_d (px_ix (px_var (pv 1)) px_int (fun _ _ => rfl)) pxa_nil) (h1 := (xaD_len (fun _ _ _ _ h => xaNil_len h)))) (pxg_nm (pg_name (i := 8) sc_law_position.nd rfl (.inl rfl)))
  (psx_one (psx_if (pxt_cmp op_gtD (px_var (pv 4)) (px_ix (px_var (pv 2)) (px_var (pv 8)) (fun _ _ => rfl)) (nomark _))
  (psx_one (psx_ins (ps_expr (pe_bm PySem.F.plainAttrs_list PySem.F.slot_list_insert PySem.F.type_list_insert mt_insert (pv 7) (pa_cons (px_if (pxt_cmp op_gtD (px_fn G_law_random (hr.mono (by decide)) (by rfl) T.m_law_random T.F_law_random.kp T.b_law_random (pxa_o (pv 0) (pxa_d px_int pxa_nil)) (xaO_len (xaD_len (fun _ _ _ _ h => xaNil_len h)))) px_int (nomark _)) (px_lenO (pe_callB call_len_seq (by rfl) T.n_len bt_len (pa_cons (pv 7) pa_nil))) (px_fn G_law_random (hr.mono (by decide)) (by rfl) T.m_law_random T.F_law_random.kp T.b_law_random (pxa_o (pv 0) (pxa_d (px_op op_addD (px_lenO (pe_callB call_len_seq (by rfl) T.n_len bt_len (pa_cons (pv 7) pa_nil))) px_int) pxa_nil)) (xaO_len (xaD_len (fun _ _ _ _ h => xaNil_len h))))) (pa_cons (px_tup (pxa_d (px_var (pv 4)) (pxa_d (px_var (pv 8)) pxa_nil))) pa_nil))))))
  psx_nil)))))
  (psx_cons (psx_forL PassesOwn.never rfl (pxv_var (pv 7)) (pgl_nm (pg_name (i := 5) sc_law_position.nd rfl (.inr rfl)))
  (psx_cons (psx_setLc (ps_viewF (ps_lcF (own := [("at", 12), ("column", 13)]) (by decide) (ps_setLc (i := 9) (own := [("at", 12), ("column", 13)]) rfl sc_law_position.nd rfl rfl (sw_true rfl rfl rfl (by decide +kernel)) (pxi_enum (by rfl) T.n_enumerate (pxa_d (px_var (pv 6)) pxa_nil)) (blkOk_by (own := [("at", 12), ("column", 13)]) (N := N_law_position) (sc := defScope s_law_position) (by decide +kernel)) (fun _ _ _ _ _ => (pxg_tup rfl (pxgs_cons (pxg_nm (pg_name (i := 12) sc_law_position.nd rfl (.inl rfl))) (pxgs_cons (pxg_nm (pg_name (i := 13) sc_law_position.nd rfl (.inl rfl))) pxgs_nil)))) (fun _ _ _ _ _ => (pxts_one (pxw_t (pxw_and (pxt_cmp (op_neDD hr.u64) (px_var (pv 13)) (px_lst pxa_nil) (nomark _)) (pxw_and1 (pxt_truth (px_fn G_law_lies (hr.mono (by decide)) (by rfl) T.m_law_lies T.F_law_lies.kp T.b_law_lies (pxa_d (px_var (pv 1)) (pxa_d (px_var (pv 5)) (pxa_d (px_ix (px_var (pv 13)) (px_un un_negD px_int) (fun _ _ => rfl)) pxa_nil))) (xaD_len (xaD_len (xaD_len (fun _ _ _ _ h => xaNil_len h))))))))))) (fun _ _ _ _ _ => (px_var (pv 12)))))))
  (psx_cons (psx_setLc (ps_viewF (ps_lcF (own := [("at", 12), ("other", 14)]) (by decide) (ps_setLc (i := 10) (own := [("at", 12), ("other", 14)]) rfl sc_law_position.nd rfl rfl (sw_true rfl rfl rfl (by decide +kernel)) (pxi_enum (by rfl) T.n_enumerate (pxa_d (px_var (pv 3)) pxa_nil)) (blkOk_by (own := [("at", 12), ("other", 14)]) (N := N_law_position) (sc := defScope s_law_position) (by decide +kernel)) (fun _ _ _ _ _ => (pxg_tup rfl (pxgs_cons (pxg_nm (pg_name (i := 12) sc_law_position.nd rfl (.inl rfl))) (pxgs_cons (pxg_nm (pg_name (i := 14) sc_law_position.nd rfl (.inl rfl))) pxgs_nil)))) (fun _ _ _ _ _ => (pxts_one (pxt_cmp op_isD (px_var (pv 14)) px_non (nomark _)))) (fun _ _ _ _ _ => (px_var (pv 12)))))))
  (psx_one (psx_if (pxw_t (pxw_and (pxt_cmp (op_neDD hr.u64) (px_var (pv 10)) (px_lst pxa_nil) (nomark _)) (pxw_and1 (pxt_cmp (op_eqDD hr.u64) (px_fn G_law_random (hr.mono (by decide)) (by rfl) T.m_law_random T.F_law_random.kp T.b_law_random (pxa_o (pv 0) (pxa_d px_int pxa_nil)) (xaO_len (xaD_len (fun _ _ _ _ h => xaNil_len h)))) px_int (nomark _)))))
  (psx_one (psx_setItem (ps_asg (px_var (pv 5)) (pg_sub (pv 3) (px_ix (px_var (pv 10)) (px_fn G_law_random (hr.mono (by decide)) (by rfl) T.m_law_random T.F_law_random.kp T.b_law_random (pxa_o (pv 0) (pxa_d (px_bi (c_len) (by rfl) T.n_len bt_len (pxa_d (px_var (pv 10)) pxa_nil)) pxa_nil)) (xaO_len (xaD_len (fun _ _ _ _ h => xaNil_len h)))) (fun _ _ => rfl)) set_list))))
  (psx_one (psx_if (pxw_t (pxw_and (pxt_cmp (op_neDD hr.u64) (px_var (pv 9)) (px_lst pxa_nil) (nomark _)) (pxw_and1 (pxt_cmp op_gtD (px_fn G_law_random (hr.mono (by decide)) (by rfl) T.m_law_random T.F_law_random.kp T.b_law_random (pxa_o (pv 0) (pxa_d px_int pxa_nil)) (xaO_len (xaD_len (fun _ _ _ _ h => xaNil_len h)))) px_int (nomark _)))))
  (psx_one (psx_appV (ps_expr (pe_bm PySem.F.plainAttrs_list PySem.F.slot_list_append PySem.F.type_list_append mt_append (pxv_ix (pxv_var (pv 6)) (px_ix (px_var (pv 9)) (px_fn G_law_random (hr.mono (by decide)) (by rfl) T.m_law_random T.F_law_random.kp T.b_law_random (pxa_o (pv 0) (pxa_d (px_bi (c_len) (by rfl) T.n_len bt_len (pxa_d (px_var (pv 9)) pxa_nil)) pxa_nil)) (xaO_len (xaD_len (fun _ _ _ _ h => xaNil_len h)))) (fun _ _ => rfl)) (fun _ _ => rfl)) (pa_cons (pxs_r (pxv_d (px_var (pv 5)))) pa_nil)))))
  (psx_one (psx_appV (ps_expr (pe_bm PySem.F.plainAttrs_list PySem.F.slot_list_append PySem.F.type_list_append mt_append (pxv_ix (pxv_var (pv 6)) (px_fn G_law_random (hr.mono (by decide)) (by rfl) T.m_law_random T.F_law_random.kp T.b_law_random (pxa_o (pv 0) (pxa_d (px_op op_subD (px_lenV (by rfl) T.n_len (pxv_var (pv 6))) (px_fn G_law_random (hr.mono (by decide)) (by rfl) T.m_law_random T.F_law_random.kp T.b_law_random (pxa_o (pv 0) (pxa_d px_int pxa_nil)) (xaO_len (xaD_len (fun _ _ _ _ h => xaNil_len h))))) pxa_nil)) (xaO_len (xaD_len (fun _ _ _ _ h => xaNil_len h)))) (fun _ _ => rfl)) (pa_cons (pxs_r (pxv_d (px_var (pv 5)))) pa_nil))))))))))))
  (psx_one (psx_retS (pxs_tup (pxas_s (pxs_r (pxv_var (pv 6))) (pxas_s (pxs_r (pxv_var (pv 3))) (pxas_s (pxs_r (pxv_d (px_var (pv 2)))) (pxas_of pxa_nil))))))))))))
theorem ok_law_run (T : Tx K w mg) (G_law_lies : FnG P w K mg base 1 T.f_law_lies T.d_law_lies 3 ["rules", "card", "other"] (spM K 3 m_law_lies)) : FnG P w K mg base 2 T.f_law_run T.d_law_run 2 ["rules", "column"] (spM K 2 m_law_run) :=
  fn_m T.F_law_run sc_law_run fun W cdv A outer s H E hr =>
  (psx_cons (psx_set (i := 2) sc_law_run.nd rfl (.inl rfl) (px_ty (c_int) (by rfl) T.n_int bt_int (pxa_d (px_cmp (op_neDD hr.u64) (px_var (pv 1)) (px_lst pxa_nil) (nomark _)) pxa_nil)))
  (psx_cons (psx_while PassesOwn.never (pxw_t (pxw_and (pxt_chain op_ltD op_ltD px_int (px_var (pv 2)) (px_bi (c_len) (by rfl) T.n_len bt_len (pxa_d (px_var (pv 1)) pxa_nil))) (pxw_and1 (pxt_truth (px_fn G_law_lies (hr.mono (by decide)) (by rfl) T.m_law_lies T.F_law_lies.kp T.b_law_lies (pxa_d (px_var (pv 0)) (pxa_d (px_ix (px_var (pv 1)) (px_un un_negD (px_var (pv 2))) (fun _ _ => rfl)) (pxa_d (px_ix (px_var (pv 1)) (px_op op_subD (px_un un_negD (px_var (pv 2))) px_int) (fun _ _ => rfl)) pxa_nil))) (xaD_len (xaD_len (xaD_len (fun _ _ _ _ h => xaNil_len h)))))))))
  (psx_one (psx_set (i := 2) sc_law_run.nd rfl (.inl rfl) (px_op op_addD (px_var (pv 2)) px_int))))
  (psx_one (psx_ret (px_var (pv 2))))))
theorem ok_law_supermoves (T : Tx K w mg) (G_law_run : FnG P w K mg base 2 T.f_law_run T.d_law_run 2 ["rules", "column"] (spM K 2 m_law_run)) : FnG P w K mg base 3 T.f_law_supermoves T.d_law_supermoves 2 ["rules", "position"] (spM K 2 m_law_supermoves) :=
  fn_m T.F_law_supermoves sc_law_supermoves fun W cdv A outer s H E hr =>
  (psx_cons (psx_set (i := 2) sc_law_supermoves.nd rfl (.inl rfl) (px_lst pxa_nil))
  (psx_cons (psx_for PassesOwn.never rfl (pxi_enum (by rfl) T.n_enumerate (pxa_d (px_ix (px_var (pv 1)) px_int (fun _ _ => rfl)) pxa_nil)) (pxg_tup rfl (pxgs_cons (pxg_nm (pg_name (i := 3) sc_law_supermoves.nd rfl (.inr rfl))) (pxgs_cons (pxg_nm (pg_name (i := 4) sc_law_supermoves.nd rfl (.inl rfl))) pxgs_nil)))
  (psx_one (psx_for PassesOwn.never rfl (pxi_range1 (by rfl) T.n_range (pxa_d (px_bi (c_len) (by rfl) T.n_len bt_len (pxa_d (px_ix (px_var (pv 1)) px_int (fun _ _ => rfl)) pxa_nil)) pxa_nil) (h1 := (xaD_len (fun _ _ _ _ h => xaNil_len h)))) (pxg_nm (pg_name (i := 5) sc_law_supermoves.nd rfl (.inr rfl)))
  (psx_one (psx_if (pxt_cmp (op_neDD hr.u64) (px_var (pv 5)) (px_var (pv 3)) (nomark _))
  (psx_one (psx_set (i := 2) sc_law_supermoves.nd rfl (.inl rfl) (px_op op_addD (px_var (pv 2)) (px_of_f (pxf_lc (own := [("many", 6)]) rfl sc_law_supermoves.nd (pxi_range2 (by rfl) T.n_range (pxa_d px_int (pxa_d (px_op op_addD (px_fn G_law_run (hr.mono (by decide)) (by rfl) T.m_law_run T.F_law_run.kp T.b_law_run (pxa_d (px_var (pv 0)) (pxa_d (px_var (pv 4)) pxa_nil)) (xaD_len (xaD_len (fun _ _ _ _ h => xaNil_len h)))) px_int) pxa_nil)) (h1 := (xaD_len (xaD_len (fun _ _ _ _ h => xaNil_len h))))) (blkOk_by (own := [("many", 6)]) (N := N_law_supermoves) (sc := defScope s_law_supermoves) (by decide +kernel)) (fun _ _ _ _ _ => (pxg_nm (pg_name (i := 6) sc_law_supermoves.nd rfl (.inl rfl)))) (fun _ _ _ _ _ => pxts_nil) (fun _ _ _ _ _ => (px_tup (pxa_d (px_var (pv 3)) (pxa_d (px_var (pv 5)) (pxa_d (px_var (pv 6)) pxa_nil))))) (by decide))))))
  psx_nil)))))
  (psx_one (psx_ret (px_var (pv 2))))))
theorem ok_law_sensible (T : Tx K w mg) (G_law_lies : FnG P w K mg base 1 T.f_law_lies T.d_law_lies 3 ["rules", "card", "other"] (spM K 3 m_law_lies)) : FnG P w K mg base 2 T.f_law_sensible T.d_law_sensible 3 ["rules", "position", "supermove"] (spM K 3 m_law_sensible) :=
  fn_m T.F_law_sensible sc_law_sensible fun W cdv A outer s H E hr =>
  (psx_cons (psx_asg (px_var (pv 2)) (pxg_tup rfl (pxgs_cons (pxg_nm (pg_name (i := 3) sc_law_sensible.nd rfl (.inl rfl))) (pxgs_cons (pxg_nm (pg_name (i := 4) sc_law_sensible.nd rfl (.inl rfl))) (pxgs_cons (pxg_nm (pg_name (i := 5) sc_law_sensible.nd rfl (.inl rfl))) pxgs_nil)))))
  (psx_cons (psx_par (ps_par (i := 6) (j := 7) rfl sc_law_sensible.nd rfl rfl (by decide) rfl rfl (pa_cons (px_ix (px_ix (px_var (pv 1)) px_int (fun _ _ => rfl)) (px_var (pv 3)) (fun _ _ => rfl)) (pa_cons (px_ix (px_ix (px_var (pv 1)) px_int (fun _ _ => rfl)) (px_var (pv 4)) (fun _ _ => rfl)) pa_nil)) (by rfl)))
  (psx_one (psx_ret (px_if (pxt_cmp (op_eqDD hr.u64) (px_var (pv 7)) (px_lst pxa_nil) (nomark _)) (px_cmp op_ltD (px_var (pv 5)) (px_bi (c_len) (by rfl) T.n_len bt_len (pxa_d (px_var (pv 6)) pxa_nil)) (nomark _)) (px_fn G_law_lies (hr.mono (by decide)) (by rfl) T.m_law_lies T.F_law_lies.kp T.b_law_lies (pxa_d (px_var (pv 0)) (pxa_d (px_ix (px_var (pv 6)) (px_un un_negD (px_var (pv 5))) (fun _ _ => rfl)) (pxa_d (px_ix (px_var (pv 7)) (px_un un_negD px_int) (fun _ _ => rfl)) pxa_nil))) (xaD_len (xaD_len (xaD_len (fun _ _ _ _ h => xaNil_len h))))))))))
theorem ok_law_room_of (T : Tx K w mg) (G_law_lies : FnG P w K mg base 1 T.f_law_lies T.d_law_lies 3 ["rules", "card", "other"] (spM K 3 m_law_lies)) : FnG P w K mg base 2 T.f_law_room_of T.d_law_room_of 3 ["rules", "position", "supermove"] (spM K 3 m_law_room_of) :=
  fn_m T.F_law_room_of sc_law_room_of fun W cdv A outer s H E hr =>
  (psx_cons (psx_asg (px_var (pv 2)) (pxg_tup rfl (pxgs_cons (pxg_nm (pg_name (i := 5) sc_law_room_of.nd rfl (.inl rfl))) (pxgs_cons (pxg_nm (pg_name (i := 6) sc_law_room_of.nd rfl (.inl rfl))) (pxgs_cons (pxg_nm (pg_name (i := 7) sc_law_room_of.nd rfl (.inl rfl))) pxgs_nil)))))
  (psx_cons (psx_tup2 (ps_par (i := 8) (j := 9) rfl sc_law_room_of.nd rfl rfl (by decide) rfl rfl (pxas_s (pxs_r (pxv_d (px_ix (px_ix (px_var (pv 1)) px_int (fun _ _ => rfl)) (px_var (pv 5)) (fun _ _ => rfl)))) (pxas_s (pxs_own (pxf_lst pxa_nil)) (pxas_of pxa_nil))) (by rfl)))
  (psx_cons (psx_for PassesOwn.never rfl (pxi_range2 (by rfl) T.n_range (pxa_d px_int (pxa_d (px_var (pv 7)) pxa_nil)) (h1 := (xaD_len (xaD_len (fun _ _ _ _ h => xaNil_len h))))) (pxg_nm (pg_name (i := 3) sc_law_room_of.nd rfl (.inl rfl)))
  (psx_one (psx_for PassesOwn.never rfl (pxi_enum (by rfl) T.n_enumerate (pxa_d (px_ix (px_var (pv 1)) px_int (fun _ _ => rfl)) pxa_nil)) (pxg_tup rfl (pxgs_cons (pxg_nm (pg_name (i := 10) sc_law_room_of.nd rfl (.inl rfl))) (pxgs_cons (pxg_nm (pg_name (i := 11) sc_law_room_of.nd rfl (.inl rfl))) pxgs_nil)))
  (psx_one (psx_if (pxw_t (pxw_and (pxt_cmp (op_neDD hr.u64) (px_var (pv 10)) (px_var (pv 5)) (nomark _)) (pxw_and (pxt_cmp (op_neDD hr.u64) (px_var (pv 10)) (px_var (pv 6)) (nomark _)) (pxw_and (pxt_cmp (op_neDD hr.u64) (px_var (pv 11)) (px_lst pxa_nil) (nomark _)) (pxw_and (pxt_truth (px_fn G_law_lies (hr.mono (by decide)) (by rfl) T.m_law_lies T.F_law_lies.kp T.b_law_lies (pxa_d (px_var (pv 0)) (pxa_d (px_ix (px_var (pv 8)) (px_un un_negD (px_var (pv 3))) (fun _ _ => rfl)) (pxa_d (px_ix (px_var (pv 11)) (px_un un_negD px_int) (fun _ _ => rfl)) pxa_nil))) (xaD_len (xaD_len (xaD_len (fun _ _ _ _ h => xaNil_len h)))))) (pxw_and1 (pxt_view (pxt_cmp (op_niDD hr.u65) (px_var (pv 3)) (px_var (pv 9)) (by rfl)))))))))
  (psx_one (psx_app (ps_expr (pe_bm PySem.F.plainAttrs_list PySem.F.slot_list_append PySem.F.type_list_append mt_append (pv 9) (pa_cons (px_var (pv 3)) pa_nil)))))
  psx_nil)))))
  (psx_cons (psx_set (i := 4) sc_law_room_of.nd rfl (.inl rfl) (px_if (pxt_cmp (op_eqDD hr.u64) (px_ix (px_ix (px_var (pv 1)) px_int (fun _ _ => rfl)) (px_var (pv 6)) (fun _ _ => rfl)) (px_lst pxa_nil) (nomark _)) px_str (px_if (pxt_cmp (op_eqDD hr.u64) (px_bi (c_len) (by rfl) T.n_len bt_len (pxa_d (px_var (pv 8)) pxa_nil)) (px_var (pv 7)) (nomark _)) px_str px_str)))
  (psx_one (psx_frz 9 (psx_ret (px_tup (pxa_d (px_var (pv 4)) (pxa_d (px_tup (pxa_d (px_gcount hr.u65 (px_ix (px_var (pv 1)) px_int (fun _ _ => rfl)) px_non) (pxa_d (px_gcount hr.u65 (px_ix (px_var (pv 1)) px_int (fun _ _ => rfl)) (px_lst pxa_nil)) (pxa_d (px_var (pv 9)) pxa_nil)))) pxa_nil))))))))))
theorem ok_law_right (T : Tx K w mg) (G_is_sensible : FnG P w K mg base 9 T.f_is_sensible T.d_is_sensible 3 ["rules", "position", "supermove"] (spM K 3 m_is_sensible)) (G_room_of : FnG P w K mg base 10 T.f_room_of T.d_room_of 3 ["rules", "position", "supermove"] (spS K 3 m_room_of)) (G_law_rules : FnG P w K mg base 3 T.f_law_rules T.d_law_rules 1 ["generator"] (spM K 1 m_law_rules)) (G_law_position : FnG P w K mg base 3 T.f_law_position T.d_law_position 2 ["generator", "rules"] (spS K 2 m_law_position)) (G_law_supermoves : FnG P w K mg base 3 T.f_law_supermoves T.d_law_supermoves 2 ["rules", "position"] (spM K 2 m_law_supermoves)) (G_law_sensible : FnG P w K mg base 2 T.f_law_sensible T.d_law_sensible 3 ["rules", "position", "supermove"] (spM K 3 m_law_sensible)) (G_law_room_of : FnG P w K mg base 2 T.f_law_room_of T.d_law_room_of 3 ["rules", "position", "supermove"] (spM K 3 m_law_room_of)) : FnG P w K mg base 11 T.f_law_right T.d_law_right 1 ["generator"] (spM K 1 m_law_right) :=
  fn_m T.F_law_right sc_law_right fun W cdv A outer s H E hr =>
  (psx_cons (psx_set (i := 1) sc_law_right.nd rfl (.inl rfl) (px_fn G_law_rules (hr.mono (by decide)) (by rfl) T.m_law_rules T.F_law_rules.kp T.b_law_rules (pxa_o (pv 0) pxa_nil) (xaO_len (fun _ _ _ _ h => xaNil_len h))))
  (psx_cons (psx_set (i := 2) sc_law_right.nd rfl (.inl rfl) (px_fn (asMN_ok G_law_position) (hr.mono (by decide)) (by rfl) T.m_law_position T.F_law_position.kp T.b_law_position (pxa_o (pv 0) (pxa_d (px_var (pv 1)) pxa_nil)) (xaO_len (xaD_len (fun _ _ _ _ h => xaNil_len h)))))
  (psx_cons (psx_par (ps_par (i := 4) (j := 5) rfl sc_law_right.nd rfl rfl (by decide) rfl rfl (pa_cons (px_bi (c_repr hr.gd hr.u65) (by rfl) T.n_repr bt_repr (pxa_d (px_lst (pxa_d (px_var (pv 1)) (pxa_d (px_var (pv 2)) pxa_nil))) pxa_nil)) (pa_cons px_int pa_nil)) (by rfl)))
  (psx_cons (psx_for PassesOwn.never rfl (pxi_list (px_fn G_law_supermoves (hr.mono (by decide)) (by rfl) T.m_law_supermoves T.F_law_supermoves.kp T.b_law_supermoves (pxa_d (px_var (pv 1)) (pxa_d (px_var (pv 2)) pxa_nil)) (xaD_len (xaD_len (fun _ _ _ _ h => xaNil_len h))))) (pxg_nm (pg_name (i := 3) sc_law_right.nd rfl (.inl rfl)))
  (psx_cons (psx_set (i := 6) sc_law_right.nd rfl (.inl rfl) (px_fn G_law_sensible (hr.mono (by decide)) (by rfl) T.m_law_sensible T.F_law_sensible.kp T.b_law_sensible (pxa_d (px_var (pv 1)) (pxa_d (px_var (pv 2)) (pxa_d (px_var (pv 3)) pxa_nil))) (xaD_len (xaD_len (xaD_len (fun _ _ _ _ h => xaNil_len h))))))
  (psx_cons (psx_if (pxw_t (pxw_or (pxt_cmp (op_neDD hr.u64) (px_bi (c_repr hr.gd hr.u65) (by rfl) T.n_repr bt_repr (pxa_d (px_fn G_is_sensible (hr.mono (by decide)) (by rfl) T.m_is_sensible T.F_is_sensible.kp T.b_is_sensible (pxa_d (px_var (pv 1)) (pxa_d (px_var (pv 2)) (pxa_d (px_var (pv 3)) pxa_nil))) (xaD_len (xaD_len (xaD_len (fun _ _ _ _ h => xaNil_len h))))) pxa_nil)) (px_bi (c_repr hr.gd hr.u65) (by rfl) T.n_repr bt_repr (pxa_d (px_var (pv 6)) pxa_nil)) (nomark _)) (pxw_or1 (pxt_cmp (op_neDD hr.u64) (px_fnk G_is_sensible (hr.mono (by decide)) (by rfl) T.m_is_sensible T.F_is_sensible.kp T.kb_0 rfl (pxk_d (px_var (pv 3)) (pxk_d (px_var (pv 2)) (pxk_d (px_var (pv 1)) pxk_nil))) (fun _ _ _ _ h => pmI_len (js := [2, 1, 0]) (by decide) ((xaD_len (xaD_len (xaD_len (fun _ _ _ _ h => xaNil_len h)))) _ _ _ _ h))) (px_var (pv 6)) (nomark _)))))
  (psx_one (psx_ret px_bl))
  psx_nil)
  (psx_one (psx_if (pxt_truth (px_var (pv 6)))
  (psx_cons (psx_tup2 (ps_par (i := 7) (j := 8) rfl sc_law_right.nd rfl rfl (by decide) rfl rfl (pxas_s (pxs_r (pxv_d (px_fn G_law_room_of (hr.mono (by decide)) (by rfl) T.m_law_room_of T.F_law_room_of.kp T.b_law_room_of (pxa_d (px_var (pv 1)) (pxa_d (px_var (pv 2)) (pxa_d (px_var (pv 3)) pxa_nil))) (xaD_len (xaD_len (xaD_len (fun _ _ _ _ h => xaNil_len h))))))) (pxas_s (pxs_fn G_room_of (hr.mono (by decide)) (by rfl) T.m_room_of T.F_room_of.kp T.b_room_of (pxas_s (pxs_r (pxv_d (px_var (pv 1)))) (pxas_s (pxs_r (pxv_d (px_var (pv 2)))) (pxas_s (pxs_r (pxv_d (px_var (pv 3)))) (pxas_of pxa_nil)))) (xaS_len (xaS_len (xaS_len (fun _ _ _ _ h => xaNil_len h))))) (pxas_of pxa_nil))) (by rfl)))
  (psx_cons (psx_if (pxw_t (pxw_or (pxt_cmp (op_neDD hr.u64) (px_viewN (px_bi (c_repr hr.gd hr.u65) (by rfl) T.n_repr bt_repr (pxa_d (px_var (pv 8)) pxa_nil))) (px_bi (c_repr hr.gd hr.u65) (by rfl) T.n_repr bt_repr (pxa_d (px_var (pv 7)) pxa_nil)) (nomark _)) (pxw_or1 (pxt_cmp (op_neDD hr.u64) (px_bi (c_repr hr.gd hr.u65) (by rfl) T.n_repr bt_repr (pxa_d (px_fnk (asMN_ok G_room_of) (hr.mono (by decide)) (by rfl) T.m_room_of T.F_room_of.kp T.kb_1 rfl (pxk_d (px_var (pv 3)) (pxk_d (px_var (pv 2)) (pxk_d (px_var (pv 1)) pxk_nil))) (fun _ _ _ _ h => pmI_len (js := [2, 1, 0]) (by decide) ((xaD_len (xaD_len (xaD_len (fun _ _ _ _ h => xaNil_len h)))) _ _ _ _ h))) pxa_nil)) (px_bi (c_repr hr.gd hr.u65) (by rfl) T.n_repr bt_repr (pxa_d (px_var (pv 7)) pxa_nil)) (nomark _)))))
  (psx_one (psx_ret px_bl))
  psx_nil)
  (psx_cons (psx_appV (ps_expr (pe_bm PySem.F.plainAttrs_list PySem.F.slot_list_append PySem.F.type_list_append mt_append (pxv_ix (pxv_ix (pxv_var (pv 8)) px_int (fun _ _ => rfl)) px_int (fun _ _ => rfl)) (pa_cons (pxs_r (pxv_d px_non)) pa_nil))))
  (psx_one (psx_if (pxt_cmp (op_neDD hr.u64) (px_bi (c_repr hr.gd hr.u65) (by rfl) T.n_repr bt_repr (pxa_d (px_fn (asMN_ok G_room_of) (hr.mono (by decide)) (by rfl) T.m_room_of T.F_room_of.kp T.b_room_of (pxa_d (px_var (pv 1)) (pxa_d (px_var (pv 2)) (pxa_d (px_var (pv 3)) pxa_nil))) (xaD_len (xaD_len (xaD_len (fun _ _ _ _ h => xaNil_len h))))) pxa_nil)) (px_bi (c_repr hr.gd hr.u65) (by rfl) T.n_repr bt_repr (pxa_d (px_var (pv 7)) pxa_nil)) (nomark _))
  (psx_one (psx_ret px_bl))
  psx_nil)))))
  psx_nil)))))
  (psx_one (psx_ret (px_cmp (op_eqDD hr.u64) (px_bi (c_repr hr.gd hr.u65) (by rfl) T.n_repr bt_repr (pxa_d (px_lst (pxa_d (px_var (pv 1)) (pxa_d (px_var (pv 2)) pxa_nil))) pxa_nil)) (px_var (pv 4)) (nomark _))))))))
theorem ok_law (T : Tx K w mg) (G_is_sensible : FnG P w K mg base 9 T.f_is_sensible T.d_is_sensible 3 ["rules", "position", "supermove"] (spM K 3 m_is_sensible)) (G_room_of : FnG P w K mg base 10 T.f_room_of T.d_room_of 3 ["rules", "position", "supermove"] (spS K 3 m_room_of)) (G_law_generator : FnG P w K mg base 2 T.f_law_generator T.d_law_generator 2 ["script", "index"] (spF K 2 m_law_generator)) (G_law_right : FnG P w K mg base 11 T.f_law_right T.d_law_right 1 ["generator"] (spM K 1 m_law_right)) : FnG P w K mg base 12 T.f_law T.d_law 1 ["script"] (spM K 1 m_law) :=
  fn_m T.F_law sc_law fun W cdv A outer s H E hr =>
  (psx_cons (psx_for PassesOwn.never rfl (pxi_range1 (by rfl) T.n_range (pxa_d px_int pxa_nil) (h1 := (xaD_len (fun _ _ _ _ h => xaNil_len h)))) (pxg_nm (pg_name (i := 1) sc_law.nd rfl (.inl rfl)))
  (psx_one (psx_if (pxt_not (pxt_truth (px_fnN G_law_right (hr.mono (by decide)) (by rfl) T.m_law_right T.F_law_right.kp T.b_law_right (pxf_fn G_law_generator (hr.mono (by decide)) (by rfl) T.m_law_generator T.F_law_generator.kp T.b_law_generator (pxa_d (px_var (pv 0)) (pxa_d (px_var (pv 1)) pxa_nil)) (xaD_len (xaD_len (fun _ _ _ _ h => xaNil_len h)))) pxa_nil (fun _ _ _ _ h => congrArg (· + 1) (xaNil_len h)))))
  (psx_one (psx_ret px_bl))
  psx_nil)))
  (psx_cons (psx_setLc (ps_lcF (own := [("rank", 12)]) (by decide) (ps_setLc (i := 2) (own := [("rank", 12)]) rfl sc_law.nd rfl rfl (sw_true rfl rfl rfl (by decide +kernel)) (pxi_range3 (by rfl) T.n_range (pxa_d px_int (pxa_d px_int (pxa_d (px_un un_negD px_int) pxa_nil)))) (blkOk_by (own := [("rank", 12)]) (N := N_law) (sc := defScope s_law) (by decide +kernel)) (fun _ _ _ _ _ => (pxg_nm (pg_name (i := 12) sc_law.nd rfl (.inl rfl)))) (fun _ _ _ _ _ => pxts_nil) (fun _ _ _ _ _ => (px_tup (pxa_d (px_var (pv 12)) (pxa_d (px_ty (c_int) (by rfl) T.n_int bt_int (pxa_d (px_cmp (op_eqDD hr.u64) (px_op op_modD (px_var (pv 12)) px_int) px_int (nomark _)) pxa_nil)) pxa_nil)))))))
  (psx_cons (psx_set (i := 3) sc_law.nd rfl (.inl rfl) (px_lst (pxa_d (px_op op_addD (px_lst (pxa_d (px_tup (pxa_d px_int (pxa_d px_int pxa_nil))) pxa_nil)) (px_var (pv 2))) (pxa_d (px_lst (pxa_d (px_tup (pxa_d px_int (pxa_d px_int pxa_nil))) pxa_nil)) (pxa_d (px_of_f (pxf_lc (own := [("rank", 12)]) rfl sc_law.nd (pxi_range3 (by rfl) T.n_range (pxa_d px_int (pxa_d px_int (pxa_d (px_un un_negD px_int) pxa_nil)))) (blkOk_by (own := [("rank", 12)]) (N := N_law) (sc := defScope s_law) (by decide +kernel)) (fun _ _ _ _ _ => (pxg_nm (pg_name (i := 12) sc_law.nd rfl (.inl rfl)))) (fun _ _ _ _ _ => pxts_nil) (fun _ _ _ _ _ => (px_tup (pxa_d (px_var (pv 12)) (pxa_d (px_ty (c_int) (by rfl) T.n_int bt_int (pxa_d (px_cmp (op_eqDD hr.u64) (px_op op_modD (px_var (pv 12)) px_int) px_int (nomark _)) pxa_nil)) pxa_nil)))) (by decide))) pxa_nil)))))
  (psx_cons (psx_set (i := 3) sc_law.nd rfl (.inl rfl) (px_op op_addD (px_var (pv 3)) (px_lst (pxa_d (px_lst (pxa_d (px_tup (pxa_d px_int (pxa_d px_int pxa_nil))) (pxa_d (px_tup (pxa_d px_int (pxa_d px_int pxa_nil))) (pxa_d (px_tup (pxa_d px_int (pxa_d px_int pxa_nil))) (pxa_d (px_tup (pxa_d px_int (pxa_d px_int pxa_nil))) (pxa_d (px_tup (pxa_d px_int (pxa_d px_int pxa_nil))) (pxa_d (px_tup (pxa_d px_int (pxa_d px_int pxa_nil))) (pxa_d (px_tup (pxa_d px_int (pxa_d px_int pxa_nil))) pxa_nil)))))))) (pxa_d (px_lst (pxa_d (px_tup (pxa_d px_int (pxa_d px_int pxa_nil))) (pxa_d (px_tup (pxa_d px_int (pxa_d px_int pxa_nil))) (pxa_d (px_tup (pxa_d px_int (pxa_d px_int pxa_nil))) (pxa_d (px_tup (pxa_d px_int (pxa_d px_int pxa_nil))) pxa_nil))))) pxa_nil)))))
  (psx_cons (psx_set (i := 3) sc_law.nd rfl (.inl rfl) (px_op op_addD (px_var (pv 3)) (px_lst (pxa_d (px_lst pxa_nil) (pxa_d (px_lst pxa_nil) (pxa_d (px_of_f (pxf_lc (own := [("rank", 12)]) rfl sc_law.nd (pxi_range3 (by rfl) T.n_range (pxa_d px_int (pxa_d px_int (pxa_d (px_un un_negD px_int) pxa_nil)))) (blkOk_by (own := [("rank", 12)]) (N := N_law) (sc := defScope s_law) (by decide +kernel)) (fun _ _ _ _ _ => (pxg_nm (pg_name (i := 12) sc_law.nd rfl (.inl rfl)))) (fun _ _ _ _ _ => pxts_nil) (fun _ _ _ _ _ => (px_tup (pxa_d (px_var (pv 12)) (pxa_d (px_ty (c_int) (by rfl) T.n_int bt_int (pxa_d (px_cmp (op_eqDD hr.u64) (px_op op_modD (px_var (pv 12)) px_int) px_int (nomark _)) pxa_nil)) pxa_nil)))) (by decide))) pxa_nil))))))
  (psx_cons (psx_set (i := 4) sc_law.nd rfl (.inr rfl) (px_tup (pxa_d (px_var (pv 3)) (pxa_d (px_lst (pxa_d px_non (pxa_d (px_tup (pxa_d px_int (pxa_d px_int pxa_nil))) (pxa_d px_non (pxa_d px_non pxa_nil))))) (pxa_d (px_lst (pxa_d px_int (pxa_d px_int (pxa_d px_int (pxa_d px_int pxa_nil))))) pxa_nil)))))
  (psx_cons (psx_if (pxt_cmp (op_neDD hr.u64) (px_of_f (pxf_lc (own := [("goal", 14)]) rfl sc_law.nd (pxi_list (px_lst (pxa_d px_int (pxa_d px_int pxa_nil)))) (blkOk_by (own := [("goal", 14)]) (N := N_law) (sc := defScope s_law) (by decide +kernel)) (fun _ _ _ _ _ => (pxg_nm (pg_name (i := 14) sc_law.nd rfl (.inl rfl)))) (fun _ _ _ _ _ => pxts_nil) (fun _ _ _ _ _ => (px_fn (asMN_ok G_room_of) (hr.mono (by decide)) (by rfl) T.m_room_of T.F_room_of.kp T.b_room_of (pxa_d (px_tup (pxa_d px_int (pxa_d px_int (pxa_d px_str pxa_nil)))) (pxa_d (px_var (pv 4)) (pxa_d (px_tup (pxa_d px_int (pxa_d (px_var (pv 14)) (pxa_d px_int pxa_nil)))) pxa_nil))) (xaD_len (xaD_len (xaD_len (fun _ _ _ _ h => xaNil_len h)))))) (by decide))) (px_lst (pxa_d (px_tup (pxa_d px_str (pxa_d (px_tup (pxa_d px_int (pxa_d px_int (pxa_d (px_lst (pxa_d px_int (pxa_d px_int pxa_nil))) pxa_nil)))) pxa_nil))) (pxa_d (px_tup (pxa_d px_str (pxa_d (px_tup (pxa_d px_int (pxa_d px_int (pxa_d (px_lst (pxa_d px_int (pxa_d px_int pxa_nil))) pxa_nil)))) pxa_nil))) pxa_nil))) (nomark _))
  (psx_one (psx_ret px_bl))
  psx_nil)
  (psx_cons (psx_par (ps_par (i := 10) (j := 11) rfl sc_law.nd rfl rfl (by decide) rfl rfl (pa_cons (px_tup (pxa_d px_int (pxa_d px_int (pxa_d px_str pxa_nil)))) (pa_cons (px_tup (pxa_d (px_lst (pxa_d (px_lst (pxa_d (px_tup (pxa_d px_int (pxa_d px_int pxa_nil))) pxa_nil)) (pxa_d (px_of_f (pxf_lc (own := [("rank", 12)]) rfl sc_law.nd (pxi_range3 (by rfl) T.n_range (pxa_d px_int (pxa_d px_int (pxa_d (px_un un_negD px_int) pxa_nil)))) (blkOk_by (own := [("rank", 12)]) (N := N_law) (sc := defScope s_law) (by decide +kernel)) (fun _ _ _ _ _ => (pxg_nm (pg_name (i := 12) sc_law.nd rfl (.inl rfl)))) (fun _ _ _ _ _ => pxts_nil) (fun _ _ _ _ _ => (px_tup (pxa_d (px_var (pv 12)) (pxa_d px_int pxa_nil)))) (by decide))) pxa_nil))) (pxa_d (px_of_f (pxf_rep (pxf_lst (pxa_d px_non pxa_nil)) px_int)) (pxa_d (px_lst (pxa_d px_int pxa_nil)) pxa_nil)))) pa_nil)) (by rfl)))
  (psx_cons (psx_set (i := 5) sc_law.nd rfl (.inl rfl) (px_tup (pxa_d (px_lst (pxa_d (px_lst (pxa_d (px_tup (pxa_d px_int (pxa_d px_int pxa_nil))) pxa_nil)) (pxa_d (px_of_f (pxf_lc (own := [("rank", 12)]) rfl sc_law.nd (pxi_range3 (by rfl) T.n_range (pxa_d px_int (pxa_d px_int (pxa_d (px_un un_negD px_int) pxa_nil)))) (blkOk_by (own := [("rank", 12)]) (N := N_law) (sc := defScope s_law) (by decide +kernel)) (fun _ _ _ _ _ => (pxg_nm (pg_name (i := 12) sc_law.nd rfl (.inl rfl)))) (fun _ _ _ _ _ => pxts_nil) (fun _ _ _ _ _ => (px_tup (pxa_d (px_var (pv 12)) (pxa_d px_int pxa_nil)))) (by decide))) (pxa_d (px_lst pxa_nil) (pxa_d (px_lst pxa_nil) (pxa_d (px_lst pxa_nil) (pxa_d (px_lst pxa_nil) (pxa_d (px_lst pxa_nil) (pxa_d (px_lst pxa_nil) (pxa_d (px_lst pxa_nil) pxa_nil)))))))))) (pxa_d (px_lst pxa_nil) (pxa_d (px_lst (pxa_d px_int pxa_nil)) pxa_nil)))))
  (psx_cons (psx_if (pxt_cmp (op_neDD hr.u64) (px_bi (c_repr hr.gd hr.u65) (by rfl) T.n_repr bt_repr (pxa_d (px_lst (pxa_d (px_fn (asMN_ok G_room_of) (hr.mono (by decide)) (by rfl) T.m_room_of T.F_room_of.kp T.b_room_of (pxa_d (px_var (pv 10)) (pxa_d (px_var (pv 11)) (pxa_d (px_tup (pxa_d px_int (pxa_d px_int (pxa_d px_int pxa_nil)))) pxa_nil))) (xaD_len (xaD_len (xaD_len (fun _ _ _ _ h => xaNil_len h))))) (pxa_d (px_fn (asMN_ok G_room_of) (hr.mono (by decide)) (by rfl) T.m_room_of T.F_room_of.kp T.b_room_of (pxa_d (px_var (pv 10)) (pxa_d (px_var (pv 5)) (pxa_d (px_tup (pxa_d px_int (pxa_d px_int (pxa_d px_int pxa_nil)))) pxa_nil))) (xaD_len (xaD_len (xaD_len (fun _ _ _ _ h => xaNil_len h))))) (pxa_d (px_fn (asMN_ok G_room_of) (hr.mono (by decide)) (by rfl) T.m_room_of T.F_room_of.kp T.b_room_of (pxa_d (px_var (pv 10)) (pxa_d (px_var (pv 5)) (pxa_d (px_tup (pxa_d px_int (pxa_d px_int (pxa_d px_int pxa_nil)))) pxa_nil))) (xaD_len (xaD_len (xaD_len (fun _ _ _ _ h => xaNil_len h))))) pxa_nil)))) pxa_nil)) (px_bi (c_repr hr.gd hr.u65) (by rfl) T.n_repr bt_repr (pxa_d (px_lst (pxa_d (px_tup (pxa_d px_str (pxa_d (px_tup (pxa_d px_int (pxa_d px_int (pxa_d (px_lst pxa_nil) pxa_nil)))) pxa_nil))) (pxa_d (px_tup (pxa_d px_str (pxa_d (px_tup (pxa_d px_int (pxa_d px_int (pxa_d (px_lst pxa_nil) pxa_nil)))) pxa_nil))) (pxa_d (px_tup (pxa_d px_str (pxa_d (px_tup (pxa_d px_int (pxa_d px_int (pxa_d (px_lst pxa_nil) pxa_nil)))) pxa_nil))) pxa_nil)))) pxa_nil)) (nomark _))
  (psx_one (psx_ret px_bl))
  psx_nil)
  (psx_cons (psx_set (i := 6) sc_law.nd rfl (.inr rfl) (px_tup (pxa_d px_int (pxa_d px_int (pxa_d px_str pxa_nil)))))
  (psx_cons (psx_set (i := 7) sc_law.nd rfl (.inr rfl) (px_tup (pxa_d (px_lst (pxa_d (px_lst (pxa_d (px_tup (pxa_d px_int (pxa_d px_int pxa_nil))) (pxa_d (px_tup (pxa_d px_int (pxa_d px_int pxa_nil))) (pxa_d (px_tup (pxa_d px_int (pxa_d px_int pxa_nil))) (pxa_d (px_tup (pxa_d px_int (pxa_d px_int pxa_nil))) pxa_nil))))) (pxa_d (px_lst (pxa_d (px_tup (pxa_d px_int (pxa_d px_int pxa_nil))) (pxa_d (px_tup (pxa_d px_int (pxa_d px_int pxa_nil))) pxa_nil))) (pxa_d (px_lst pxa_nil) (pxa_d (px_lst (pxa_d (px_tup (pxa_d px_int (pxa_d px_int pxa_nil))) pxa_nil)) pxa_nil))))) (pxa_d (px_lst (pxa_d px_non (pxa_d (px_tup (pxa_d px_int (pxa_d px_int pxa_nil))) pxa_nil))) (pxa_d (px_lst (pxa_d px_int (pxa_d px_int pxa_nil))) pxa_nil)))))
  (psx_cons (psx_setLc (ps_lcF (own := [("supermove", 13)]) (by decide) (ps_setLc (i := 8) (own := [("supermove", 13)]) rfl sc_law.nd rfl rfl (sw_true rfl rfl rfl (by decide +kernel)) (pxi_list (px_lst (pxa_d (px_tup (pxa_d px_int (pxa_d px_int (pxa_d px_int pxa_nil)))) (pxa_d (px_tup (pxa_d px_int (pxa_d px_int (pxa_d px_int pxa_nil)))) (pxa_d (px_tup (pxa_d px_int (pxa_d px_int (pxa_d px_int pxa_nil)))) (pxa_d (px_tup (pxa_d px_int (pxa_d px_int (pxa_d px_int pxa_nil)))) pxa_nil)))))) (blkOk_by (own := [("supermove", 13)]) (N := N_law) (sc := defScope s_law) (by decide +kernel)) (fun _ _ _ _ _ => (pxg_nm (pg_name (i := 13) sc_law.nd rfl (.inl rfl)))) (fun _ _ _ _ _ => (pxts_one (pxt_truth (px_fn G_is_sensible (hr.mono (by decide)) (by rfl) T.m_is_sensible T.F_is_sensible.kp T.b_is_sensible (pxa_d (px_var (pv 6)) (pxa_d (px_var (pv 7)) (pxa_d (px_var (pv 13)) pxa_nil))) (xaD_len (xaD_len (xaD_len (fun _ _ _ _ h => xaNil_len h)))))))) (fun _ _ _ _ _ => (px_fn (asMN_ok G_room_of) (hr.mono (by decide)) (by rfl) T.m_room_of T.F_room_of.kp T.b_room_of (pxa_d (px_var (pv 6)) (pxa_d (px_var (pv 7)) (pxa_d (px_var (pv 13)) pxa_nil))) (xaD_len (xaD_len (xaD_len (fun _ _ _ _ h => xaNil_len h)))))))))
  (psx_cons (psx_if (pxt_cmp (op_neDD hr.u64) (px_var (pv 8)) (px_lst (pxa_d (px_tup (pxa_d px_str (pxa_d (px_tup (pxa_d px_int (pxa_d px_int (pxa_d (px_lst pxa_nil) pxa_nil)))) pxa_nil))) (pxa_d (px_tup (pxa_d px_str (pxa_d (px_tup (pxa_d px_int (pxa_d px_int (pxa_d (px_lst pxa_nil) pxa_nil)))) pxa_nil))) (pxa_d (px_tup (pxa_d px_str (pxa_d (px_tup (pxa_d px_int (pxa_d px_int (pxa_d (px_lst pxa_nil) pxa_nil)))) pxa_nil))) pxa_nil)))) (nomark _))
  (psx_one (psx_ret px_bl))
  psx_nil)
  (psx_cons (psx_set (i := 9) sc_law.nd rfl (.inl rfl) (px_tup (pxa_d (px_lst (pxa_d (px_lst (pxa_d (px_tup (pxa_d px_int (pxa_d px_int pxa_nil))) (pxa_d (px_tup (pxa_d px_int (pxa_d px_int pxa_nil))) (pxa_d (px_tup (pxa_d px_int (pxa_d px_int pxa_nil))) (pxa_d (px_tup (pxa_d px_int (pxa_d px_int pxa_nil))) pxa_nil))))) (pxa_d (px_lst (pxa_d (px_tup (pxa_d px_int (pxa_d px_int pxa_nil))) pxa_nil)) (pxa_d (px_lst (pxa_d (px_tup (pxa_d px_int (pxa_d px_int pxa_nil))) pxa_nil)) (pxa_d (px_lst (pxa_d (px_tup (pxa_d px_int (pxa_d px_int pxa_nil))) (pxa_d (px_tup (pxa_d px_int (pxa_d px_int pxa_nil))) pxa_nil))) pxa_nil))))) (pxa_d (px_lst pxa_nil) (pxa_d (px_lst (pxa_d px_int (pxa_d px_int pxa_nil))) pxa_nil)))))
  (psx_cons (psx_if (pxw_t (pxw_or (pxt_cmp (op_neDD hr.u64) (px_fn (asMN_ok G_room_of) (hr.mono (by decide)) (by rfl) T.m_room_of T.F_room_of.kp T.b_room_of (pxa_d (px_tup (pxa_d px_int (pxa_d px_int (pxa_d px_str pxa_nil)))) (pxa_d (px_var (pv 9)) (pxa_d (px_tup (pxa_d px_int (pxa_d px_int (pxa_d px_int pxa_nil)))) pxa_nil))) (xaD_len (xaD_len (xaD_len (fun _ _ _ _ h => xaNil_len h))))) (px_tup (pxa_d px_str (pxa_d (px_tup (pxa_d px_int (pxa_d px_int (pxa_d (px_lst (pxa_d px_int pxa_nil)) pxa_nil)))) pxa_nil))) (nomark _)) (pxw_or1 (pxt_cmp op_isntD (px_fn G_is_sensible (hr.mono (by decide)) (by rfl) T.m_is_sensible T.F_is_sensible.kp T.b_is_sensible (pxa_d (px_tup (pxa_d px_int (pxa_d px_int (pxa_d px_str pxa_nil)))) (pxa_d (px_var (pv 9)) (pxa_d (px_tup (pxa_d px_int (pxa_d px_int (pxa_d px_int pxa_nil)))) pxa_nil))) (xaD_len (xaD_len (xaD_len (fun _ _ _ _ h => xaNil_len h))))) px_bl (nomark _)))))
  (psx_one (psx_ret px_bl))
  psx_nil)
  (psx_one (psx_ret (px_and (px_cmp (op_eqDD hr.u64) (px_fn (asMN_ok G_room_of) (hr.mono (by decide)) (by rfl) T.m_room_of T.F_room_of.kp T.b_room_of (pxa_d (px_tup (pxa_d px_int (pxa_d px_int (pxa_d px_str pxa_nil)))) (pxa_d (px_var (pv 9)) (pxa_d (px_tup (pxa_d px_int (pxa_d px_int (pxa_d px_int pxa_nil)))) pxa_nil))) (xaD_len (xaD_len (xaD_len (fun _ _ _ _ h => xaNil_len h))))) (px_tup (pxa_d px_str (pxa_d (px_tup (pxa_d px_int (pxa_d px_int (pxa_d (px_lst pxa_nil) pxa_nil)))) pxa_nil))) (nomark _)) (px_one (px_cmp op_isD (px_fn G_is_sensible (hr.mono (by decide)) (by rfl) T.m_is_sensible T.F_is_sensible.kp T.b_is_sensible (pxa_d (px_tup (pxa_d px_int (pxa_d px_int (pxa_d px_str pxa_nil)))) (pxa_d (px_var (pv 9)) (pxa_d (px_tup (pxa_d px_int (pxa_d px_int (pxa_d px_int pxa_nil)))) pxa_nil))) (xaD_len (xaD_len (xaD_len (fun _ _ _ _ h => xaNil_len h))))) px_bl (nomark _))))))))))))))))))))))
end
theorem all_mk {l : PySem.W.OpenLaw} {w : World} {K : PySem.W.Frag} {h : Heap} {mg : Str → Option Value} {fa : Addr} (X : K.In h) (G : h.Ns mainGlobals mg) (hfa : mg "law" = some (.ref fa))
    {f0 : Addr} {od0 an0 : Option Addr} {sl0 : Array (Option Value)} {oc0 kV0 dc0 pm0 cd0 ct0 : Value}
    (a0 : PySem.W.nsIn K mainGlobals "is_whole" = some (some (.ref f0)))
    (l0 : K.lookup f0 = some ⟨oc0, od0, .func (PySem.W.fnOf "is_whole" "is_whole" (defArgs s_is_whole) (defBody s_is_whole) (defScope s_is_whole) .none kV0 dc0 pm0 an0 cd0 ct0), sl0⟩) (c0 : PySem.W.codeIn K cd0 "is_whole" = true) (k0 : PySem.W.keepIn K (.ref f0) = true)
    {f1 : Addr} {od1 an1 : Option Addr} {sl1 : Array (Option Value)} {oc1 kV1 dc1 pm1 cd1 ct1 : Value}
    (a1 : PySem.W.nsIn K mainGlobals "is_within" = some (some (.ref f1)))
    (l1 : K.lookup f1 = some ⟨oc1, od1, .func (PySem.W.fnOf "is_within" "is_within" (defArgs s_is_within) (defBody s_is_within) (defScope s_is_within) .none kV1 dc1 pm1 an1 cd1 ct1), sl1⟩) (c1 : PySem.W.codeIn K cd1 "is_within" = true) (k1 : PySem.W.keepIn K (.ref f1) = true)
    {f2 : Addr} {od2 an2 : Option Addr} {sl2 : Array (Option Value)} {oc2 kV2 dc2 pm2 cd2 ct2 : Value}
    (a2 : PySem.W.nsIn K mainGlobals "is_tuple_of" = some (some (.ref f2)))
    (l2 : K.lookup f2 = some ⟨oc2, od2, .func (PySem.W.fnOf "is_tuple_of" "is_tuple_of" (defArgs s_is_tuple_of) (defBody s_is_tuple_of) (defScope s_is_tuple_of) .none kV2 dc2 pm2 an2 cd2 ct2), sl2⟩) (c2 : PySem.W.codeIn K cd2 "is_tuple_of" = true) (k2 : PySem.W.keepIn K (.ref f2) = true)
    {f3 : Addr} {od3 an3 : Option Addr} {sl3 : Array (Option Value)} {oc3 kV3 dc3 pm3 cd3 ct3 : Value}
    (a3 : PySem.W.nsIn K mainGlobals "is_rules" = some (some (.ref f3)))
    (l3 : K.lookup f3 = some ⟨oc3, od3, .func (PySem.W.fnOf "is_rules" "is_rules" (defArgs s_is_rules) (defBody s_is_rules) (defScope s_is_rules) .none kV3 dc3 pm3 an3 cd3 ct3), sl3⟩) (c3 : PySem.W.codeIn K cd3 "is_rules" = true) (k3 : PySem.W.keepIn K (.ref f3) = true)
    {f4 : Addr} {od4 an4 : Option Addr} {sl4 : Array (Option Value)} {oc4 kV4 dc4 pm4 cd4 ct4 : Value}
    (a4 : PySem.W.nsIn K mainGlobals "check_rules" = some (some (.ref f4)))
    (l4 : K.lookup f4 = some ⟨oc4, od4, .func (PySem.W.fnOf "check_rules" "check_rules" (defArgs s_check_rules) (defBody s_check_rules) (defScope s_check_rules) .none kV4 dc4 pm4 an4 cd4 ct4), sl4⟩) (c4 : PySem.W.codeIn K cd4 "check_rules" = true) (k4 : PySem.W.keepIn K (.ref f4) = true)
    {f5 : Addr} {od5 an5 : Option Addr} {sl5 : Array (Option Value)} {oc5 kV5 dc5 pm5 cd5 ct5 : Value}
    (a5 : PySem.W.nsIn K mainGlobals "fits_deck" = some (some (.ref f5)))
    (l5 : K.lookup f5 = some ⟨oc5, od5, .func (PySem.W.fnOf "fits_deck" "fits_deck" (defArgs s_fits_deck) (defBody s_fits_deck) (defScope s_fits_deck) .none kV5 dc5 pm5 an5 cd5 ct5), sl5⟩) (c5 : PySem.W.codeIn K cd5 "fits_deck" = true) (k5 : PySem.W.keepIn K (.ref f5) = true)
    {f6 : Addr} {od6 an6 : Option Addr} {sl6 : Array (Option Value)} {oc6 kV6 dc6 pm6 cd6 ct6 : Value}
    (a6 : PySem.W.nsIn K mainGlobals "cards_of" = some (some (.ref f6)))
    (l6 : K.lookup f6 = some ⟨oc6, od6, .func (PySem.W.fnOf "cards_of" "cards_of" (defArgs s_cards_of) (defBody s_cards_of) (defScope s_cards_of) .none kV6 dc6 pm6 an6 cd6 ct6), sl6⟩) (c6 : PySem.W.codeIn K cd6 "cards_of" = true) (k6 : PySem.W.keepIn K (.ref f6) = true)
    {f7 : Addr} {od7 an7 : Option Addr} {sl7 : Array (Option Value)} {oc7 kV7 dc7 pm7 cd7 ct7 : Value}
    (a7 : PySem.W.nsIn K mainGlobals "goes_on" = some (some (.ref f7)))
    (l7 : K.lookup f7 = some ⟨oc7, od7, .func (PySem.W.fnOf "goes_on" "goes_on" (defArgs s_goes_on) (defBody s_goes_on) (defScope s_goes_on) .none kV7 dc7 pm7 an7 cd7 ct7), sl7⟩) (c7 : PySem.W.codeIn K cd7 "goes_on" = true) (k7 : PySem.W.keepIn K (.ref f7) = true)
    {f8 : Addr} {od8 an8 : Option Addr} {sl8 : Array (Option Value)} {oc8 kV8 dc8 pm8 cd8 ct8 : Value}
    (a8 : PySem.W.nsIn K mainGlobals "are_cards" = some (some (.ref f8)))
    (l8 : K.lookup f8 = some ⟨oc8, od8, .func (PySem.W.fnOf "are_cards" "are_cards" (defArgs s_are_cards) (defBody s_are_cards) (defScope s_are_cards) .none kV8 dc8 pm8 an8 cd8 ct8), sl8⟩) (c8 : PySem.W.codeIn K cd8 "are_cards" = true) (k8 : PySem.W.keepIn K (.ref f8) = true)
    {f9 : Addr} {od9 an9 : Option Addr} {sl9 : Array (Option Value)} {oc9 kV9 dc9 pm9 cd9 ct9 : Value}
    (a9 : PySem.W.nsIn K mainGlobals "are_columns" = some (some (.ref f9)))
    (l9 : K.lookup f9 = some ⟨oc9, od9, .func (PySem.W.fnOf "are_columns" "are_columns" (defArgs s_are_columns) (defBody s_are_columns) (defScope s_are_columns) .none kV9 dc9 pm9 an9 cd9 ct9), sl9⟩) (c9 : PySem.W.codeIn K cd9 "are_columns" = true) (k9 : PySem.W.keepIn K (.ref f9) = true)
    {f10 : Addr} {od10 an10 : Option Addr} {sl10 : Array (Option Value)} {oc10 kV10 dc10 pm10 cd10 ct10 : Value}
    (a10 : PySem.W.nsIn K mainGlobals "are_cells" = some (some (.ref f10)))
    (l10 : K.lookup f10 = some ⟨oc10, od10, .func (PySem.W.fnOf "are_cells" "are_cells" (defArgs s_are_cells) (defBody s_are_cells) (defScope s_are_cells) .none kV10 dc10 pm10 an10 cd10 ct10), sl10⟩) (c10 : PySem.W.codeIn K cd10 "are_cells" = true) (k10 : PySem.W.keepIn K (.ref f10) = true)
    {f11 : Addr} {od11 an11 : Option Addr} {sl11 : Array (Option Value)} {oc11 kV11 dc11 pm11 cd11 ct11 : Value}
    (a11 : PySem.W.nsIn K mainGlobals "are_homes" = some (some (.ref f11)))
    (l11 : K.lookup f11 = some ⟨oc11, od11, .func (PySem.W.fnOf "are_homes" "are_homes" (defArgs s_are_homes) (defBody s_are_homes) (defScope s_are_homes) .none kV11 dc11 pm11 an11 cd11 ct11), sl11⟩) (c11 : PySem.W.codeIn K cd11 "are_homes" = true) (k11 : PySem.W.keepIn K (.ref f11) = true)
    {f12 : Addr} {od12 an12 : Option Addr} {sl12 : Array (Option Value)} {oc12 kV12 dc12 pm12 cd12 ct12 : Value}
    (a12 : PySem.W.nsIn K mainGlobals "cards_about" = some (some (.ref f12)))
    (l12 : K.lookup f12 = some ⟨oc12, od12, .func (PySem.W.fnOf "cards_about" "cards_about" (defArgs s_cards_about) (defBody s_cards_about) (defScope s_cards_about) .none kV12 dc12 pm12 an12 cd12 ct12), sl12⟩) (c12 : PySem.W.codeIn K cd12 "cards_about" = true) (k12 : PySem.W.keepIn K (.ref f12) = true)
    {f13 : Addr} {od13 an13 : Option Addr} {sl13 : Array (Option Value)} {oc13 kV13 dc13 pm13 cd13 ct13 : Value}
    (a13 : PySem.W.nsIn K mainGlobals "fits_rules" = some (some (.ref f13)))
    (l13 : K.lookup f13 = some ⟨oc13, od13, .func (PySem.W.fnOf "fits_rules" "fits_rules" (defArgs s_fits_rules) (defBody s_fits_rules) (defScope s_fits_rules) .none kV13 dc13 pm13 an13 cd13 ct13), sl13⟩) (c13 : PySem.W.codeIn K cd13 "fits_rules" = true) (k13 : PySem.W.keepIn K (.ref f13) = true)
    {f14 : Addr} {od14 an14 : Option Addr} {sl14 : Array (Option Value)} {oc14 kV14 dc14 pm14 cd14 ct14 : Value}
    (a14 : PySem.W.nsIn K mainGlobals "check_position" = some (some (.ref f14)))
    (l14 : K.lookup f14 = some ⟨oc14, od14, .func (PySem.W.fnOf "check_position" "check_position" (defArgs s_check_position) (defBody s_check_position) (defScope s_check_position) .none kV14 dc14 pm14 an14 cd14 ct14), sl14⟩) (c14 : PySem.W.codeIn K cd14 "check_position" = true) (k14 : PySem.W.keepIn K (.ref f14) = true)
    {f15 : Addr} {od15 an15 : Option Addr} {sl15 : Array (Option Value)} {oc15 kV15 dc15 pm15 cd15 ct15 : Value}
    (a15 : PySem.W.nsIn K mainGlobals "run_of" = some (some (.ref f15)))
    (l15 : K.lookup f15 = some ⟨oc15, od15, .func (PySem.W.fnOf "run_of" "run_of" (defArgs s_run_of) (defBody s_run_of) (defScope s_run_of) .none kV15 dc15 pm15 an15 cd15 ct15), sl15⟩) (c15 : PySem.W.codeIn K cd15 "run_of" = true) (k15 : PySem.W.keepIn K (.ref f15) = true)
    {f16 : Addr} {od16 an16 : Option Addr} {sl16 : Array (Option Value)} {oc16 kV16 dc16 pm16 cd16 ct16 : Value}
    (a16 : PySem.W.nsIn K mainGlobals "fits_supermove" = some (some (.ref f16)))
    (l16 : K.lookup f16 = some ⟨oc16, od16, .func (PySem.W.fnOf "fits_supermove" "fits_supermove" (defArgs s_fits_supermove) (defBody s_fits_supermove) (defScope s_fits_supermove) .none kV16 dc16 pm16 an16 cd16 ct16), sl16⟩) (c16 : PySem.W.codeIn K cd16 "fits_supermove" = true) (k16 : PySem.W.keepIn K (.ref f16) = true)
    {f17 : Addr} {od17 an17 : Option Addr} {sl17 : Array (Option Value)} {oc17 kV17 dc17 pm17 cd17 ct17 : Value}
    (a17 : PySem.W.nsIn K mainGlobals "lowest_of" = some (some (.ref f17)))
    (l17 : K.lookup f17 = some ⟨oc17, od17, .func (PySem.W.fnOf "lowest_of" "lowest_of" (defArgs s_lowest_of) (defBody s_lowest_of) (defScope s_lowest_of) .none kV17 dc17 pm17 an17 cd17 ct17), sl17⟩) (c17 : PySem.W.codeIn K cd17 "lowest_of" = true) (k17 : PySem.W.keepIn K (.ref f17) = true)
    {f18 : Addr} {od18 an18 : Option Addr} {sl18 : Array (Option Value)} {oc18 kV18 dc18 pm18 cd18 ct18 : Value}
    (a18 : PySem.W.nsIn K mainGlobals "makes_sense" = some (some (.ref f18)))
    (l18 : K.lookup f18 = some ⟨oc18, od18, .func (PySem.W.fnOf "makes_sense" "makes_sense" (defArgs s_makes_sense) (defBody s_makes_sense) (defScope s_makes_sense) .none kV18 dc18 pm18 an18 cd18 ct18), sl18⟩) (c18 : PySem.W.codeIn K cd18 "makes_sense" = true) (k18 : PySem.W.keepIn K (.ref f18) = true)
    {f19 : Addr} {od19 an19 : Option Addr} {sl19 : Array (Option Value)} {oc19 kV19 dc19 pm19 cd19 ct19 : Value}
    (a19 : PySem.W.nsIn K mainGlobals "check_supermove" = some (some (.ref f19)))
    (l19 : K.lookup f19 = some ⟨oc19, od19, .func (PySem.W.fnOf "check_supermove" "check_supermove" (defArgs s_check_supermove) (defBody s_check_supermove) (defScope s_check_supermove) .none kV19 dc19 pm19 an19 cd19 ct19), sl19⟩) (c19 : PySem.W.codeIn K cd19 "check_supermove" = true) (k19 : PySem.W.keepIn K (.ref f19) = true)
    {f20 : Addr} {od20 an20 : Option Addr} {sl20 : Array (Option Value)} {oc20 kV20 dc20 pm20 cd20 ct20 : Value}
    (a20 : PySem.W.nsIn K mainGlobals "is_sensible" = some (some (.ref f20)))
    (l20 : K.lookup f20 = some ⟨oc20, od20, .func (PySem.W.fnOf "is_sensible" "is_sensible" (defArgs s_is_sensible) (defBody s_is_sensible) (defScope s_is_sensible) .none kV20 dc20 pm20 an20 cd20 ct20), sl20⟩) (c20 : PySem.W.codeIn K cd20 "is_sensible" = true) (k20 : PySem.W.keepIn K (.ref f20) = true)
    {f21 : Addr} {od21 an21 : Option Addr} {sl21 : Array (Option Value)} {oc21 kV21 dc21 pm21 cd21 ct21 : Value}
    (a21 : PySem.W.nsIn K mainGlobals "check_sensible" = some (some (.ref f21)))
    (l21 : K.lookup f21 = some ⟨oc21, od21, .func (PySem.W.fnOf "check_sensible" "check_sensible" (defArgs s_check_sensible) (defBody s_check_sensible) (defScope s_check_sensible) .none kV21 dc21 pm21 an21 cd21 ct21), sl21⟩) (c21 : PySem.W.codeIn K cd21 "check_sensible" = true) (k21 : PySem.W.keepIn K (.ref f21) = true)
    {f22 : Addr} {od22 an22 : Option Addr} {sl22 : Array (Option Value)} {oc22 kV22 dc22 pm22 cd22 ct22 : Value}
    (a22 : PySem.W.nsIn K mainGlobals "numbers_free" = some (some (.ref f22)))
    (l22 : K.lookup f22 = some ⟨oc22, od22, .func (PySem.W.fnOf "numbers_free" "numbers_free" (defArgs s_numbers_free) (defBody s_numbers_free) (defScope s_numbers_free) .none kV22 dc22 pm22 an22 cd22 ct22), sl22⟩) (c22 : PySem.W.codeIn K cd22 "numbers_free" = true) (k22 : PySem.W.keepIn K (.ref f22) = true)
    {f23 : Addr} {od23 an23 : Option Addr} {sl23 : Array (Option Value)} {oc23 kV23 dc23 pm23 cd23 ct23 : Value}
    (a23 : PySem.W.nsIn K mainGlobals "helping_columns" = some (some (.ref f23)))
    (l23 : K.lookup f23 = some ⟨oc23, od23, .func (PySem.W.fnOf "helping_columns" "helping_columns" (defArgs s_helping_columns) (defBody s_helping_columns) (defScope s_helping_columns) .none kV23 dc23 pm23 an23 cd23 ct23), sl23⟩) (c23 : PySem.W.codeIn K cd23 "helping_columns" = true) (k23 : PySem.W.keepIn K (.ref f23) = true)
    {f24 : Addr} {od24 an24 : Option Addr} {sl24 : Array (Option Value)} {oc24 kV24 dc24 pm24 cd24 ct24 : Value}
    (a24 : PySem.W.nsIn K mainGlobals "kind_beside" = some (some (.ref f24)))
    (l24 : K.lookup f24 = some ⟨oc24, od24, .func (PySem.W.fnOf "kind_beside" "kind_beside" (defArgs s_kind_beside) (defBody s_kind_beside) (defScope s_kind_beside) .none kV24 dc24 pm24 an24 cd24 ct24), sl24⟩) (c24 : PySem.W.codeIn K cd24 "kind_beside" = true) (k24 : PySem.W.keepIn K (.ref f24) = true)
    {f25 : Addr} {od25 an25 : Option Addr} {sl25 : Array (Option Value)} {oc25 kV25 dc25 pm25 cd25 ct25 : Value}
    (a25 : PySem.W.nsIn K mainGlobals "room_beside" = some (some (.ref f25)))
    (l25 : K.lookup f25 = some ⟨oc25, od25, .func (PySem.W.fnOf "room_beside" "room_beside" (defArgs s_room_beside) (defBody s_room_beside) (defScope s_room_beside) .none kV25 dc25 pm25 an25 cd25 ct25), sl25⟩) (c25 : PySem.W.codeIn K cd25 "room_beside" = true) (k25 : PySem.W.keepIn K (.ref f25) = true)
    {f26 : Addr} {od26 an26 : Option Addr} {sl26 : Array (Option Value)} {oc26 kV26 dc26 pm26 cd26 ct26 : Value}
    (a26 : PySem.W.nsIn K mainGlobals "room_of" = some (some (.ref f26)))
    (l26 : K.lookup f26 = some ⟨oc26, od26, .func (PySem.W.fnOf "room_of" "room_of" (defArgs s_room_of) (defBody s_room_of) (defScope s_room_of) .none kV26 dc26 pm26 an26 cd26 ct26), sl26⟩) (c26 : PySem.W.codeIn K cd26 "room_of" = true) (k26 : PySem.W.keepIn K (.ref f26) = true)
    {f27 : Addr} {od27 an27 : Option Addr} {sl27 : Array (Option Value)} {oc27 kV27 dc27 pm27 cd27 ct27 : Value}
    (a27 : PySem.W.nsIn K mainGlobals "_law_cell" = some (some (.ref f27)))
    (l27 : K.lookup f27 = some ⟨oc27, od27, .func (PySem.W.fnOf "_law_cell" "_law_cell" (defArgs s_law_cell) (defBody s_law_cell) (defScope s_law_cell) .none kV27 dc27 pm27 an27 cd27 ct27), sl27⟩) (c27 : PySem.W.codeIn K cd27 "_law_cell" = true) (k27 : PySem.W.keepIn K (.ref f27) = true)
    {f28 : Addr} {od28 an28 : Option Addr} {sl28 : Array (Option Value)} {oc28 kV28 dc28 pm28 cd28 ct28 : Value}
    (a28 : PySem.W.nsIn K mainGlobals "_law_hash" = some (some (.ref f28)))
    (l28 : K.lookup f28 = some ⟨oc28, od28, .func (PySem.W.fnOf "_law_hash" "_law_hash" (defArgs s_law_hash) (defBody s_law_hash) (defScope s_law_hash) .none kV28 dc28 pm28 an28 cd28 ct28), sl28⟩) (c28 : PySem.W.codeIn K cd28 "_law_hash" = true) (k28 : PySem.W.keepIn K (.ref f28) = true)
    {f29 : Addr} {od29 an29 : Option Addr} {sl29 : Array (Option Value)} {oc29 kV29 dc29 pm29 cd29 ct29 : Value}
    (a29 : PySem.W.nsIn K mainGlobals "_law_generator" = some (some (.ref f29)))
    (l29 : K.lookup f29 = some ⟨oc29, od29, .func (PySem.W.fnOf "_law_generator" "_law_generator" (defArgs s_law_generator) (defBody s_law_generator) (defScope s_law_generator) .none kV29 dc29 pm29 an29 cd29 ct29), sl29⟩) (c29 : PySem.W.codeIn K cd29 "_law_generator" = true) (k29 : PySem.W.keepIn K (.ref f29) = true)
    {f30 : Addr} {od30 an30 : Option Addr} {sl30 : Array (Option Value)} {oc30 kV30 dc30 pm30 cd30 ct30 : Value}
    (a30 : PySem.W.nsIn K mainGlobals "_law_random" = some (some (.ref f30)))
    (l30 : K.lookup f30 = some ⟨oc30, od30, .func (PySem.W.fnOf "_law_random" "_law_random" (defArgs s_law_random) (defBody s_law_random) (defScope s_law_random) .none kV30 dc30 pm30 an30 cd30 ct30), sl30⟩) (c30 : PySem.W.codeIn K cd30 "_law_random" = true) (k30 : PySem.W.keepIn K (.ref f30) = true)
    {f31 : Addr} {od31 an31 : Option Addr} {sl31 : Array (Option Value)} {oc31 kV31 dc31 pm31 cd31 ct31 : Value}
    (a31 : PySem.W.nsIn K mainGlobals "_law_rules" = some (some (.ref f31)))
    (l31 : K.lookup f31 = some ⟨oc31, od31, .func (PySem.W.fnOf "_law_rules" "_law_rules" (defArgs s_law_rules) (defBody s_law_rules) (defScope s_law_rules) .none kV31 dc31 pm31 an31 cd31 ct31), sl31⟩) (c31 : PySem.W.codeIn K cd31 "_law_rules" = true) (k31 : PySem.W.keepIn K (.ref f31) = true)
    {f32 : Addr} {od32 an32 : Option Addr} {sl32 : Array (Option Value)} {oc32 kV32 dc32 pm32 cd32 ct32 : Value}
    (a32 : PySem.W.nsIn K mainGlobals "_law_lies" = some (some (.ref f32)))
    (l32 : K.lookup f32 = some ⟨oc32, od32, .func (PySem.W.fnOf "_law_lies" "_law_lies" (defArgs s_law_lies) (defBody s_law_lies) (defScope s_law_lies) .none kV32 dc32 pm32 an32 cd32 ct32), sl32⟩) (c32 : PySem.W.codeIn K cd32 "_law_lies" = true) (k32 : PySem.W.keepIn K (.ref f32) = true)
    {f33 : Addr} {od33 an33 : Option Addr} {sl33 : Array (Option Value)} {oc33 kV33 dc33 pm33 cd33 ct33 : Value}
    (a33 : PySem.W.nsIn K mainGlobals "_law_position" = some (some (.ref f33)))
    (l33 : K.lookup f33 = some ⟨oc33, od33, .func (PySem.W.fnOf "_law_position" "_law_position" (defArgs s_law_position) (defBody s_law_position) (defScope s_law_position) .none kV33 dc33 pm33 an33 cd33 ct33), sl33⟩) (c33 : PySem.W.codeIn K cd33 "_law_position" = true) (k33 : PySem.W.keepIn K (.ref f33) = true)
    {f34 : Addr} {od34 an34 : Option Addr} {sl34 : Array (Option Value)} {oc34 kV34 dc34 pm34 cd34 ct34 : Value}
    (a34 : PySem.W.nsIn K mainGlobals "_law_run" = some (some (.ref f34)))
    (l34 : K.lookup f34 = some ⟨oc34, od34, .func (PySem.W.fnOf "_law_run" "_law_run" (defArgs s_law_run) (defBody s_law_run) (defScope s_law_run) .none kV34 dc34 pm34 an34 cd34 ct34), sl34⟩) (c34 : PySem.W.codeIn K cd34 "_law_run" = true) (k34 : PySem.W.keepIn K (.ref f34) = true)
    {f35 : Addr} {od35 an35 : Option Addr} {sl35 : Array (Option Value)} {oc35 kV35 dc35 pm35 cd35 ct35 : Value}
    (a35 : PySem.W.nsIn K mainGlobals "_law_supermoves" = some (some (.ref f35)))
    (l35 : K.lookup f35 = some ⟨oc35, od35, .func (PySem.W.fnOf "_law_supermoves" "_law_supermoves" (defArgs s_law_supermoves) (defBody s_law_supermoves) (defScope s_law_supermoves) .none kV35 dc35 pm35 an35 cd35 ct35), sl35⟩) (c35 : PySem.W.codeIn K cd35 "_law_supermoves" = true) (k35 : PySem.W.keepIn K (.ref f35) = true)
    {f36 : Addr} {od36 an36 : Option Addr} {sl36 : Array (Option Value)} {oc36 kV36 dc36 pm36 cd36 ct36 : Value}
    (a36 : PySem.W.nsIn K mainGlobals "_law_sensible" = some (some (.ref f36)))
    (l36 : K.lookup f36 = some ⟨oc36, od36, .func (PySem.W.fnOf "_law_sensible" "_law_sensible" (defArgs s_law_sensible) (defBody s_law_sensible) (defScope s_law_sensible) .none kV36 dc36 pm36 an36 cd36 ct36), sl36⟩) (c36 : PySem.W.codeIn K cd36 "_law_sensible" = true) (k36 : PySem.W.keepIn K (.ref f36) = true)
    {f37 : Addr} {od37 an37 : Option Addr} {sl37 : Array (Option Value)} {oc37 kV37 dc37 pm37 cd37 ct37 : Value}
    (a37 : PySem.W.nsIn K mainGlobals "_law_room_of" = some (some (.ref f37)))
    (l37 : K.lookup f37 = some ⟨oc37, od37, .func (PySem.W.fnOf "_law_room_of" "_law_room_of" (defArgs s_law_room_of) (defBody s_law_room_of) (defScope s_law_room_of) .none kV37 dc37 pm37 an37 cd37 ct37), sl37⟩) (c37 : PySem.W.codeIn K cd37 "_law_room_of" = true) (k37 : PySem.W.keepIn K (.ref f37) = true)
    {f38 : Addr} {od38 an38 : Option Addr} {sl38 : Array (Option Value)} {oc38 kV38 dc38 pm38 cd38 ct38 : Value}
    (a38 : PySem.W.nsIn K mainGlobals "_law_right" = some (some (.ref f38)))
    (l38 : K.lookup f38 = some ⟨oc38, od38, .func (PySem.W.fnOf "_law_right" "_law_right" (defArgs s_law_right) (defBody s_law_right) (defScope s_law_right) .none kV38 dc38 pm38 an38 cd38 ct38), sl38⟩) (c38 : PySem.W.codeIn K cd38 "_law_right" = true) (k38 : PySem.W.keepIn K (.ref f38) = true)
    {f39 : Addr} {od39 an39 : Option Addr} {sl39 : Array (Option Value)} {oc39 kV39 dc39 pm39 cd39 ct39 : Value}
    (a39 : PySem.W.nsIn K mainGlobals "law" = some (some (.ref f39)))
    (l39 : K.lookup f39 = some ⟨oc39, od39, .func (PySem.W.fnOf "law" "law" (defArgs s_law) (defBody s_law) (defScope s_law) .none kV39 dc39 pm39 an39 cd39 ct39), sl39⟩) (c39 : PySem.W.codeIn K cd39 "law" = true) (k39 : PySem.W.keepIn K (.ref f39) = true)
    (z_all : PySem.W.nsIn K mainGlobals "all" = some none)
    (z_bool : PySem.W.nsIn K mainGlobals "bool" = some none)
    (z_enumerate : PySem.W.nsIn K mainGlobals "enumerate" = some none)
    (z_int : PySem.W.nsIn K mainGlobals "int" = some none)
    (z_isinstance : PySem.W.nsIn K mainGlobals "isinstance" = some none)
    (z_len : PySem.W.nsIn K mainGlobals "len" = some none)
    (z_list : PySem.W.nsIn K mainGlobals "list" = some none)
    (z_max : PySem.W.nsIn K mainGlobals "max" = some none)
    (z_range : PySem.W.nsIn K mainGlobals "range" = some none)
    (z_repr : PySem.W.nsIn K mainGlobals "repr" = some none)
    (z_sorted : PySem.W.nsIn K mainGlobals "sorted" = some none)
    (z_sum : PySem.W.nsIn K mainGlobals "sum" = some none)
    (z_tuple : PySem.W.nsIn K mainGlobals "tuple" = some none)
    {p_BUILDS : Addr} {dd_BUILDS : Option Addr} {nn_BUILDS : Nat} {ss_BUILDS : Array (Option Value)} {t0_BUILDS t1_BUILDS t2_BUILDS : Tok} (g_BUILDS : PySem.W.nsIn K mainGlobals "BUILDS" = some (some (.ref p_BUILDS))) (o_BUILDS : K.lookup p_BUILDS = some ⟨.type "tuple", dd_BUILDS, .seq #[.str "other" t0_BUILDS, .str "same" t1_BUILDS, .str "any" t2_BUILDS] nn_BUILDS, ss_BUILDS⟩)
    {tk_MOST_RANKS : Tok} (g_MOST_RANKS : PySem.W.nsIn K mainGlobals "MOST_RANKS" = some (some (.int 20 tk_MOST_RANKS)))
    {tk_MOST_SUITS : Tok} (g_MOST_SUITS : PySem.W.nsIn K mainGlobals "MOST_SUITS" = some (some (.int 8 tk_MOST_SUITS))) :
    ∃ fd : FuncData, (∀ (s : Shared) (v : Value), BindsTo s fd ⟨[v], []⟩ [("script", v)]) ∧ ∀ base : Heap, K.In base → base.Ns mainGlobals mg → FnG l.prog w K mg base 12 fa fd 1 ["script"] (spM K 1 m_law) := by
  have e := hfa.symm.trans (PySem.W.mg_of X G a39)
  cases e
  let T : Tx K w mg := {
    f_is_whole := f0
    d_is_whole := _
    F_is_whole := fun_mk (st := s_is_whole) l0 c0 k0
    b_is_whole := (fun_mk (st := s_is_whole) l0 c0 k0).binds (ps := ["value"]) fun _ _ _ _ _ _ us hl => match us, hl with | [_], _ => rfl
    m_is_whole := PySem.W.mg_of X G a0
    f_is_within := f1
    d_is_within := _
    F_is_within := fun_mk (st := s_is_within) l1 c1 k1
    b_is_within := (fun_mk (st := s_is_within) l1 c1 k1).binds (ps := ["value", "low", "high"]) fun _ _ _ _ _ _ us hl => match us, hl with | [_, _, _], _ => rfl
    m_is_within := PySem.W.mg_of X G a1
    f_is_tuple_of := f2
    d_is_tuple_of := _
    F_is_tuple_of := fun_mk (st := s_is_tuple_of) l2 c2 k2
    b_is_tuple_of := (fun_mk (st := s_is_tuple_of) l2 c2 k2).binds (ps := ["value", "many"]) fun _ _ _ _ _ _ us hl => match us, hl with | [_, _], _ => rfl
    m_is_tuple_of := PySem.W.mg_of X G a2
    f_is_rules := f3
    d_is_rules := _
    F_is_rules := fun_mk (st := s_is_rules) l3 c3 k3
    b_is_rules := (fun_mk (st := s_is_rules) l3 c3 k3).binds (ps := ["value"]) fun _ _ _ _ _ _ us hl => match us, hl with | [_], _ => rfl
    m_is_rules := PySem.W.mg_of X G a3
    f_check_rules := f4
    d_check_rules := _
    F_check_rules := fun_mk (st := s_check_rules) l4 c4 k4
    b_check_rules := (fun_mk (st := s_check_rules) l4 c4 k4).binds (ps := ["rules"]) fun _ _ _ _ _ _ us hl => match us, hl with | [_], _ => rfl
    m_check_rules := PySem.W.mg_of X G a4
    f_fits_deck := f5
    d_fits_deck := _
    F_fits_deck := fun_mk (st := s_fits_deck) l5 c5 k5
    b_fits_deck := (fun_mk (st := s_fits_deck) l5 c5 k5).binds (ps := ["rules", "value"]) fun _ _ _ _ _ _ us hl => match us, hl with | [_, _], _ => rfl
    m_fits_deck := PySem.W.mg_of X G a5
    f_cards_of := f6
    d_cards_of := _
    F_cards_of := fun_mk (st := s_cards_of) l6 c6 k6
    b_cards_of := (fun_mk (st := s_cards_of) l6 c6 k6).binds (ps := ["rules"]) fun _ _ _ _ _ _ us hl => match us, hl with | [_], _ => rfl
    m_cards_of := PySem.W.mg_of X G a6
    f_goes_on := f7
    d_goes_on := _
    F_goes_on := fun_mk (st := s_goes_on) l7 c7 k7
    b_goes_on := (fun_mk (st := s_goes_on) l7 c7 k7).binds (ps := ["rules", "card", "other"]) fun _ _ _ _ _ _ us hl => match us, hl with | [_, _, _], _ => rfl
    m_goes_on := PySem.W.mg_of X G a7
    f_are_cards := f8
    d_are_cards := _
    F_are_cards := fun_mk (st := s_are_cards) l8 c8 k8
    b_are_cards := (fun_mk (st := s_are_cards) l8 c8 k8).binds (ps := ["rules", "value"]) fun _ _ _ _ _ _ us hl => match us, hl with | [_, _], _ => rfl
    m_are_cards := PySem.W.mg_of X G a8
    f_are_columns := f9
    d_are_columns := _
    F_are_columns := fun_mk (st := s_are_columns) l9 c9 k9
    b_are_columns := (fun_mk (st := s_are_columns) l9 c9 k9).binds (ps := ["rules", "value"]) fun _ _ _ _ _ _ us hl => match us, hl with | [_, _], _ => rfl
    m_are_columns := PySem.W.mg_of X G a9
    f_are_cells := f10
    d_are_cells := _
    F_are_cells := fun_mk (st := s_are_cells) l10 c10 k10
    b_are_cells := (fun_mk (st := s_are_cells) l10 c10 k10).binds (ps := ["rules", "value"]) fun _ _ _ _ _ _ us hl => match us, hl with | [_, _], _ => rfl
    m_are_cells := PySem.W.mg_of X G a10
    f_are_homes := f11
    d_are_homes := _
    F_are_homes := fun_mk (st := s_are_homes) l11 c11 k11
    b_are_homes := (fun_mk (st := s_are_homes) l11 c11 k11).binds (ps := ["rules", "value"]) fun _ _ _ _ _ _ us hl => match us, hl with | [_, _], _ => rfl
    m_are_homes := PySem.W.mg_of X G a11
    f_cards_about := f12
    d_cards_about := _
    F_cards_about := fun_mk (st := s_cards_about) l12 c12 k12
    b_cards_about := (fun_mk (st := s_cards_about) l12 c12 k12).binds (ps := ["position"]) fun _ _ _ _ _ _ us hl => match us, hl with | [_], _ => rfl
    m_cards_about := PySem.W.mg_of X G a12
    f_fits_rules := f13
    d_fits_rules := _
    F_fits_rules := fun_mk (st := s_fits_rules) l13 c13 k13
    b_fits_rules := (fun_mk (st := s_fits_rules) l13 c13 k13).binds (ps := ["rules", "value"]) fun _ _ _ _ _ _ us hl => match us, hl with | [_, _], _ => rfl
    m_fits_rules := PySem.W.mg_of X G a13
    f_check_position := f14
    d_check_position := _
    F_check_position := fun_mk (st := s_check_position) l14 c14 k14
    b_check_position := (fun_mk (st := s_check_position) l14 c14 k14).binds (ps := ["rules", "position"]) fun _ _ _ _ _ _ us hl => match us, hl with | [_, _], _ => rfl
    m_check_position := PySem.W.mg_of X G a14
    f_run_of := f15
    d_run_of := _
    F_run_of := fun_mk (st := s_run_of) l15 c15 k15
    b_run_of := (fun_mk (st := s_run_of) l15 c15 k15).binds (ps := ["rules", "column"]) fun _ _ _ _ _ _ us hl => match us, hl with | [_, _], _ => rfl
    m_run_of := PySem.W.mg_of X G a15
    f_fits_supermove := f16
    d_fits_supermove := _
    F_fits_supermove := fun_mk (st := s_fits_supermove) l16 c16 k16
    b_fits_supermove := (fun_mk (st := s_fits_supermove) l16 c16 k16).binds (ps := ["rules", "position", "value"]) fun _ _ _ _ _ _ us hl => match us, hl with | [_, _, _], _ => rfl
    m_fits_supermove := PySem.W.mg_of X G a16
    f_lowest_of := f17
    d_lowest_of := _
    F_lowest_of := fun_mk (st := s_lowest_of) l17 c17 k17
    b_lowest_of := (fun_mk (st := s_lowest_of) l17 c17 k17).binds (ps := ["position", "supermove"]) fun _ _ _ _ _ _ us hl => match us, hl with | [_, _], _ => rfl
    m_lowest_of := PySem.W.mg_of X G a17
    f_makes_sense := f18
    d_makes_sense := _
    F_makes_sense := fun_mk (st := s_makes_sense) l18 c18 k18
    b_makes_sense := (fun_mk (st := s_makes_sense) l18 c18 k18).binds (ps := ["rules", "position", "supermove"]) fun _ _ _ _ _ _ us hl => match us, hl with | [_, _, _], _ => rfl
    m_makes_sense := PySem.W.mg_of X G a18
    f_check_supermove := f19
    d_check_supermove := _
    F_check_supermove := fun_mk (st := s_check_supermove) l19 c19 k19
    b_check_supermove := (fun_mk (st := s_check_supermove) l19 c19 k19).binds (ps := ["rules", "position", "supermove"]) fun _ _ _ _ _ _ us hl => match us, hl with | [_, _, _], _ => rfl
    m_check_supermove := PySem.W.mg_of X G a19
    f_is_sensible := f20
    d_is_sensible := _
    F_is_sensible := fun_mk (st := s_is_sensible) l20 c20 k20
    b_is_sensible := (fun_mk (st := s_is_sensible) l20 c20 k20).binds (ps := ["rules", "position", "supermove"]) fun _ _ _ _ _ _ us hl => match us, hl with | [_, _, _], _ => rfl
    m_is_sensible := PySem.W.mg_of X G a20
    f_check_sensible := f21
    d_check_sensible := _
    F_check_sensible := fun_mk (st := s_check_sensible) l21 c21 k21
    b_check_sensible := (fun_mk (st := s_check_sensible) l21 c21 k21).binds (ps := ["rules", "position", "supermove"]) fun _ _ _ _ _ _ us hl => match us, hl with | [_, _, _], _ => rfl
    m_check_sensible := PySem.W.mg_of X G a21
    f_numbers_free := f22
    d_numbers_free := _
    F_numbers_free := fun_mk (st := s_numbers_free) l22 c22 k22
    b_numbers_free := (fun_mk (st := s_numbers_free) l22 c22 k22).binds (ps := ["position"]) fun _ _ _ _ _ _ us hl => match us, hl with | [_], _ => rfl
    m_numbers_free := PySem.W.mg_of X G a22
    f_helping_columns := f23
    d_helping_columns := _
    F_helping_columns := fun_mk (st := s_helping_columns) l23 c23 k23
    b_helping_columns := (fun_mk (st := s_helping_columns) l23 c23 k23).binds (ps := ["rules", "position", "supermove", "card"]) fun _ _ _ _ _ _ us hl => match us, hl with | [_, _, _, _], _ => rfl
    m_helping_columns := PySem.W.mg_of X G a23
    f_kind_beside := f24
    d_kind_beside := _
    F_kind_beside := fun_mk (st := s_kind_beside) l24 c24 k24
    b_kind_beside := (fun_mk (st := s_kind_beside) l24 c24 k24).binds (ps := ["position", "supermove"]) fun _ _ _ _ _ _ us hl => match us, hl with | [_, _], _ => rfl
    m_kind_beside := PySem.W.mg_of X G a24
    f_room_beside := f25
    d_room_beside := _
    F_room_beside := fun_mk (st := s_room_beside) l25 c25 k25
    b_room_beside := (fun_mk (st := s_room_beside) l25 c25 k25).binds (ps := ["rules", "position", "supermove"]) fun _ _ _ _ _ _ us hl => match us, hl with | [_, _, _], _ => rfl
    m_room_beside := PySem.W.mg_of X G a25
    f_room_of := f26
    d_room_of := _
    F_room_of := fun_mk (st := s_room_of) l26 c26 k26
    b_room_of := (fun_mk (st := s_room_of) l26 c26 k26).binds (ps := ["rules", "position", "supermove"]) fun _ _ _ _ _ _ us hl => match us, hl with | [_, _, _], _ => rfl
    m_room_of := PySem.W.mg_of X G a26
    f_law_cell := f27
    d_law_cell := _
    F_law_cell := fun_mk (st := s_law_cell) l27 c27 k27
    b_law_cell := (fun_mk (st := s_law_cell) l27 c27 k27).binds (ps := ["script", "index"]) fun _ _ _ _ _ _ us hl => match us, hl with | [_, _], _ => rfl
    m_law_cell := PySem.W.mg_of X G a27
    f_law_hash := f28
    d_law_hash := _
    F_law_hash := fun_mk (st := s_law_hash) l28 c28 k28
    b_law_hash := (fun_mk (st := s_law_hash) l28 c28 k28).binds (ps := ["seed", "index"]) fun _ _ _ _ _ _ us hl => match us, hl with | [_, _], _ => rfl
    m_law_hash := PySem.W.mg_of X G a28
    f_law_generator := f29
    d_law_generator := _
    F_law_generator := fun_mk (st := s_law_generator) l29 c29 k29
    b_law_generator := (fun_mk (st := s_law_generator) l29 c29 k29).binds (ps := ["script", "index"]) fun _ _ _ _ _ _ us hl => match us, hl with | [_, _], _ => rfl
    m_law_generator := PySem.W.mg_of X G a29
    f_law_random := f30
    d_law_random := _
    F_law_random := fun_mk (st := s_law_random) l30 c30 k30
    b_law_random := (fun_mk (st := s_law_random) l30 c30 k30).binds (ps := ["generator", "limit"]) fun _ _ _ _ _ _ us hl => match us, hl with | [_, _], _ => rfl
    m_law_random := PySem.W.mg_of X G a30
    f_law_rules := f31
    d_law_rules := _
    F_law_rules := fun_mk (st := s_law_rules) l31 c31 k31
    b_law_rules := (fun_mk (st := s_law_rules) l31 c31 k31).binds (ps := ["generator"]) fun _ _ _ _ _ _ us hl => match us, hl with | [_], _ => rfl
    m_law_rules := PySem.W.mg_of X G a31
    f_law_lies := f32
    d_law_lies := _
    F_law_lies := fun_mk (st := s_law_lies) l32 c32 k32
    b_law_lies := (fun_mk (st := s_law_lies) l32 c32 k32).binds (ps := ["rules", "card", "other"]) fun _ _ _ _ _ _ us hl => match us, hl with | [_, _, _], _ => rfl
    m_law_lies := PySem.W.mg_of X G a32
    f_law_position := f33
    d_law_position := _
    F_law_position := fun_mk (st := s_law_position) l33 c33 k33
    b_law_position := (fun_mk (st := s_law_position) l33 c33 k33).binds (ps := ["generator", "rules"]) fun _ _ _ _ _ _ us hl => match us, hl with | [_, _], _ => rfl
    m_law_position := PySem.W.mg_of X G a33
    f_law_run := f34
    d_law_run := _
    F_law_run := fun_mk (st := s_law_run) l34 c34 k34
    b_law_run := (fun_mk (st := s_law_run) l34 c34 k34).binds (ps := ["rules", "column"]) fun _ _ _ _ _ _ us hl => match us, hl with | [_, _], _ => rfl
    m_law_run := PySem.W.mg_of X G a34
    f_law_supermoves := f35
    d_law_supermoves := _
    F_law_supermoves := fun_mk (st := s_law_supermoves) l35 c35 k35
    b_law_supermoves := (fun_mk (st := s_law_supermoves) l35 c35 k35).binds (ps := ["rules", "position"]) fun _ _ _ _ _ _ us hl => match us, hl with | [_, _], _ => rfl
    m_law_supermoves := PySem.W.mg_of X G a35
    f_law_sensible := f36
    d_law_sensible := _
    F_law_sensible := fun_mk (st := s_law_sensible) l36 c36 k36
    b_law_sensible := (fun_mk (st := s_law_sensible) l36 c36 k36).binds (ps := ["rules", "position", "supermove"]) fun _ _ _ _ _ _ us hl => match us, hl with | [_, _, _], _ => rfl
    m_law_sensible := PySem.W.mg_of X G a36
    f_law_room_of := f37
    d_law_room_of := _
    F_law_room_of := fun_mk (st := s_law_room_of) l37 c37 k37
    b_law_room_of := (fun_mk (st := s_law_room_of) l37 c37 k37).binds (ps := ["rules", "position", "supermove"]) fun _ _ _ _ _ _ us hl => match us, hl with | [_, _, _], _ => rfl
    m_law_room_of := PySem.W.mg_of X G a37
    f_law_right := f38
    d_law_right := _
    F_law_right := fun_mk (st := s_law_right) l38 c38 k38
    b_law_right := (fun_mk (st := s_law_right) l38 c38 k38).binds (ps := ["generator"]) fun _ _ _ _ _ _ us hl => match us, hl with | [_], _ => rfl
    m_law_right := PySem.W.mg_of X G a38
    f_law := _
    d_law := _
    F_law := fun_mk (st := s_law) l39 c39 k39
    b_law := (fun_mk (st := s_law) l39 c39 k39).binds (ps := ["script"]) fun _ _ _ _ _ _ us hl => match us, hl with | [_], _ => rfl
    m_law := PySem.W.mg_of X G a39
    n_all := PySem.W.mg_none_of X G z_all
    n_bool := PySem.W.mg_none_of X G z_bool
    n_enumerate := PySem.W.mg_none_of X G z_enumerate
    n_int := PySem.W.mg_none_of X G z_int
    n_isinstance := PySem.W.mg_none_of X G z_isinstance
    n_len := PySem.W.mg_none_of X G z_len
    n_list := PySem.W.mg_none_of X G z_list
    n_max := PySem.W.mg_none_of X G z_max
    n_range := PySem.W.mg_none_of X G z_range
    n_repr := PySem.W.mg_none_of X G z_repr
    n_sorted := PySem.W.mg_none_of X G z_sorted
    n_sum := PySem.W.mg_none_of X G z_sum
    n_tuple := PySem.W.mg_none_of X G z_tuple
    a_BUILDS := p_BUILDS
    v_BUILDS := [.str "other", .str "same", .str "any"]
    g_BUILDS := PySem.W.mg_of X G g_BUILDS
    t_BUILDS := fun H => .inr ⟨_, #[_, _, _], _, o_BUILDS, rfl, rfl, (by show 3 ≤ sizeLine; decide), (.cons ⟨_, rfl⟩ (.cons ⟨_, rfl⟩ (.cons ⟨_, rfl⟩ .nil)))⟩
    d_BUILDS := fun H => (.cons (.str _) (.cons (.str _) (.cons (.str _) .nil)))
    k_MOST_RANKS := tk_MOST_RANKS
    g_MOST_RANKS := PySem.W.mg_of X G g_MOST_RANKS
    k_MOST_SUITS := tk_MOST_SUITS
    g_MOST_SUITS := PySem.W.mg_of X G g_MOST_SUITS
    kb_0 := kwb (fun_mk (st := s_is_sensible) l20 c20 k20) fun _ _ _ _ _ _ ws hl => match ws, hl with | [_, _, _], _ => rfl
    kb_1 := kwb (fun_mk (st := s_room_of) l26 c26 k26) fun _ _ _ _ _ _ ws hl => match ws, hl with | [_, _, _], _ => rfl }
  refine ⟨T.d_law, fun s v => .of_eq rfl, fun base _ _ => ?_⟩
  have G_is_whole := ok_is_whole (P := l.prog) (w := w) (base := base) T
  have G_is_within := ok_is_within (P := l.prog) (w := w) (base := base) T G_is_whole
  have G_is_tuple_of := ok_is_tuple_of (P := l.prog) (w := w) (base := base) T
  have G_is_rules := ok_is_rules (P := l.prog) (w := w) (base := base) T G_is_within G_is_tuple_of
  have G_check_rules := ok_check_rules (P := l.prog) (w := w) (base := base) T G_is_rules
  have G_fits_deck := ok_fits_deck (P := l.prog) (w := w) (base := base) T G_is_within G_is_tuple_of
  have G_cards_of := ok_cards_of (P := l.prog) (w := w) (base := base) T
  have G_goes_on := ok_goes_on (P := l.prog) (w := w) (base := base) T
  have G_are_cards := ok_are_cards (P := l.prog) (w := w) (base := base) T G_fits_deck
  have G_are_columns := ok_are_columns (P := l.prog) (w := w) (base := base) T G_are_cards
  have G_are_cells := ok_are_cells (P := l.prog) (w := w) (base := base) T G_fits_deck
  have G_are_homes := ok_are_homes (P := l.prog) (w := w) (base := base) T G_is_within
  have G_cards_about := ok_cards_about (P := l.prog) (w := w) (base := base) T
  have G_fits_rules := ok_fits_rules (P := l.prog) (w := w) (base := base) T G_is_tuple_of G_cards_of G_are_columns G_are_cells G_are_homes G_cards_about
  have G_check_position := ok_check_position (P := l.prog) (w := w) (base := base) T G_check_rules G_fits_rules
  have G_run_of := ok_run_of (P := l.prog) (w := w) (base := base) T G_goes_on
  have G_fits_supermove := ok_fits_supermove (P := l.prog) (w := w) (base := base) T G_is_within G_is_tuple_of G_run_of
  have G_lowest_of := ok_lowest_of (P := l.prog) (w := w) (base := base) T
  have G_makes_sense := ok_makes_sense (P := l.prog) (w := w) (base := base) T G_goes_on G_lowest_of
  have G_check_supermove := ok_check_supermove (P := l.prog) (w := w) (base := base) T G_check_position G_fits_supermove
  have G_is_sensible := ok_is_sensible (P := l.prog) (w := w) (base := base) T G_makes_sense G_check_supermove
  have G_check_sensible := ok_check_sensible (P := l.prog) (w := w) (base := base) T G_makes_sense G_check_supermove
  have G_numbers_free := ok_numbers_free (P := l.prog) (w := w) (base := base) T
  have G_helping_columns := ok_helping_columns (P := l.prog) (w := w) (base := base) T G_goes_on
  have G_kind_beside := ok_kind_beside (P := l.prog) (w := w) (base := base) T
  have G_room_beside := ok_room_beside (P := l.prog) (w := w) (base := base) T G_numbers_free G_helping_columns G_kind_beside
  have G_room_of := ok_room_of (P := l.prog) (w := w) (base := base) T G_check_sensible G_room_beside
  have G_law_cell := ok_law_cell (P := l.prog) (w := w) (base := base) T
  have G_law_hash := ok_law_hash (P := l.prog) (w := w) (base := base) T
  have G_law_generator := ok_law_generator (P := l.prog) (w := w) (base := base) T G_law_cell
  have G_law_random := ok_law_random (P := l.prog) (w := w) (base := base) T G_law_hash
  have G_law_rules := ok_law_rules (P := l.prog) (w := w) (base := base) T G_law_random
  have G_law_lies := ok_law_lies (P := l.prog) (w := w) (base := base) T
  have G_law_position := ok_law_position (P := l.prog) (w := w) (base := base) T G_law_random G_law_lies
  have G_law_run := ok_law_run (P := l.prog) (w := w) (base := base) T G_law_lies
  have G_law_supermoves := ok_law_supermoves (P := l.prog) (w := w) (base := base) T G_law_run
  have G_law_sensible := ok_law_sensible (P := l.prog) (w := w) (base := base) T G_law_lies
  have G_law_room_of := ok_law_room_of (P := l.prog) (w := w) (base := base) T G_law_lies
  have G_law_right := ok_law_right (P := l.prog) (w := w) (base := base) T G_is_sensible G_room_of G_law_rules G_law_position G_law_supermoves G_law_sensible G_law_room_of
  have G_law := ok_law (P := l.prog) (w := w) (base := base) T G_is_sensible G_room_of G_law_generator G_law_right
  exact G_law
end Lw

set_option Elab.async false
set_option linter.all false
set_option maxRecDepth 100000
set_option maxHeartbeats 4000000
set_option exponentiation.threshold 3000
namespace Lw
open PySem PySem.Spec PyProof.Rows L2 Evl DL

theorem cell_ok (ns : List Int) (i : Nat) (os : Os) (ht : Tidy os) : ∃ s : Int, m_law_cell [.d (.list (ns.map .int)), .d (.int i)] os = some (.int s, os) := by
  unfold m_law_cell
  rw [m_2]
  by_cases h : i < ns.length
  · have h1 : ixD (.list (ns.map .int)) (.int (i : Int)) = some (.int ns[i]) := ixD_list (by simp [h])
    refine ⟨ns[i], ?_⟩
    simp -implicitDefEqProofs [b_law_cell, cutW_self ht, h, h1]
  · have h2 : DL.cutD (ns.map PyData.int) none (some 1) = (DL.cutD ns none (some 1)).map PyData.int := by
      unfold DL.cutD
      simp [List.map_take, List.map_drop]
    have h3 : ∀ a : Int, modD (.int a) (.int 1000003) = some (.int (a % 1000003)) := fun a => modD_ok (by decide)
    refine ⟨(DL.cutD ns none (some 1)).sum % 1000003, ?_⟩
    simp -implicitDefEqProofs [b_law_cell, cutW_self ht, h, h2, h3]
theorem mulD_ex {a b : Int} (p q : Nat) (ha : a.natAbs < 2 ^ p) (hb : b.natAbs < 2 ^ q) (h : p + q ≤ 134217728) : ∃ y : Int, mulD (.int a) (.int b) = some (.int y) ∧ y.natAbs < 2 ^ (p + q) := by
  refine ⟨_, mulD_ok ha hb h, ?_⟩
  rw [Int.natAbs_mul, Nat.pow_add]
  exact Nat.mul_lt_mul_of_lt_of_lt ha hb
theorem modD_ex (a : Int) {b : Int} (h : 0 < b) : ∃ y : Int, modD (.int a) (.int b) = some (.int y) ∧ 0 ≤ y ∧ y < b :=
  ⟨_, modD_ok h, Int.emod_nonneg _ (Int.ne_of_gt h), Int.emod_lt_of_pos _ h⟩
theorem addD_ex (a b : Int) : ∃ y : Int, addD (.int a) (.int b) = some (.int y) ∧ y = a + b := ⟨_, rfl, rfl⟩
theorem hash_ok (s i : Int) (os : Os) (ht : Tidy os) (hs : s.natAbs < 2 ^ 40) (hi : i.natAbs < 2 ^ 100) : ∃ r : Int, m_law_hash [.d (.int s), .d (.int i)] os = some (.int r, os) ∧ 0 ≤ r ∧ r < 2147483647 := by
  unfold m_law_hash
  rw [m_2]
  obtain ⟨y1, h1, _⟩ := mulD_ex (a := s) (b := 1140671) 40 40 hs (by decide) (by decide)
  obtain ⟨y2, h2, c2⟩ := mulD_ex (a := 27644437) (b := i) 40 100 (by decide) hi (by decide)
  obtain ⟨y3, h3, _⟩ := mulD_ex (a := y2) (b := i) 140 100 c2 hi (by decide)
  obtain ⟨y4, h4, _⟩ := addD_ex y1 y3
  obtain ⟨y5, h5, _⟩ := mulD_ex (a := 131) (b := i) 40 100 (by decide) hi (by decide)
  obtain ⟨y6, h6, _⟩ := addD_ex y4 y5
  obtain ⟨y7, h7, _⟩ := addD_ex y6 19
  obtain ⟨y8, h8, c8, d8⟩ := modD_ex y7 (b := 2147483629) (by decide)
  obtain ⟨y9, h9, _⟩ := mulD_ex (a := y8) (b := y8) 40 40 (by omega) (by omega) (by decide)
  obtain ⟨z1, h10, _⟩ := mulD_ex (a := 62089) (b := i) 40 100 (by decide) hi (by decide)
  obtain ⟨z2, h11, _⟩ := addD_ex y9 z1
  obtain ⟨z3, h12, _⟩ := addD_ex z2 32416187
  obtain ⟨z4, h13, c13, d13⟩ := modD_ex z3 (b := 2147483587) (by decide)
  obtain ⟨z5, h14, _⟩ := mulD_ex (a := z4) (b := 48271) 40 40 (by omega) (by decide) (by decide)
  obtain ⟨z6, h15, c15, d15⟩ := modD_ex z5 (b := 2147483647) (by decide)
  refine ⟨z6, ?_, c15, d15⟩
  simp -implicitDefEqProofs [b_law_hash, cutW_self ht, -addD_int, h1, h2, h3, h4, h5, h6, h7, h8, h9, h10, h11, h12, h13, h14, h15]
def top2 : Int := (2 : Int) ^ 2000
/-- what a generator holds -/
def GenL (g : List PyData) (B : Int) : Prop := ∃ a b c : Int, g = [.int a, .int b, .int c] ∧ 0 ≤ a ∧ a < top2 ∧ 0 ≤ b ∧ b < 2147483647 ∧ 0 ≤ c ∧ c ≤ B
theorem GenL.mono {g : List PyData} {A B : Int} (h : GenL g A) (e : A ≤ B) : GenL g B := by
  obtain ⟨a, b, c, h0, h1, h2, h3, h4, h5, h6⟩ := h
  exact ⟨a, b, c, h0, h1, h2, h3, h4, h5, by omega⟩
theorem some_int {a b : Int} (h : a = b) : some (PyData.int a) = some (PyData.int b) := by rw [h]
theorem powD_10_18 : powD (.int 10) (.int 18) = some (.int 1000000000000000000) := (powD_ok (p := 40) (by decide) (by decide) (by decide)).trans (some_int (by decide))
theorem powD_10_60 : powD (.int 10) (.int 60) = some (.int 1000000000000000000000000000000000000000000000000000000000000) := (powD_ok (p := 40) (by decide) (by decide) (by decide)).trans (some_int (by decide))
def tens : Int := 1000000000000000000000000000000000000000000000000000000000000 ^ 10
theorem tens_pos : 0 < tens := by decide
theorem tens_lt : tens < top2 := by decide +kernel
theorem powD_600 : powD (.int 1000000000000000000000000000000000000000000000000000000000000) (.int 10) = some (.int tens) :=
  powD_ok (p := 200) (by decide) (by decide) (by decide)
theorem generator_ok (ns : List Int) (i : Nat) (os : Os) (ht : Tidy os) (hi : i < 100) : ∃ g, m_law_generator [.d (.list (ns.map .int)), .d (.int i)] os = some (g, os) ∧ GenL g 100000 := by
  obtain ⟨s, hs⟩ := cell_ok ns i os ht
  unfold m_law_generator
  rw [mF_2]
  have h1 : ∀ a : Int, modD (.int a) (.int tens) = some (.int (a % tens)) := fun a => modD_ok tens_pos
  have h7 : ∀ a : Int, modD (.int a) (.int 2147483647) = some (.int (a % 2147483647)) := fun a => modD_ok (by decide)
  have h2 : mulD (.int 1000) (.int (i : Int)) = some (.int (1000 * (i : Int))) := mulD_ok (p := 40) (q := 100) (by decide) (by omega) (by decide)
  have h3 : (3 : Nat) ≤ sizeLine := by decide
  obtain ⟨x, hx⟩ : ∃ x, maxD [.int (s - 1000000000000000000), .int 0] = some (.int x) := ⟨_, rfl⟩
  refine ⟨[.int (x % tens), .int (s % 2147483647), .int (1000 * i)], ?_, _, _, _, rfl, Int.emod_nonneg _ (Int.ne_of_gt tens_pos), Int.lt_trans (Int.emod_lt_of_pos _ tens_pos) tens_lt, Int.emod_nonneg _ (by decide), Int.emod_lt_of_pos _ (by decide), by omega, by omega⟩
  simp -implicitDefEqProofs [b_law_generator, cutW_self ht, -maxD_two, hx, hs, powD_10_18, powD_10_60, powD_600, h1, h7, h2, h3]


theorem ownAt_o {ρ : List Sl} {os : Os} {i k : Nat} {g : List PyData} (h : ρ[i]? = some (.o k)) (h2 : os[k]? = some (some (.l g))) : ownAt ρ os i = some (k, g) := by
  unfold ownAt
  rw [h]
  simp only
  rw [h2]
theorem get_set {os : Os} {k : Nat} {o o' : Option Ob} (h : os[k]? = some o) : (os.set k o')[k]? = some o' := by
  have hl : k < os.length := (List.getElem?_eq_some_iff.mp h).1
  rw [List.getElem?_set_self hl]
theorem get_ne {os : Os} {k j : Nat} {o' : Option Ob} (h : k ≠ j) : (os.set k o')[j]? = os[j]? := List.getElem?_set_ne h
theorem a_set {i : Nat} {ρ : List Sl} {os os1 os2 : Os} {xi xe : XE} {d : PyData} {j : Nat} {k : Nat} {g : List PyData} (h1 : xe ρ os = some (d, os1)) (h2 : xi ρ os1 = some (.int (j : Int), os2)) (h3 : ownAt ρ os2 i = some (k, g)) (hj : j < g.length) : sSet i xi xe ρ os = some (.nx ρ (os2.set k (some (.l (g.set j d))))) := by
  unfold sSet
  rw [h1, Option.bind_some, h2, Option.bind_some]
  simp only
  rw [h3, Option.bind_some]
  simp only
  unfold ixN
  rw [if_pos (by omega), if_pos (by omega)]
  simp
theorem a_ixO {i : Nat} {ρ : List Sl} {os os1 : Os} {xi : XE} {d : PyData} {j k : Nat} {g : List PyData} (h2 : xi ρ os = some (.int (j : Int), os1)) (h3 : ownAt ρ os1 i = some (k, g)) (hj : g[j]? = some d) : xIxO i xi ρ os = some (d, os1) := by
  unfold xIxO
  rw [h2, Option.bind_some]
  simp only
  rw [h3, Option.bind_some]
  simp only
  rw [DL.atI_nat hj]
  rfl
theorem set_eq {os : Os} {k : Nat} {o : Option Ob} (h : os[k]? = some o) : os.set k o = os := by
  apply List.ext_getElem?
  intro j
  by_cases e : k = j
  · subst e
    rw [get_set h, h]
  · rw [List.getElem?_set_ne e]
theorem setset {os : Os} {k : Nat} {o o' : Option Ob} : (os.set k o).set k o' = os.set k o' := List.set_set ..
/-- a step of the small seeds' drawing -/
theorem draws_ok {k : Nat} {a b L : Int} : ∀ (n : Nat) (items : List PyData) (c x : Int) (os : Os) (D : Nat) (y : Sl), items.length = n → os[k]? = some (some (.l [.int a, .int b, .int c])) → Tidy os → 0 ≤ b → b < 2147483647 → 0 ≤ c → c + n < 2 ^ 60 → x.natAbs < 2 ^ D → D + 100 * n ≤ 10000 →
    ∃ ρ2 x2 c2, forRun (gNm 3) ((sSeq (sSet 0 (xC (.int 2)) (xOp addD (xIxO 0 (xC (.int 2))) (xC (.int 1))))
  (sAsg (xOp addD (xOp mulD (xVar 2) (xC (.int 2147483587))) (xFn m_law_hash (xaD (xIxO 0 (xC (.int 1))) (xaD (xIxO 0 (xC (.int 2))) xaNil)))) (gNm 2)))) items [.o k, .d (.int L), .d (.int x), y] os = some (.nx [.o k, .d (.int L), .d (.int x2), ρ2] (os.set k (some (.l [.int a, .int b, .int c2])))) ∧ c2 = c + n
  | 0, [], c, x, os, D, y, _, h, _, _, _, _, _, _, _ => by
    refine ⟨y, x, c, ?_, by omega⟩
    rw [set_eq h]
    rfl
  | n + 1, d :: r, c, x, os, D, y, hn, h, ht, h1, h2, h3, h4, h5, h6 => by
    have g1 := get_set (o' := some (.l [.int a, .int b, .int (c + 1)])) h
    have ht1 : Tidy (os.set k (some (.l [.int a, .int b, .int (c + 1)]))) := ht.setl
    obtain ⟨hh, e1, e2, e3⟩ := hash_ok b (c + 1) _ ht1 (by omega) (by omega)
    obtain ⟨m, e4, e5⟩ := mulD_ex (a := x) (b := 2147483587) D 40 h5 (by decide) (by omega)
    obtain ⟨ρ2, x2, c2, q1, q2⟩ := draws_ok (L := L) n r (c + 1) (m + hh) (os.set k (some (.l [.int a, .int b, .int (c + 1)]))) (D + 100) (.d d) (by simpa using hn) g1 ht1 h1 h2 (by omega) (by omega) (by
      have : (m + hh).natAbs ≤ m.natAbs + hh.natAbs := Int.natAbs_add_le _ _
      have e6 : hh.natAbs < 2 ^ (D + 40) := Nat.lt_of_lt_of_le (by omega : hh.natAbs < 2 ^ 40) (Nat.pow_le_pow_right (by decide) (by omega))
      have e7 : 2 ^ (D + 100) = 2 ^ (D + 40) * 2 ^ 60 := by rw [← Nat.pow_add]
      have e8 : 2 ^ (D + 40) * 2 ≤ 2 ^ (D + 40) * 2 ^ 60 := Nat.mul_le_mul_left _ (by decide)
      omega) (by omega)
    refine ⟨ρ2, x2, c2, ?_, by omega⟩
    have s1 : sSet 0 (xC (.int 2)) (xOp addD (xIxO 0 (xC (.int 2))) (xC (.int 1))) [.o k, .d (.int L), .d (.int x), .d d] os = some (.nx [.o k, .d (.int L), .d (.int x), .d d] (os.set k (some (.l [.int a, .int b, .int (c + 1)])))) := by
      refine a_set (d := .int (c + 1)) (os1 := os) (os2 := os) (j := 2) (g := [.int a, .int b, .int c]) ?_ rfl (ownAt_o rfl h) (by simp)
      have e0 : xIxO 0 (xC (.int 2)) [.o k, .d (.int L), .d (.int x), .d d] os = some (.int c, os) := a_ixO (j := 2) rfl (ownAt_o rfl h) rfl
      simp -implicitDefEqProofs [e0]
    simp -implicitDefEqProofs only [forRun, a_nm, List.set_cons_succ, List.set_cons_zero, Option.bind_some, a_seq, s1]
    have s2 : sAsg (xOp addD (xOp mulD (xVar 2) (xC (.int 2147483587))) (xFn m_law_hash (xaD (xIxO 0 (xC (.int 1))) (xaD (xIxO 0 (xC (.int 2))) xaNil)))) (gNm 2) [.o k, .d (.int L), .d (.int x), .d d] (os.set k (some (.l [.int a, .int b, .int (c + 1)]))) = some (.nx [.o k, .d (.int L), .d (.int (m + hh)), .d d] (os.set k (some (.l [.int a, .int b, .int (c + 1)])))) := by
      have v1 : xIxO 0 (xC (.int 1)) [.o k, .d (.int L), .d (.int x), .d d] (os.set k (some (.l [.int a, .int b, .int (c + 1)]))) = some (.int b, _) := a_ixO (j := 1) rfl (ownAt_o rfl g1) rfl
      have v2 : xIxO 0 (xC (.int 2)) [.o k, .d (.int L), .d (.int x), .d d] (os.set k (some (.l [.int a, .int b, .int (c + 1)]))) = some (.int (c + 1), _) := a_ixO (j := 2) rfl (ownAt_o rfl g1) rfl
      simp -implicitDefEqProofs [v1, v2, e1, e4]
    rw [s2]
    simp -implicitDefEqProofs only [Option.bind_some, q1, List.set_set]
theorem rg1_ok {ρ : List Sl} {os os1 : Os} {ra : XA} {j : Int} (h : ra ρ os = some ([.d (.int j)], os1)) (h1 : -(2 ^ 62) ≤ j) (h2 : j < 2 ^ 62) : iRg ra ρ os = some (rangeD 0 j.toNat, os1) := by
  unfold iRg
  rw [h, Option.bind_some]
  simp only
  rw [if_pos ⟨h1, h2⟩]
theorem rg2_ok {ρ : List Sl} {os os1 : Os} {ra : XA} {i j : Int} (h : ra ρ os = some ([.d (.int i), .d (.int j)], os1)) (h0 : -(2 ^ 62) ≤ i) (h0' : i < 2 ^ 62) (h1 : -(2 ^ 62) ≤ j) (h2 : j < 2 ^ 62) : iRg ra ρ os = some (rangeD i (j - i).toNat, os1) := by
  unfold iRg
  rw [h, Option.bind_some]
  simp only
  rw [if_pos ⟨h0, h0', h1, h2⟩]
theorem rangeD_len {lo : Int} {n : Nat} : (rangeD lo n).length = n := by simp [rangeD]
theorem rand_ok {os : Os} {k : Nat} {g : List PyData} {B L : Int} (h : os[k]? = some (some (.l g))) (ht : Tidy os) (hg : GenL g B) (hB : B < 2 ^ 50) (hL : 0 < L) (hL2 : L.natAbs < 2 ^ 100) :
    ∃ r g', m_law_random [.o k, .d (.int L)] os = some (.int r, os.set k (some (.l g'))) ∧ GenL g' (B + 5) ∧ 0 ≤ r ∧ r < L := by
  obtain ⟨a, b, c, rfl, a0, a1, b0, b1, c0, c1⟩ := hg
  unfold m_law_random
  rw [m_2]
  have i0 : ∀ y z, xIxO 0 (xC (.int 0)) [.o k, .d (.int L), y, z] os = some (.int a, os) := fun y z => a_ixO (j := 0) rfl (ownAt_o rfl h) rfl
  have t0 : xBool (xOp gtD (xIxO 0 (xC (.int 0))) (xC (.int 0))) [.o k, .d (.int L), .u, .u] os = some (decide (a > 0), os) := by
    simp -implicitDefEqProofs [i0]
  by_cases ha : 0 < a
  · obtain ⟨m, e1, e2, e3⟩ := modD_ex a hL
    have hn : a.natAbs < 2 ^ 2000 := by
      have : a < (2 : Int) ^ 2000 := a1
      have e : ((2 ^ 2000 : Nat) : Int) = (2 : Int) ^ 2000 := by simp
      omega
    have e4 := fdivD_ok (a := a) hL hn (by decide)
    have e5 : 0 ≤ a / L := Int.ediv_nonneg a0 (Int.le_of_lt hL)
    have e6 : a / L ≤ a := Int.ediv_le_self _ a0
    have s1 : sAsg (xOp modD (xCall intD (xaD (xIxO 0 (xC (.int 0))) xaNil)) (xVar 1)) (gNm 2) [.o k, .d (.int L), .u, .u] os = some (.nx [.o k, .d (.int L), .d (.int m), .u] os) := by
      simp -implicitDefEqProofs [i0, e1]
    have s2 : sSet 0 (xC (.int 0)) (xOp fdivD (xIxO 0 (xC (.int 0))) (xVar 1)) [.o k, .d (.int L), .d (.int m), .u] os = some (.nx [.o k, .d (.int L), .d (.int m), .u] (os.set k (some (.l [.int (a / L), .int b, .int c])))) := by
      refine a_set (d := .int (a / L)) (os1 := os) (os2 := os) (j := 0) (g := [.int a, .int b, .int c]) ?_ rfl (ownAt_o rfl h) (by simp)
      simp -implicitDefEqProofs [i0, e4]
    refine ⟨m, [.int (a / L), .int b, .int c], ?_, ⟨_, _, _, rfl, e5, by omega, b0, b1, c0, by omega⟩, e2, e3⟩
    have d0 : decide (a > 0) = true := by simpa using ha
    have c9 : cutW os.length (os.set k (some (.l [.int (a / L), .int b, .int c]))) = some (os.set k (some (.l [.int (a / L), .int b, .int c]))) := by
      have := cutW_self (ht.setl (k := k) (ds := [.int (a / L), .int b, .int c]))
      rw [List.length_set] at this
      exact this
    simp -implicitDefEqProofs only [b_law_random, List.reduceReplicate, Nat.reduceSub, a_seq, a_sIf, t0, d0, Option.bind_some, if_true, s1, s2, a_ret]
    simp -implicitDefEqProofs [c9]
  · have hn1 := intBits_le hL2
    have e1 : fdivD (.int (Builtin.Int.intBits L : Nat)) (.int 30) = some (.int ((Builtin.Int.intBits L : Nat) / 30)) := fdivD_ok (p := 100) (by decide) (by
      have : (2 : Nat) ^ 100 > 100 := by decide
      omega) (by decide)
    generalize eN : ((Builtin.Int.intBits L : Nat) : Int) / 30 = N at e1
    have hN : 0 ≤ N ∧ N ≤ 3 := by omega
    have r1 : iRg (xaD (xOp addD (xC (.int 1)) (xOp fdivD (xUn bitsD (xVar 1)) (xC (.int 30)))) xaNil) [.o k, .d (.int L), .d (.int 0), .u] os = some (rangeD 0 (1 + N).toNat, os) := by
      refine rg1_ok (j := 1 + N) ?_ (by omega) (by omega)
      simp -implicitDefEqProofs [e1]
    obtain ⟨ρ2, x2, c2, q1, q2⟩ := draws_ok (a := a) (L := L) (1 + N).toNat (rangeD 0 (1 + N).toNat) c 0 os 0 .u rangeD_len h ht b0 b1 c0 (by omega) (by decide) (by omega)
    obtain ⟨m, e4, e5, e6⟩ := modD_ex x2 hL
    refine ⟨m, [.int a, .int b, .int c2], ?_, ⟨_, _, _, rfl, a0, a1, b0, b1, by omega, by omega⟩, e5, e6⟩
    have d0 : decide (a > 0) = false := by simpa using ha
    have c9 : cutW os.length (os.set k (some (.l [.int a, .int b, .int c2]))) = some (os.set k (some (.l [.int a, .int b, .int c2]))) := by
      have := cutW_self (ht.setl (k := k) (ds := [.int a, .int b, .int c2]))
      rw [List.length_set] at this
      exact this
    simp -implicitDefEqProofs only [b_law_random, List.reduceReplicate, Nat.reduceSub, a_seq, a_sIf, t0, d0, Option.bind_some, Bool.false_eq_true, if_false, a_next, a_asg, a_c, a_nm, Option.map_some, List.set_cons_succ, List.set_cons_zero, a_for, r1, q1]
    simp -implicitDefEqProofs [e4, c9]
end Lw

set_option Elab.async false
set_option linter.all false
set_option maxRecDepth 100000
set_option maxHeartbeats 4000000
set_option exponentiation.threshold 3000
namespace Lw
open PySem PySem.Spec PyProof.Rows L2 Evl DL
theorem small {n : Nat} (h : n ≤ 1000) : n ≤ sizeLine := by
  rw [DL.sizeLine_eq]
  omega
theorem seq_nx {a b : SE} {ρ ρ1 : List Sl} {os os1 : Os} {r : Option Out} (h1 : a ρ os = some (.nx ρ1 os1)) (h2 : b ρ1 os1 = r) : sSeq a b ρ os = r := by
  rw [a_seq, h1, Option.bind_some]
  simp only
  exact h2
theorem seq_rt {a b : SE} {ρ : List Sl} {os os1 : Os} {d : PyData} (h1 : a ρ os = some (.rt d os1)) : sSeq a b ρ os = some (.rt d os1) := by
  rw [a_seq, h1]
  rfl
theorem if_no {t : XT} {a : SE} {ρ : List Sl} {os os1 : Os} (h : t ρ os = some (false, os1)) : sIf t a sNext ρ os = some (.nx ρ os1) := by
  rw [a_sIf, h]
  rfl
/-! comprehensions of two fors whose parts change nothing -/
theorem lc2_pure {α β : Type} {xg xg1 : XG} {xi1 : XI} {tt1 : XT} {te : XE} {vs1 : List Nat} {ρ : List Sl} {os : Os} (f : α → PyData) (I : α → List β) (f1 : β → PyData) (p : α → β → Bool) (h : α → β → PyData) : ∀ (l : List α) (acc : List PyData),
    (∀ x ∈ l, ∃ ρ1, xg (f x) ρ = some ρ1 ∧ xi1 ρ1 os = some ((I x).map f1, os) ∧ ∀ y ∈ I x, ∃ ρ2, xg1 (f1 y) (wipeR ρ1 vs1) = some ρ2 ∧ tt1 ρ2 os = some (p x y, os) ∧ (p x y = true → te ρ2 os = some (h x y, os))) →
    acc.length + (l.map fun x => (I x).length).sum ≤ sizeLine → lc2Run xg xYes xi1 xg1 tt1 te vs1 ρ (l.map f) acc os = some (acc ++ l.flatMap (fun x => ((I x).filter (p x)).map (h x)), os)
  | [], acc, _, _ => by simp [lc2Run]
  | x :: r, acc, H, hl => by
    obtain ⟨ρ1, h1, h2, h3⟩ := H x (by simp)
    rw [List.map_cons, List.sum_cons] at hl
    have q := lc_pure (ρ := wipeR ρ1 vs1) f1 (p x) (h x) (I x) acc h3 (by omega)
    have fl : (((I x).filter (p x)).map (h x)).length ≤ (I x).length := by
      rw [List.length_map]
      exact List.length_filter_le _ _
    have ih := lc2_pure f I f1 p h r (acc ++ ((I x).filter (p x)).map (h x)) (fun y hy => H y (by simp [hy])) (by rw [List.length_append]; omega)
    rw [List.map_cons]
    simp only [lc2Run, h1, Option.bind_some, xYes, if_true, h2, q]
    rw [ih]
    simp
theorem lc2D_pure {α β : Type} {xi xi1 : XI} {xg xg1 : XG} {tt1 : XT} {te : XE} {vs vs1 : List Nat} {ρ : List Sl} {os : Os} {l : List α} {f : α → PyData} {I : α → List β} {f1 : β → PyData} {p : α → β → Bool} {h : α → β → PyData} (hi : xi ρ os = some (l.map f, os))
    (H : ∀ x ∈ l, ∃ ρ1, xg (f x) (wipeR ρ vs) = some ρ1 ∧ xi1 ρ1 os = some ((I x).map f1, os) ∧ ∀ y ∈ I x, ∃ ρ2, xg1 (f1 y) (wipeR ρ1 vs1) = some ρ2 ∧ tt1 ρ2 os = some (p x y, os) ∧ (p x y = true → te ρ2 os = some (h x y, os)))
    (hl : (l.map fun x => (I x).length).sum ≤ sizeLine) : lc2D xi xg xYes xi1 xg1 tt1 te vs vs1 ρ os = some (l.flatMap (fun x => ((I x).filter (p x)).map (h x)), os) := by
  unfold lc2D
  rw [hi, Option.bind_some, lc2_pure f I f1 p h l [] H (by simpa using hl)]
  simp
/-! rules, cards, positions as data -/
abbrev Card := Int × Int
def pairD (p : Card) : PyData := .tuple [.int p.1, .int p.2]
def optD : Option Card → PyData
  | none => .none
  | some c => pairD c
def rulesD (r s : Int) (b : Str) : PyData := .tuple [.int r, .int s, .str b]
abbrev colD (c : List Card) : PyData := .list (c.map pairD)
def posD (cols : List (List Card)) (cells : List (Option Card)) (homes : List Int) : PyData := .tuple [.list (cols.map colD), .list (cells.map optD), .list (homes.map .int)]
def Bd (x : Str) : Prop := x = "other" ∨ x = "same" ∨ x = "any"
structure Rl (r s : Int) (b : Str) : Prop where
  r0 : 1 ≤ r
  r1 : r ≤ 20
  s0 : 1 ≤ s
  s1 : s ≤ 8
  bd : Bd b
section
variable {r s : Int} {b : Str} {os : Os}
theorem whole_int {i : Int} (ht : Tidy os) : m_is_whole [.d (.int i)] os = some (.bool true, os) := by
  unfold m_is_whole
  rw [m_1]
  simp -implicitDefEqProofs [b_is_whole, cutW_self ht]
theorem within_ok {i l h : Int} (ht : Tidy os) : m_is_within [.d (.int i), .d (.int l), .d (.int h)] os = some (.bool (decide (l ≤ i) && decide (i ≤ h)), os) := by
  unfold m_is_within
  rw [m_3]
  have ch : xChain leD leD (xVar 1) (xVar 0) (xVar 2) [.d (.int i), .d (.int l), .d (.int h)] os = some (.bool (decide (l ≤ i) && decide (i ≤ h)), os) := by
    by_cases c : l ≤ i
    · unfold xChain
      simp -implicitDefEqProofs [c]
    · unfold xChain
      simp -implicitDefEqProofs [c]
  simp -implicitDefEqProofs only [b_is_within, List.reduceReplicate, Nat.reduceSub, a_ret, a_andV, a_fn, a_d, a_var, a_nil, List.getElem?_cons_zero, List.getElem?_cons_succ, slD_d, Option.map_some, Option.bind_some, whole_int ht, truthD_bool, boolOf_bool, if_true, ch, outM_rt, cutW_self ht]
theorem rules_ok (ht : Tidy os) (h : Rl r s b) : m_check_rules [.d (rulesD r s b)] os = some (.none, os) := by
  have h1 : m_is_tuple_of [.d (rulesD r s b), .d (.int 3)] os = some (.bool true, os) := by
    unfold m_is_tuple_of
    rw [m_2]
    simp -implicitDefEqProofs [b_is_tuple_of, rulesD, cutW_self ht, DL.eqD_int]
  have e : inT false c_BUILDS (.str b) = some (.bool true) := by
    rcases h.bd with rfl | rfl | rfl <;> kernel_rfl
  have w1 := within_ok (i := r) (l := 1) (h := 20) ht
  rw [decide_eq_true h.r0, decide_eq_true h.r1] at w1
  have w2 := within_ok (i := s) (l := 1) (h := 8) ht
  rw [decide_eq_true h.s0, decide_eq_true h.s1] at w2
  have h2 : m_is_rules [.d (rulesD r s b)] os = some (.bool true, os) := by
    unfold m_is_rules
    rw [m_1]
    have u : sAsg (xVar 0) (gTp 3 (gsCons (gNm 1) (gsCons (gNm 2) (gsCons (gNm 3) gsNil)))) [.d (rulesD r s b), .u, .u, .u] os = some (.nx [.d (rulesD r s b), .d (.int r), .d (.int s), .d (.str b)] os) := rfl
    simp -implicitDefEqProofs only [b_is_rules, List.reduceReplicate, Nat.reduceSub, a_seq, a_sIf, a_notT, a_truth, a_fn, a_d, a_c, a_var, a_nil, List.getElem?_cons_zero, List.getElem?_cons_succ, slD_d, Option.map_some, Option.bind_some, h1, truthD_bool, Bool.not_true, Bool.false_eq_true, if_false, a_next, u, a_ret, a_andV, w1, w2, Bool.and_true, boolOf_bool, if_true, xInT, e, outM_rt, cutW_self ht]
  unfold m_check_rules
  rw [m_1]
  simp -implicitDefEqProofs [b_check_rules, cutW_self ht, h2]
def inDeck (r s : Int) (c : Card) : Bool := (decide (1 ≤ c.1) && decide (c.1 ≤ r)) && (decide (0 ≤ c.2) && decide (c.2 ≤ s - 1))
theorem rd0 : ixD (rulesD r s b) (.int 0) = some (.int r) := ixD_t0
theorem rd1 : ixD (rulesD r s b) (.int 1) = some (.int s) := ixD_t1
theorem rd2 : ixD (rulesD r s b) (.int 2) = some (.str b) := ixD_t2
theorem fits_ok {c : Card} (ht : Tidy os) : m_fits_deck [.d (rulesD r s b), .d (pairD c)] os = some (.bool (inDeck r s c), os) := by
  have h1 : m_is_tuple_of [.d (pairD c), .d (.int 2)] os = some (.bool true, os) := by
    unfold m_is_tuple_of
    rw [m_2]
    simp -implicitDefEqProofs [b_is_tuple_of, pairD, cutW_self ht, DL.eqD_int]
  have w1 := within_ok (i := c.1) (l := 1) (h := r) ht
  have w2 := within_ok (i := c.2) (l := 0) (h := s - 1) ht
  unfold m_fits_deck
  rw [m_2]
  have u : sAsg (xVar 1) (gTp 2 (gsCons (gNm 2) (gsCons (gNm 3) gsNil))) [.d (rulesD r s b), .d (pairD c), .u, .u] os = some (.nx [.d (rulesD r s b), .d (pairD c), .d (.int c.1), .d (.int c.2)] os) := rfl
  simp -implicitDefEqProofs only [b_fits_deck, List.reduceReplicate, Nat.reduceSub, a_seq, a_sIf, a_notT, a_truth, a_fn, a_d, a_c, a_var, a_nil, List.getElem?_cons_zero, List.getElem?_cons_succ, slD_d, Option.map_some, Option.bind_some, h1, truthD_bool, Bool.not_true, Bool.false_eq_true, if_false, a_next, u, a_ret, a_andV, a_op, rd0, rd1, subD_int, w1, w2]
  unfold inDeck
  by_cases q : (decide (1 ≤ c.1) && decide (c.1 ≤ r)) = true
  · rw [q, Bool.true_and]
    simp -implicitDefEqProofs only [boolOf_bool, if_true, Option.map_some, Option.bind_some, outM_rt, cutW_self ht]
  · have q : (decide (1 ≤ c.1) && decide (c.1 ≤ r)) = false := by simpa using q
    rw [q, Bool.false_and]
    simp -implicitDefEqProofs only [boolOf_bool, Bool.false_eq_true, if_false, Option.map_some, Option.bind_some, outM_rt, cutW_self ht]
theorem sum_const {α : Type} {m : Nat} : ∀ (l : List α), (l.map fun _ => m).sum = l.length * m
  | [] => by simp
  | _ :: r => by
    rw [List.map_cons, List.sum_cons, sum_const r, List.length_cons, Nat.succ_mul]
    omega
/-- the deck, rank by rank -/
def deck (r s : Int) : List Card := (List.range r.toNat).flatMap fun i => (List.range s.toNat).map fun j => (((i : Nat) : Int) + 1, ((j : Nat) : Int))
theorem cards_of_ok (ht : Tidy os) (h : Rl r s b) : m_cards_of [.d (rulesD r s b)] os = some (.list ((deck r s).map pairD), os) := by
  have r0 := h.r0
  have r1 := h.r1
  have s0 := h.s0
  have s1 := h.s1
  unfold m_cards_of
  rw [m_1]
  have u : sAsg (xVar 0) (gTp 3 (gsCons (gNm 1) (gsCons (gNm 2) (gsCons (gNm 3) gsNil)))) [.d (rulesD r s b), .u, .u, .u, .u, .u] os = some (.nx [.d (rulesD r s b), .d (.int r), .d (.int s), .d (.str b), .u, .u] os) := rfl
  have c1 : lc2D (iRg (xaD (xC (.int 1)) (xaD (xOp addD (xVar 1) (xC (.int 1))) xaNil))) (gNm 4) xYes (iRg (xaD (xVar 2) xaNil)) (gNm 5) xYes (xCall tupD (xaD (xVar 4) (xaD (xVar 5) xaNil))) [4, 5] [5] [.d (rulesD r s b), .d (.int r), .d (.int s), .d (.str b), .u, .u] os = some ((deck r s).map pairD, os) := by
    have q := lc2D_pure (l := List.range r.toNat) (f := fun i : Nat => PyData.int (1 + (i : Int))) (I := fun _ => List.range s.toNat) (f1 := fun j : Nat => PyData.int (0 + (j : Int))) (p := fun _ _ => true) (h := fun i j => pairD (((i : Nat) : Int) + 1, ((j : Nat) : Int))) (xi := iRg (xaD (xC (.int 1)) (xaD (xOp addD (xVar 1) (xC (.int 1))) xaNil))) (xg := gNm 4) (xi1 := iRg (xaD (xVar 2) xaNil)) (xg1 := gNm 5) (tt1 := xYes) (te := xCall tupD (xaD (xVar 4) (xaD (xVar 5) xaNil))) (vs := [4, 5]) (vs1 := [5]) (ρ := [.d (rulesD r s b), .d (.int r), .d (.int s), .d (.str b), .u, .u]) (os := os) (by
      rw [rg2_ok (os1 := os) (i := 1) (j := r + 1) (by simp -implicitDefEqProofs) (by omega) (by omega) (by omega) (by omega)]
      have : (r + 1 - 1).toNat = r.toNat := by omega
      rw [this]
      rfl) (fun i hi => by
      refine ⟨[.d (rulesD r s b), .d (.int r), .d (.int s), .d (.str b), .d (.int (1 + (i : Int))), .u], rfl, ?_, fun j hj => ⟨[.d (rulesD r s b), .d (.int r), .d (.int s), .d (.str b), .d (.int (1 + (i : Int))), .d (.int (0 + (j : Int)))], rfl, rfl, fun _ => ?_⟩⟩
      · rw [rg1_ok (os1 := os) (j := s) (by simp -implicitDefEqProofs) (by omega) (by omega)]
        rfl
      · have e1 : (1 : Int) + (i : Int) = (i : Int) + 1 := by omega
        have e2 : (0 : Int) + (j : Int) = (j : Int) := by omega
        rw [e1, e2]
        rfl) (by
      have : ((List.range r.toNat).map fun _ => (List.range s.toNat).length).sum = r.toNat * s.toNat := by
        rw [sum_const, List.length_range, List.length_range]
      rw [this]
      have : r.toNat * s.toNat ≤ 20 * 8 := Nat.mul_le_mul (by omega) (by omega)
      exact small (by omega))
    rw [q]
    unfold deck
    have : (List.range s.toNat).filter (fun _ => true) = List.range s.toNat := List.filter_eq_self.mpr (fun _ _ => rfl)
    simp only [this]
    simp [List.map_flatMap, List.flatMap_def, Function.comp_def]
  simp -implicitDefEqProofs only [b_cards_of, List.reduceReplicate, Nat.reduceSub, a_seq, u, a_ret, a_F, c1, Option.map_some, Option.bind_some, outM_rt, cutW_self ht]
theorem deck_mem {c : Card} : c ∈ deck r s ↔ inDeck r s c = true := by
  unfold deck inDeck
  simp only [List.mem_flatMap, List.mem_map, List.mem_range, Bool.and_eq_true, decide_eq_true_eq]
  constructor
  · rintro ⟨i, hi, j, hj, rfl⟩
    simp only
    omega
  · rintro ⟨⟨h1, h2⟩, h3, h4⟩
    exact ⟨(c.1 - 1).toNat, by omega, c.2.toNat, by omega, by ext <;> simp <;> omega⟩
end
end Lw

set_option Elab.async false
set_option linter.all false
set_option maxRecDepth 100000
set_option maxHeartbeats 4000000
set_option exponentiation.threshold 3000
namespace Lw
open PySem PySem.Spec PyProof.Rows L2 Evl DL
/-! the cards about, sorted -/
def about (cols : List (List Card)) (cells : List (Option Card)) : List Card := cols.flatten ++ cells.filterMap id
def dueC (r s : Int) (homes : List Int) : List Card := (deck r s).filter fun c => decide (c.1 > homes.getD c.2.toNat 0)
structure Ps (r s : Int) (cols : List (List Card)) (cells : List (Option Card)) (homes : List Int) : Prop where
  some_ : cols ≠ []
  many : cols.length ≤ 100
  few : cells.length ≤ 100
  hl : (homes.length : Int) = s
  hr : ∀ h ∈ homes, 0 ≤ h ∧ h ≤ r
  pm : (about cols cells).Perm (dueC r s homes)
def lexLt (p q : Card) : Prop := p.1 < q.1 ∨ (p.1 = q.1 ∧ p.2 < q.2)
theorem deck_asc {r s : Int} : (deck r s).Pairwise lexLt := by
  unfold deck
  rw [List.pairwise_flatMap]
  refine ⟨fun i _ => ?_, ?_⟩
  · rw [List.pairwise_map]
    exact List.pairwise_lt_range.imp fun {a b} h => .inr ⟨rfl, by simp only; omega⟩
  · refine List.pairwise_lt_range.imp fun {a b} h x hx y hy => .inl ?_
    obtain ⟨_, _, rfl⟩ := List.mem_map.mp hx
    obtain ⟨_, _, rfl⟩ := List.mem_map.mp hy
    simp only
    omega
abbrev leP (a b : PyData) : Bool := PySem.W.dataLe (β := PyData) false id a b
theorem leP_pair (p q : Card) : leP (pairD p) (pairD q) = decide (p.1 < q.1 ∨ (p.1 = q.1 ∧ p.2 ≤ q.2)) := by
  have h : PySem.W.dataLe (β := Card) false (fun b => .tuple [.int b.1, .int b.2]) p q = decide (p.1 < q.1 ∨ (p.1 = q.1 ∧ p.2 ≤ q.2)) := by
    rw [PySem.W.dataLe_ii (fun b : Card => b.1) (fun b : Card => b.2)]
  exact h
theorem sorted_uniq : ∀ {L1 L2 : List Card}, L1.Perm L2 → (L1.map pairD).Pairwise (fun a b => leP a b = true) → (L2.map pairD).Pairwise (fun a b => leP a b = true) → L1 = L2
  | [], L2, h, _, _ => (List.nil_perm.mp h).symm
  | a :: r, [], h, _, _ => by
    have := h.length_eq
    simp at this
  | a :: r, b :: t, h, h1, h2 => by
    rw [List.map_cons, List.pairwise_cons] at h1 h2
    have e : a = b := by
      have ha : a ∈ b :: t := h.mem_iff.mp (by simp)
      have hb : b ∈ a :: r := h.mem_iff.mpr (by simp)
      rcases List.mem_cons.mp ha with q | q
      · exact q
      rcases List.mem_cons.mp hb with q2 | q2
      · exact q2.symm
      have x1 := h1.1 _ (List.mem_map_of_mem q2)
      have x2 := h2.1 _ (List.mem_map_of_mem q)
      rw [leP_pair, decide_eq_true_eq] at x1 x2
      ext <;> omega
    subst e
    rw [sorted_uniq (List.perm_cons a |>.mp h) h1.2 h2.2]
theorem pair_cl (p : Card) : Cl (pairD p) 1 := cl_tuple (D := 0) fun d hd => by
  simp only [List.mem_cons, List.not_mem_nil, or_false] at hd
  rcases hd with rfl | rfl <;> exact cl_int
theorem pairs_cl (l : List Card) : Cl (colD l) 2 := cl_list (D := 1) fun d hd => by
  obtain ⟨p, _, rfl⟩ := List.mem_map.mp hd
  exact pair_cl p
def unD : PyData → Card
  | .tuple [.int a, .int b] => (a, b)
  | _ => (0, 0)
theorem sort_pairs {A D : List Card} (h : A.Perm D) (hd : D.Pairwise lexLt) (hl : A.length ≤ 1000) : sortGD [.list (A.map pairD)] = some (.list (D.map pairD)) := by
  have a1 : alikeB (A.map pairD) = true := List.all_eq_true.mpr fun x hx => List.all_eq_true.mpr fun y hy => by
    obtain ⟨a, _, rfl⟩ := List.mem_map.mp hx
    obtain ⟨b, _, rfl⟩ := List.mem_map.mp hy
    show PySem.W.alike (pairD a) (pairD b) = true
    simp [pairD, PySem.W.alike, PySem.W.alikeAll]
  have a2 : (A.map pairD).all aTup = true := List.all_eq_true.mpr fun x hx => by
    obtain ⟨a, _, rfl⟩ := List.mem_map.mp hx
    rfl
  have a3 : PyData.depthAll (A.map pairD) ≤ 60 := by
    have : ∀ l : List Card, PyData.depthAll (l.map pairD) ≤ 60 := fun l => by
      induction l with
      | nil => simp [PyData.depthAll]
      | cons a r ih =>
        have e1 : PyData.depthAll ((a :: r).map pairD) = max (pairD a).depth (PyData.depthAll (r.map pairD)) := by simp [PyData.depthAll]
        have e2 : (pairD a).depth ≤ 60 := by simp [pairD, PyData.depth, PyData.depthAll]
        rw [e1]
        omega
    exact this A
  have so : sortG (A.map pairD) = D.map pairD := by
    have pm : (sortG (A.map pairD)).Perm (A.map pairD) := List.mergeSort_perm _ _
    have tl := PySem.W.sortLe_total (PyProof.Rows.listOrd PyProof.Rows.itemOrd) false (fun b : PyData => PySem.W.keyToks (id b))
    have pw : (sortG (A.map pairD)).Pairwise fun a b => leP a b = true := List.pairwise_mergeSort (fun a b c h1 h2 => tl.trans a b c h1 h2) (fun a b => Bool.or_eq_true_iff.mpr (tl.total a b)) _
    obtain ⟨Z, hZ⟩ : ∃ Z : List Card, sortG (A.map pairD) = Z.map pairD := by
      have : ∀ L : List PyData, (∀ d ∈ L, ∃ p, pairD p = d) → ∃ Z : List Card, L = Z.map pairD := fun L => by
        induction L with
        | nil => exact fun _ => ⟨[], rfl⟩
        | cons d r ih =>
          intro hh
          obtain ⟨p, rfl⟩ := hh d (by simp)
          obtain ⟨Z, rfl⟩ := ih fun e he => hh e (by simp [he])
          exact ⟨p :: Z, rfl⟩
      exact this _ fun d hd => by
        obtain ⟨p, _, e⟩ := List.mem_map.mp (pm.mem_iff.mp hd)
        exact ⟨p, e⟩
    rw [hZ] at pm pw ⊢
    have pz : Z.Perm A := by
      have q := pm.map unD
      rw [List.map_map, List.map_map] at q
      have e1 : unD ∘ pairD = id := funext fun p => rfl
      rw [e1, List.map_id, List.map_id] at q
      exact q
    rw [sorted_uniq (pz.trans h) pw ?_]
    rw [List.pairwise_map]
    refine hd.imp fun {p q} z => ?_
    rw [leP_pair, decide_eq_true_eq]
    rcases z with z | ⟨z1, z2⟩
    · exact .inl z
    · exact .inr ⟨z1, by omega⟩
  show (if _ then _ else _) = _
  rw [if_pos ⟨a1, .inr a2, a3, by rw [List.length_map]; omega⟩, so]
end Lw

set_option Elab.async false
set_option linter.all false
set_option maxRecDepth 100000
set_option maxHeartbeats 4000000
set_option exponentiation.threshold 3000
namespace Lw
open PySem PySem.Spec PyProof.Rows L2 Evl DL
section
variable {r s : Int} {b : Str} {os : Os} {cols : List (List Card)} {cells : List (Option Card)} {homes : List Int}
theorem deck_len (h : Rl r s b) : (deck r s).length ≤ 160 := by
  have r1 := h.r1
  have s1 := h.s1
  have r0 := h.r0
  have s0 := h.s0
  unfold deck
  have : ((List.range r.toNat).flatMap fun i => (List.range s.toNat).map fun j => (((i : Nat) : Int) + 1, ((j : Nat) : Int))).length = r.toNat * s.toNat := by
    rw [List.length_flatMap]
    simp only [List.length_map, List.length_range]
    rw [sum_const, List.length_range]
  rw [this]
  have : r.toNat * s.toNat ≤ 20 * 8 := Nat.mul_le_mul (by omega) (by omega)
  omega
theorem Ps.len (p : Ps r s cols cells homes) (h : Rl r s b) : (about cols cells).length ≤ 160 := by
  rw [p.pm.length_eq]
  exact Nat.le_trans (List.length_filter_le _ _) (deck_len h)
theorem Ps.inn (p : Ps r s cols cells homes) : ∀ c ∈ about cols cells, inDeck r s c = true := fun c hc => deck_mem.mp (List.mem_filter.mp (p.pm.mem_iff.mp hc)).1
theorem Ps.col (p : Ps r s cols cells homes) {col : List Card} (hc : col ∈ cols) : ∀ c ∈ col, inDeck r s c = true := fun c h => p.inn c (List.mem_append.mpr (.inl (List.mem_flatten.mpr ⟨col, hc, h⟩)))
theorem Ps.collen (p : Ps r s cols cells homes) (h : Rl r s b) {col : List Card} (hc : col ∈ cols) : col.length ≤ 160 := by
  have q := p.len h
  unfold about at q
  rw [List.length_append] at q
  have : col.length ≤ cols.flatten.length := by
    clear p q
    induction cols with
    | nil => cases hc
    | cons a t ih =>
      rw [List.flatten_cons, List.length_append]
      rcases List.mem_cons.mp hc with rfl | hc
      · omega
      · have := ih hc
        omega
  omega
theorem are_cards_ok (ht : Tidy os) {col : List Card} (hc : ∀ c ∈ col, inDeck r s c = true) (hl : col.length ≤ 1000) : m_are_cards [.d (rulesD r s b), .d (colD col)] os = some (.bool true, os) := by
  unfold m_are_cards
  rw [m_2]
  have c1 : lcD (iLst (xVar 1)) (gNm 2) xYes (xFn m_fits_deck (xaD (xVar 0) (xaD (xVar 2) xaNil))) [2] [.d (rulesD r s b), .d (colD col), .u] os = some ((col.map fun _ => true).map .bool, os) := by
    rw [List.map_map]
    refine lcD_all (l := col) (f := pairD) rfl (fun c hcm => ⟨[.d (rulesD r s b), .d (colD col), .d (pairD c)], rfl, ?_⟩) (small hl)
    have f := fits_ok (r := r) (s := s) (b := b) (c := c) ht
    rw [hc c hcm] at f
    simp -implicitDefEqProofs only [a_fn, a_d, a_var, a_nil, List.getElem?_cons_succ, List.getElem?_cons_zero, slD_d, Option.map_some, Option.bind_some, f]
    rfl
  have e : ((col.map fun _ => true).all id) = true := by simp
  simp -implicitDefEqProofs only [b_are_cards, List.reduceReplicate, Nat.reduceSub, a_ret, a_andV, a_un, a_var, List.getElem?_cons_succ, List.getElem?_cons_zero, slD_d, Option.map_some, Option.bind_some, i_list_list, boolOf_bool, if_true, a_call, a_d, a_nil, a_F, c1, datas_d, datas_nil, allD_bools, e, outM_rt, cutW_self ht]
theorem are_columns_ok (ht : Tidy os) (h : Rl r s b) (p : Ps r s cols cells homes) : m_are_columns [.d (rulesD r s b), .d (.list (cols.map colD))] os = some (.bool true, os) := by
  unfold m_are_columns
  rw [m_2]
  have c1 : lcD (iLst (xVar 1)) (gNm 2) xYes (xFn m_are_cards (xaD (xVar 0) (xaD (xVar 2) xaNil))) [2] [.d (rulesD r s b), .d (.list (cols.map colD)), .u] os = some ((cols.map fun _ => true).map .bool, os) := by
    rw [List.map_map]
    refine lcD_all (l := cols) (f := colD) rfl (fun c hcm => ⟨[.d (rulesD r s b), .d (.list (cols.map colD)), .d (colD c)], rfl, ?_⟩) (small (by have := p.many; omega))
    have f := are_cards_ok (r := r) (s := s) (b := b) ht (p.col hcm) (by have := p.collen h hcm; omega)
    simp -implicitDefEqProofs only [a_fn, a_d, a_var, a_nil, List.getElem?_cons_succ, List.getElem?_cons_zero, slD_d, Option.map_some, Option.bind_some, f]
    rfl
  have e : ((cols.map fun _ => true).all id) = true := by simp
  have g : decide ((cols.length : Int) > 0) = true := by
    have := List.length_pos_iff.mpr p.some_
    simp
    omega
  simp -implicitDefEqProofs only [b_are_columns, List.reduceReplicate, Nat.reduceSub, a_ret, a_andV, a_un, a_op, a_c, a_var, List.getElem?_cons_succ, List.getElem?_cons_zero, slD_d, Option.map_some, Option.bind_some, i_list_list, boolOf_bool, if_true, a_call, a_d, a_nil, a_F, c1, datas_d, datas_nil, lenD_list, List.length_map, gtD_int, g, allD_bools, e, outM_rt, cutW_self ht]
theorem Ps.cell (p : Ps r s cols cells homes) {c : Card} (hc : some c ∈ cells) : inDeck r s c = true := p.inn c (List.mem_append.mpr (.inr (List.mem_filterMap.mpr ⟨_, hc, rfl⟩)))
theorem orV_t {xa xb : XE} {ρ : List Sl} {os os1 : Os} (h : xa ρ os = some (.bool true, os1)) : xOrV xa xb ρ os = some (.bool true, os1) := by
  unfold xOrV
  rw [h]
  rfl
theorem orV_f {xa xb : XE} {ρ : List Sl} {os os1 : Os} (h : xa ρ os = some (.bool false, os1)) : xOrV xa xb ρ os = xb ρ os1 := by
  unfold xOrV
  rw [h]
  rfl
theorem isD_pair {c : Card} : isD false (pairD c) .none = some (.bool false) := rfl
theorem isD_none : isD false .none .none = some (.bool true) := rfl
theorem are_cells_ok (ht : Tidy os) (p : Ps r s cols cells homes) : m_are_cells [.d (rulesD r s b), .d (.list (cells.map optD))] os = some (.bool true, os) := by
  unfold m_are_cells
  rw [m_2]
  have c1 : lcD (iLst (xVar 1)) (gNm 2) xYes (xOrV (xOp (isD false) (xVar 2) (xC .none)) (xFn m_fits_deck (xaD (xVar 0) (xaD (xVar 2) xaNil)))) [2] [.d (rulesD r s b), .d (.list (cells.map optD)), .u] os = some ((cells.map fun _ => true).map .bool, os) := by
    rw [List.map_map]
    refine lcD_all (l := cells) (f := optD) rfl (fun c hcm => ⟨[.d (rulesD r s b), .d (.list (cells.map optD)), .d (optD c)], rfl, ?_⟩) (small (by have := p.few; omega))
    cases c with
    | none => exact orV_t rfl
    | some c =>
      have f := fits_ok (r := r) (s := s) (b := b) (c := c) ht
      rw [p.cell hcm] at f
      rw [orV_f (os1 := os) rfl]
      simp -implicitDefEqProofs only [a_fn, a_d, a_nil, a_var, List.getElem?_cons_succ, List.getElem?_cons_zero, slD_d, Option.map_some, Option.bind_some, optD, f]
      rfl
  have e : ((cells.map fun _ => true).all id) = true := by simp
  simp -implicitDefEqProofs only [b_are_cells, List.reduceReplicate, Nat.reduceSub, a_ret, a_andV, a_un, a_var, List.getElem?_cons_succ, List.getElem?_cons_zero, slD_d, Option.map_some, Option.bind_some, i_list_list, boolOf_bool, if_true, a_call, a_d, a_nil, a_F, c1, datas_d, datas_nil, allD_bools, e, outM_rt, cutW_self ht]
theorem are_homes_ok (ht : Tidy os) (h : Rl r s b) (p : Ps r s cols cells homes) : m_are_homes [.d (rulesD r s b), .d (.list (homes.map .int))] os = some (.bool true, os) := by
  unfold m_are_homes
  rw [m_2]
  have hl := p.hl
  have s1 := h.s1
  have u : sAsg (xVar 0) (gTp 3 (gsCons (gNm 2) (gsCons (gNm 3) (gsCons (gNm 4) gsNil)))) [.d (rulesD r s b), .d (.list (homes.map .int)), .u, .u, .u, .u] os = some (.nx [.d (rulesD r s b), .d (.list (homes.map .int)), .d (.int r), .d (.int s), .d (.str b), .u] os) := rfl
  have c1 : lcD (iLst (xVar 1)) (gNm 5) xYes (xFn m_is_within (xaD (xVar 5) (xaD (xC (.int 0)) (xaD (xVar 2) xaNil)))) [5] [.d (rulesD r s b), .d (.list (homes.map .int)), .d (.int r), .d (.int s), .d (.str b), .u] os = some ((homes.map fun _ => true).map .bool, os) := by
    rw [List.map_map]
    refine lcD_all (l := homes) (f := PyData.int) rfl (fun c hcm => ⟨[.d (rulesD r s b), .d (.list (homes.map .int)), .d (.int r), .d (.int s), .d (.str b), .d (.int c)], rfl, ?_⟩) (small (by omega))
    have f := within_ok (i := c) (l := 0) (h := r) ht
    rw [decide_eq_true (p.hr c hcm).1, decide_eq_true (p.hr c hcm).2] at f
    simp -implicitDefEqProofs only [a_fn, a_d, a_c, a_var, a_nil, List.getElem?_cons_succ, List.getElem?_cons_zero, slD_d, Option.map_some, Option.bind_some, f]
    rfl
  have e : ((homes.map fun _ => true).all id) = true := by simp
  have q : eqD (.int (homes.length : Int)) (.int s) = some (.bool true) := by
    rw [DL.eqD_int, hl]
    simp
  simp -implicitDefEqProofs only [b_are_homes, List.reduceReplicate, Nat.reduceSub, a_seq, u, a_ret, a_andV, a_un, a_op, a_var, List.getElem?_cons_succ, List.getElem?_cons_zero, slD_d, Option.map_some, Option.bind_some, i_list_list, boolOf_bool, if_true, a_call, a_d, a_nil, a_F, c1, datas_d, datas_nil, lenD_list, List.length_map, q, allD_bools, e, outM_rt, cutW_self ht]
theorem about_ok (ht : Tidy os) (h : Rl r s b) (p : Ps r s cols cells homes) : m_cards_about [.d (posD cols cells homes)] os = some (.list ((about cols cells).map pairD), os) := by
  have al := p.len h
  have al2 := al
  unfold about at al2
  rw [List.length_append] at al2
  unfold m_cards_about
  rw [m_1]
  have u : sAsg (xVar 0) (gTp 3 (gsCons (gNm 1) (gsCons (gNm 2) (gsCons (gNm 3) gsNil)))) [.d (posD cols cells homes), .u, .u, .u, .u, .u] os = some (.nx [.d (posD cols cells homes), .d (.list (cols.map colD)), .d (.list (cells.map optD)), .d (.list (homes.map .int)), .u, .u] os) := rfl
  have c1 : lc2D (iLst (xVar 1)) (gNm 4) xYes (iLst (xVar 4)) (gNm 5) xYes (xVar 5) [4, 5] [5] [.d (posD cols cells homes), .d (.list (cols.map colD)), .d (.list (cells.map optD)), .d (.list (homes.map .int)), .u, .u] os = some (cols.flatten.map pairD, os) := by
    have q := lc2D_pure (l := cols) (f := colD) (I := id) (f1 := pairD) (p := fun _ _ => true) (h := fun _ c => pairD c) (xi := iLst (xVar 1)) (xg := gNm 4) (xi1 := iLst (xVar 4)) (xg1 := gNm 5) (tt1 := xYes) (te := xVar 5) (vs := [4, 5]) (vs1 := [5]) (ρ := [.d (posD cols cells homes), .d (.list (cols.map colD)), .d (.list (cells.map optD)), .d (.list (homes.map .int)), .u, .u]) (os := os) rfl (fun col _ => ⟨[.d (posD cols cells homes), .d (.list (cols.map colD)), .d (.list (cells.map optD)), .d (.list (homes.map .int)), .d (colD col), .u], rfl, rfl, fun c _ => ⟨[.d (posD cols cells homes), .d (.list (cols.map colD)), .d (.list (cells.map optD)), .d (.list (homes.map .int)), .d (colD col), .d (pairD c)], rfl, rfl, fun _ => rfl⟩⟩) (by
      have : (cols.map fun x => (id x).length).sum = cols.flatten.length := by
        rw [List.length_flatten]
        rfl
      rw [this]
      exact small (by omega))
    rw [q]
    congr 2
    have fl : ∀ l : List (List Card), (l.flatMap fun x => ((id x).filter (fun _ => true)).map (fun c => pairD c)) = l.flatten.map pairD := fun l => by
      induction l with
      | nil => rfl
      | cons a t ih =>
        rw [List.flatMap_cons, ih, List.flatten_cons, List.map_append, List.filter_eq_self.mpr (fun _ _ => rfl)]
        rfl
    exact fl cols
  have c2 : lcD (iLst (xVar 2)) (gNm 5) (xBool (xOp (isD true) (xVar 5) (xC .none))) (xVar 5) [5] [.d (posD cols cells homes), .d (.list (cols.map colD)), .d (.list (cells.map optD)), .d (.list (homes.map .int)), .u, .u] os = some ((cells.filterMap id).map pairD, os) := by
    have q := lcD_pure (l := cells) (f := optD) (p := fun c => c.isSome) (h := optD) (xi := iLst (xVar 2)) (xg := gNm 5) (tt := xBool (xOp (isD true) (xVar 5) (xC .none))) (te := xVar 5) (vs := [5]) (ρ := [.d (posD cols cells homes), .d (.list (cols.map colD)), .d (.list (cells.map optD)), .d (.list (homes.map .int)), .u, .u]) (os := os) rfl (fun c _ => ⟨[.d (posD cols cells homes), .d (.list (cols.map colD)), .d (.list (cells.map optD)), .d (.list (homes.map .int)), .u, .d (optD c)], rfl, by cases c <;> rfl, fun _ => rfl⟩) (small (by have := p.few; omega))
    rw [q]
    congr 2
    have : ∀ l : List (Option Card), (l.filter fun c => c.isSome).map optD = (l.filterMap id).map pairD := fun l => by
      induction l with
      | nil => rfl
      | cons a t ih => cases a <;> simp [ih, optD]
    exact this cells
  have ad : addD (.list (cols.flatten.map pairD)) (.list ((cells.filterMap id).map pairD)) = some (.list ((about cols cells).map pairD)) := by
    rw [addD_list (small (by rw [List.length_map, List.length_map]; omega)), ← List.map_append]
    rfl
  simp -implicitDefEqProofs only [b_cards_about, List.reduceReplicate, Nat.reduceSub, a_seq, u, a_ret, a_op, a_F, c1, c2, ad, Option.map_some, Option.bind_some, outM_rt, cutW_self ht]
theorem fits_rules_ok (ht : Tidy os) (h : Rl r s b) (p : Ps r s cols cells homes) : m_fits_rules [.d (rulesD r s b), .d (posD cols cells homes)] os = some (.bool true, os) := by
  have h1 : m_is_tuple_of [.d (posD cols cells homes), .d (.int 3)] os = some (.bool true, os) := by
    unfold m_is_tuple_of
    rw [m_2]
    simp -implicitDefEqProofs [b_is_tuple_of, posD, cutW_self ht, DL.eqD_int]
  have u : sAsg (xVar 1) (gTp 3 (gsCons (gNm 2) (gsCons (gNm 3) (gsCons (gNm 4) gsNil)))) [.d (rulesD r s b), .d (posD cols cells homes), .u, .u, .u, .u] os = some (.nx [.d (rulesD r s b), .d (posD cols cells homes), .d (.list (cols.map colD)), .d (.list (cells.map optD)), .d (.list (homes.map .int)), .u] os) := rfl
  have so := sort_pairs p.pm (deck_asc.filter _) (by have := p.len h; omega)
  have dl := deck_len h
  have c1 : lcD (iLst (xFn m_cards_of (xaD (xVar 0) xaNil))) (gNm 5) (xBool (xOp gtD (xOp ixD (xVar 5) (xC (.int 0))) (xOp ixD (xVar 4) (xOp ixD (xVar 5) (xC (.int 1)))))) (xVar 5) [5] [.d (rulesD r s b), .d (posD cols cells homes), .d (.list (cols.map colD)), .d (.list (cells.map optD)), .d (.list (homes.map .int)), .u] os = some ((dueC r s homes).map pairD, os) := by
    refine lcD_pure (l := deck r s) (f := pairD) (h := pairD) ?_ (fun c hc => ⟨[.d (rulesD r s b), .d (posD cols cells homes), .d (.list (cols.map colD)), .d (.list (cells.map optD)), .d (.list (homes.map .int)), .d (pairD c)], rfl, ?_, fun _ => rfl⟩) (small (by omega))
    · simp -implicitDefEqProofs only [a_iLst, a_fn, a_d, a_var, a_nil, List.getElem?_cons_succ, List.getElem?_cons_zero, slD_d, Option.map_some, Option.bind_some, cards_of_ok ht h, listOf_list]
    · have hd := deck_mem.mp hc
      unfold inDeck at hd
      simp only [Bool.and_eq_true, decide_eq_true_eq] at hd
      have hl := p.hl
      have i1 : ixD (pairD c) (.int 0) = some (.int c.1) := ixD_t0
      have i2 : ixD (pairD c) (.int 1) = some (.int c.2) := ixD_t1
      have i3 : ixD (.list (homes.map .int)) (.int c.2) = some (.int (homes.getD c.2.toNat 0)) := by
        obtain ⟨j, hj⟩ : ∃ j : Nat, c.2 = (j : Int) := ⟨c.2.toNat, by omega⟩
        rw [hj, Int.toNat_natCast]
        refine ixD_list ?_
        rw [List.getElem?_map, List.getElem?_eq_getElem (by omega), List.getD_eq_getElem?_getD, List.getElem?_eq_getElem (by omega)]
        rfl
      simp -implicitDefEqProofs only [a_bool, a_op, a_c, a_var, List.getElem?_cons_succ, List.getElem?_cons_zero, slD_d, Option.map_some, Option.bind_some, i1, i2, i3, gtD_int, boolOf_bool]
  have e := eqD_self (pairs_cl (dueC r s homes))
  unfold m_fits_rules
  rw [m_2]
  simp -implicitDefEqProofs only [b_fits_rules, List.reduceReplicate, Nat.reduceSub, a_seq, a_sIf, a_notT, a_truth, a_fn, a_d, a_c, a_var, a_nil, List.getElem?_cons_zero, List.getElem?_cons_succ, slD_d, Option.map_some, Option.bind_some, h1, truthD_bool, Bool.not_true, Bool.false_eq_true, if_false, a_next, u, a_andT, are_columns_ok ht h p, are_cells_ok ht p, are_homes_ok ht h p, if_true, a_ret, a_op, a_call, about_ok ht h p, datas_d, datas_nil, so, a_F, c1]
  rw [show dueC r s homes = dueC r s homes from rfl] at so
  have so : sortGD [.list ((about cols cells).map pairD)] = some (.list ((dueC r s homes).map pairD)) := so
  simp -implicitDefEqProofs only [Option.map_some, Option.bind_some, e, outM_rt, cutW_self ht]
theorem position_ok (ht : Tidy os) (h : Rl r s b) (p : Ps r s cols cells homes) : m_check_position [.d (rulesD r s b), .d (posD cols cells homes)] os = some (.none, os) := by
  unfold m_check_position
  rw [m_2]
  simp -implicitDefEqProofs [b_check_position, rules_ok ht h, fits_rules_ok ht h p, cutW_self ht]
end
end Lw

set_option Elab.async false
set_option linter.all false
set_option maxRecDepth 100000
set_option maxHeartbeats 4000000
set_option exponentiation.threshold 3000
namespace Lw
open PySem PySem.Spec PyProof.Rows L2 Evl DL
/-! what lies on what, runs -/
def gl (b : Str) (c o : Card) : Bool := if c.1 + 1 = o.1 then (if b = "same" then decide (c.2 = o.2) else if b = "any" then true else decide ((c.2 - o.2) % 2 = 1)) else false
section
variable {r s : Int} {b : Str} {os : Os}
theorem p0 {c : Card} : ixD (pairD c) (.int 0) = some (.int c.1) := ixD_t0
theorem p1 {c : Card} : ixD (pairD c) (.int 1) = some (.int c.2) := ixD_t1
theorem mod2 {x : Int} : modD (.int x) (.int 2) = some (.int (x % 2)) := by
  unfold modD
  rfl
theorem goes_ok {c o : Card} (ht : Tidy os) (hb : Bd b) : m_goes_on [.d (rulesD r s b), .d (pairD c), .d (pairD o)] os = some (.bool (gl b c o), os) := by
  unfold m_goes_on
  rw [m_3]
  have es : eqD (.str b) (.str "same") = some (.bool (decide (b = "same"))) := by rw [eqD_str]
  have ea : eqD (.str b) (.str "any") = some (.bool (decide (b = "any"))) := by rw [eqD_str]
  simp -implicitDefEqProofs only [b_goes_on, List.reduceReplicate, Nat.reduceSub, a_seq, a_asg, a_sIf, a_bool, a_op, a_c, a_var, List.getElem?_cons_zero, List.getElem?_cons_succ, slD_d, Option.map_some, Option.bind_some, rd2, a_nm, List.set_cons_succ, List.set_cons_zero, p0, p1, addD_int, DL.neD_int, boolOf_bool, a_ret, a_next]
  unfold gl
  by_cases h1 : c.1 + 1 = o.1
  · simp -implicitDefEqProofs only [h1, decide_true, Bool.not_true, Bool.false_eq_true, if_false, if_true, Option.bind_some, a_op, a_var, a_c, List.getElem?_cons_zero, List.getElem?_cons_succ, slD_d, Option.map_some, es, boolOf_bool, p1]
    by_cases h2 : b = "same"
    · simp -implicitDefEqProofs only [h2, decide_true, if_true, Option.bind_some, Option.map_some, DL.eqD_int, outM_rt, cutW_self ht]
    · simp -implicitDefEqProofs only [h2, decide_false, Bool.false_eq_true, if_false, Option.bind_some, Option.map_some]
      by_cases h3 : b = "any"
      · have eb : eqD (.str b) (.str "any") = some (.bool true) := by rw [ea, decide_eq_true h3]
        have t : xOp eqD (xVar 3) (xC (.str "any")) [.d (rulesD r s b), .d (pairD c), .d (pairD o), .d (.str b)] os = some (.bool true, os) := by
          simp -implicitDefEqProofs only [a_op, a_c, a_var, List.getElem?_cons_zero, List.getElem?_cons_succ, slD_d, Option.map_some, Option.bind_some, eb]
        rw [orV_t t]
        simp -implicitDefEqProofs only [h3, if_true, Option.bind_some, Option.map_some, outM_rt, cutW_self ht]
      · have t : xOp eqD (xVar 3) (xC (.str "any")) [.d (rulesD r s b), .d (pairD c), .d (pairD o), .d (.str b)] os = some (.bool false, os) := by
          simp -implicitDefEqProofs only [a_op, a_c, a_var, List.getElem?_cons_zero, List.getElem?_cons_succ, slD_d, Option.map_some, Option.bind_some, ea, h3, decide_false]
        rw [orV_f t]
        simp -implicitDefEqProofs only [h3, if_false, a_op, a_c, a_var, List.getElem?_cons_zero, List.getElem?_cons_succ, slD_d, p1, subD_int, mod2, DL.eqD_int, Option.bind_some, Option.map_some, outM_rt, cutW_self ht]
  · simp -implicitDefEqProofs only [h1, decide_false, Bool.not_false, if_true, if_false, Option.bind_some, Option.map_some, outM_rt, cutW_self ht]
theorem lies_ok {c o : Card} (ht : Tidy os) (hb : Bd b) : m_law_lies [.d (rulesD r s b), .d (pairD c), .d (pairD o)] os = some (.bool (gl b c o), os) := by
  unfold m_law_lies
  rw [m_3]
  have es : eqD (.str b) (.str "same") = some (.bool (decide (b = "same"))) := by rw [eqD_str]
  have ea : eqD (.str b) (.str "any") = some (.bool (decide (b = "any"))) := by rw [eqD_str]
  have par : decide ((c.2 + o.2) % 2 = 1) = decide ((c.2 - o.2) % 2 = 1) := decide_eq_decide.mpr (by omega)
  simp -implicitDefEqProofs only [b_law_lies, List.reduceReplicate, Nat.reduceSub, a_seq, a_sIf, a_bool, a_op, a_c, a_var, List.getElem?_cons_zero, List.getElem?_cons_succ, slD_d, Option.map_some, Option.bind_some, rd2, p0, p1, addD_int, DL.neD_int, boolOf_bool, a_ret, a_next]
  unfold gl
  by_cases h1 : c.1 + 1 = o.1
  · simp -implicitDefEqProofs only [h1, decide_true, Bool.not_true, Bool.false_eq_true, if_false, if_true, Option.bind_some, a_op, a_var, a_c, List.getElem?_cons_zero, List.getElem?_cons_succ, slD_d, Option.map_some, rd2, es, boolOf_bool, p1]
    by_cases h2 : b = "same"
    · simp -implicitDefEqProofs only [h2, decide_true, if_true, Option.bind_some, Option.map_some, DL.eqD_int, outM_rt, cutW_self ht]
    · simp -implicitDefEqProofs only [h2, decide_false, Bool.false_eq_true, if_false, Option.bind_some, Option.map_some]
      by_cases h3 : b = "any"
      · have eb : eqD (.str b) (.str "any") = some (.bool true) := by rw [ea, decide_eq_true h3]
        have t : xOp eqD (xOp ixD (xVar 0) (xC (.int 2))) (xC (.str "any")) [.d (rulesD r s b), .d (pairD c), .d (pairD o)] os = some (.bool true, os) := by
          simp -implicitDefEqProofs only [a_op, a_c, a_var, List.getElem?_cons_zero, List.getElem?_cons_succ, slD_d, Option.map_some, Option.bind_some, rd2, eb]
        rw [orV_t t]
        simp -implicitDefEqProofs only [h3, if_true, Option.bind_some, Option.map_some, outM_rt, cutW_self ht]
      · have t : xOp eqD (xOp ixD (xVar 0) (xC (.int 2))) (xC (.str "any")) [.d (rulesD r s b), .d (pairD c), .d (pairD o)] os = some (.bool false, os) := by
          simp -implicitDefEqProofs only [a_op, a_c, a_var, List.getElem?_cons_zero, List.getElem?_cons_succ, slD_d, Option.map_some, Option.bind_some, rd2, ea, h3, decide_false]
        rw [orV_f t]
        simp -implicitDefEqProofs only [h3, if_false, a_op, a_c, a_call, a_d, a_nil, a_var, List.getElem?_cons_zero, List.getElem?_cons_succ, slD_d, p1, addD_int, datas_d, datas_nil, intD_int, mod2, DL.eqD_int, Option.bind_some, Option.map_some, outM_rt, cutW_self ht, par]
  · simp -implicitDefEqProofs only [h1, decide_false, Bool.not_false, if_true, if_false, Option.bind_some, Option.map_some, outM_rt, cutW_self ht]
/-- the m-th card from the end -/
def cg (col : List Card) (m : Nat) : Card := col.getD (col.length - m) (0, 0)
theorem neg_ix {col : List Card} {m : Nat} (h1 : 1 ≤ m) (h2 : m ≤ col.length) : ixD (.list (col.map pairD)) (.int (-(m : Int))) = some (pairD (cg col m)) := by
  show L2.atI (col.map pairD) (-(m : Int)) = _
  unfold L2.atI ixN
  rw [if_neg (by omega), List.length_map, if_pos (by omega), Option.bind_some]
  have : (-(m : Int) + (col.length : Int)).toNat = col.length - m := by omega
  rw [this, List.getElem?_map, List.getElem?_eq_getElem (by omega)]
  unfold cg
  rw [List.getD_eq_getElem?_getD, List.getElem?_eq_getElem (by omega)]
  rfl
def rnF (b : Str) (col : List Card) : Nat → Nat → Nat
  | 0, m => m
  | d + 1, m => if gl b (cg col m) (cg col (m + 1)) = true then rnF b col d (m + 1) else m
def run (b : Str) (col : List Card) : Nat := if col = [] then 0 else rnF b col (col.length - 1) 1
theorem rnF_le {col : List Card} : ∀ (d m : Nat), m ≤ rnF b col d m ∧ rnF b col d m ≤ m + d
  | 0, m => ⟨Nat.le_refl _, Nat.le_refl _⟩
  | d + 1, m => by
    obtain ⟨h1, h2⟩ := rnF_le (col := col) d (m + 1)
    unfold rnF
    split <;> omega
theorem run_le {col : List Card} : run b col ≤ col.length := by
  unfold run
  split
  · omega
  · rename_i h
    have := List.length_pos_iff.mpr h
    have := (rnF_le (b := b) (col := col) (col.length - 1) 1).2
    omega
theorem negI {x : Int} : xUn negD (xC (.int x)) = xUn negD (xC (.int x)) := rfl
abbrev rC : XT := (xAndT (xBool (xOp ltD (xVar 2) (xCall lenD (xaD (xVar 1) xaNil)))) (xTruth (xFn m_goes_on (xaD (xVar 0) (xaD (xOp ixD (xVar 1) (xUn negD (xVar 2))) (xaD (xOp ixD (xVar 1) (xOp subD (xUn negD (xVar 2)) (xC (.int 1)))) xaNil))))))
theorem run_loop {col : List Card} (ht : Tidy os) (hb : Bd b) : ∀ (d m f : Nat), m + d = col.length → d < f → 1 ≤ m →
    whRun rC (sAug 2 (fun i j => i + j) (xC (.int 1))) f [.d (rulesD r s b), .d (colD col), .d (.int (m : Int))] os = some (.nx [.d (rulesD r s b), .d (colD col), .d (.int (rnF b col d m : Nat))] os)
  | d, m, 0, _, hf, _ => by omega
  | 0, m, f + 1, hd, _, hm => by
    have t : rC [.d (rulesD r s b), .d (colD col), .d (.int (m : Int))] os = some (false, os) := by
      have q : decide ((m : Int) < (col.length : Int)) = false := by simp; omega
      simp -implicitDefEqProofs only [a_andT, a_bool, a_op, a_call, a_d, a_nil, a_var, List.getElem?_cons_zero, List.getElem?_cons_succ, slD_d, Option.map_some, Option.bind_some, datas_d, datas_nil, lenD_list, List.length_map, ltD_int, q, boolOf_bool, Bool.false_eq_true, if_false]
    unfold whRun
    rw [t]
    rfl
  | d + 1, m, f + 1, hd, hf, hm => by
    have e : -(m : Int) - 1 = -((m + 1 : Nat) : Int) := by omega
    have ng : negD (.int (m : Int)) = some (.int (-(m : Int))) := rfl
    have t : rC [.d (rulesD r s b), .d (colD col), .d (.int (m : Int))] os = some (gl b (cg col m) (cg col (m + 1)), os) := by
      have q : decide ((m : Int) < (col.length : Int)) = true := by simp; omega
      simp -implicitDefEqProofs only [a_andT, a_bool, a_truth, a_op, a_un, a_c, a_fn, a_call, a_d, a_nil, a_var, List.getElem?_cons_zero, List.getElem?_cons_succ, slD_d, Option.map_some, Option.bind_some, datas_d, datas_nil, lenD_list, List.length_map, ltD_int, q, boolOf_bool, if_true, ng, subD_int, e, neg_ix (col := col) hm (by omega), neg_ix (col := col) (m := m + 1) (by omega) (by omega), goes_ok ht hb, truthD_bool]
    unfold whRun
    rw [t, Option.bind_some]
    unfold rnF
    by_cases g : gl b (cg col m) (cg col (m + 1)) = true
    · rw [if_pos g, if_pos g]
      have u : DL.sAug 2 (fun i j => i + j) (xC (.int 1)) [.d (rulesD r s b), .d (colD col), .d (.int (m : Int))] os = some (.nx [.d (rulesD r s b), .d (colD col), .d (.int ((m + 1 : Nat) : Int))] os) := by
        unfold DL.sAug
        simp -implicitDefEqProofs
      rw [u, Option.bind_some]
      exact run_loop ht hb d (m + 1) f (by omega) (by omega) (by omega)
    · rw [if_neg g, if_neg g]
theorem run_ok {col : List Card} (ht : Tidy os) (hb : Bd b) (hl : col.length ≤ 1000) : m_run_of [.d (rulesD r s b), .d (colD col)] os = some (.int (run b col : Nat), os) := by
  unfold m_run_of
  rw [m_2]
  cases col with
  | nil =>
    have tr : truthD (colD []) = some false := rfl
    simp -implicitDefEqProofs [b_run_of, cutW_self ht, run, tr]
  | cons a t =>
    have lp := run_loop (r := r) (s := s) (col := a :: t) (os := os) ht hb t.length 1 1000000 (by simp; omega) (by rw [List.length_cons] at hl; omega) (by omega)
    have tr : truthD (colD (a :: t)) = some true := rfl
    have w : sWhile 1000000 rC (sAug 2 (fun i j => i + j) (xC (.int 1))) [.d (rulesD r s b), .d (colD (a :: t)), .d (.int 1)] os = _ := lp
    have rr : run b (a :: t) = rnF b (a :: t) t.length 1 := by simp [run]
    simp -implicitDefEqProofs only [b_run_of, List.reduceReplicate, Nat.reduceSub, a_seq, a_sIf, a_notT, a_truth, a_asg, a_c, a_var, List.getElem?_cons_zero, List.getElem?_cons_succ, slD_d, Option.map_some, Option.bind_some, tr, Bool.not_true, Bool.false_eq_true, if_false, a_next, a_nm, List.set_cons_succ, List.set_cons_zero]
    rw [w]
    simp -implicitDefEqProofs only [Option.bind_some, a_ret, a_var, List.getElem?_cons_zero, List.getElem?_cons_succ, slD_d, Option.map_some, outM_rt, cutW_self ht, rr]
end
end Lw

set_option Elab.async false
set_option linter.all false
set_option maxRecDepth 100000
set_option maxHeartbeats 4000000
set_option exponentiation.threshold 3000
namespace Lw
open PySem PySem.Spec PyProof.Rows L2 Evl DL
section
variable {r s : Int} {b : Str} {os : Os} {cols : List (List Card)} {cells : List (Option Card)} {homes : List Int}
abbrev lC : XT := (xAndT (xBool (xChain ltD ltD (xC (.int 0)) (xVar 2) (xCall lenD (xaD (xVar 1) xaNil)))) (xTruth (xFn m_law_lies (xaD (xVar 0) (xaD (xOp ixD (xVar 1) (xUn negD (xVar 2))) (xaD (xOp ixD (xVar 1) (xOp subD (xUn negD (xVar 2)) (xC (.int 1)))) xaNil))))))
theorem lchain {col : List Card} {m : Nat} : xChain ltD ltD (xC (.int 0)) (xVar 2) (xCall lenD (xaD (xVar 1) xaNil)) [.d (rulesD r s b), .d (colD col), .d (.int (m : Int))] os = some (.bool (decide (0 < m) && decide (m < col.length)), os) := by
  unfold xChain
  have e1 : decide ((0 : Int) < (m : Int)) = decide (0 < m) := decide_eq_decide.mpr (by omega)
  have e2 : decide ((m : Int) < (col.length : Int)) = decide (m < col.length) := decide_eq_decide.mpr (by omega)
  by_cases h : 0 < m
  · simp -implicitDefEqProofs [e2, h]
  · simp -implicitDefEqProofs [h]
theorem lrun_loop {col : List Card} (ht : Tidy os) (hb : Bd b) : ∀ (d m f : Nat), m + d = col.length → d < f → 1 ≤ m →
    whRun lC (sAsg (xOp addD (xVar 2) (xC (.int 1))) (gNm 2)) f [.d (rulesD r s b), .d (colD col), .d (.int (m : Int))] os = some (.nx [.d (rulesD r s b), .d (colD col), .d (.int (rnF b col d m : Nat))] os)
  | d, m, 0, _, hf, _ => by omega
  | 0, m, f + 1, hd, _, hm => by
    have t : lC [.d (rulesD r s b), .d (colD col), .d (.int (m : Int))] os = some (false, os) := by
      have q : (decide (0 < m) && decide (m < col.length)) = false := by simp; omega
      unfold lC
      rw [a_andT, a_bool, lchain, q]
      rfl
    unfold whRun
    rw [t]
    rfl
  | d + 1, m, f + 1, hd, hf, hm => by
    have e : -(m : Int) - 1 = -((m + 1 : Nat) : Int) := by omega
    have ng : negD (.int (m : Int)) = some (.int (-(m : Int))) := rfl
    have t : lC [.d (rulesD r s b), .d (colD col), .d (.int (m : Int))] os = some (gl b (cg col m) (cg col (m + 1)), os) := by
      have q : (decide (0 < m) && decide (m < col.length)) = true := by simp; omega
      unfold lC
      rw [a_andT, a_bool, lchain, q]
      simp -implicitDefEqProofs only [a_truth, a_op, a_un, a_c, a_fn, a_d, a_nil, a_var, List.getElem?_cons_zero, List.getElem?_cons_succ, slD_d, Option.map_some, Option.bind_some, boolOf_bool, if_true, ng, subD_int, e, neg_ix (col := col) hm (by omega), neg_ix (col := col) (m := m + 1) (by omega) (by omega), lies_ok ht hb, truthD_bool]
    unfold whRun
    rw [t, Option.bind_some]
    unfold rnF
    by_cases g : gl b (cg col m) (cg col (m + 1)) = true
    · rw [if_pos g, if_pos g]
      have u : sAsg (xOp addD (xVar 2) (xC (.int 1))) (gNm 2) [.d (rulesD r s b), .d (colD col), .d (.int (m : Int))] os = some (.nx [.d (rulesD r s b), .d (colD col), .d (.int ((m + 1 : Nat) : Int))] os) := by
        simp -implicitDefEqProofs
      rw [u, Option.bind_some]
      exact lrun_loop ht hb d (m + 1) f (by omega) (by omega) (by omega)
    · rw [if_neg g, if_neg g]
theorem ne_nilC (col : List Card) : neD (colD col) (.list []) = some (.bool !col.isEmpty) := by
  rw [neD_cl (D := 2) (E := 2) (pairs_cl col) (cl_list (D := 1) fun d hd => by cases hd), eqv_nil]
  cases col <;> rfl
theorem eq_nilC (col : List Card) : eqD (colD col) (.list []) = some (.bool col.isEmpty) := by
  rw [eqD_cl (D := 2) (E := 2) (pairs_cl col) (cl_list (D := 1) fun d hd => by cases hd), eqv_nil]
  cases col <;> rfl
theorem law_run_ok {col : List Card} (ht : Tidy os) (hb : Bd b) (hl : col.length ≤ 1000) : m_law_run [.d (rulesD r s b), .d (colD col)] os = some (.int (run b col : Nat), os) := by
  unfold m_law_run
  rw [m_2]
  have n1 := ne_nilC col
  cases col with
  | nil =>
    have i1 : intD [.bool false] = some (.int 0) := rfl
    have w : sWhile 1000000 lC (sAsg (xOp addD (xVar 2) (xC (.int 1))) (gNm 2)) [.d (rulesD r s b), .d (colD []), .d (.int 0)] os = some (.nx [.d (rulesD r s b), .d (colD []), .d (.int 0)] os) := by
      have t : lC [.d (rulesD r s b), .d (colD []), .d (.int ((0 : Nat) : Int))] os = some (false, os) := by
        unfold lC
        rw [a_andT, a_bool, lchain]
        rfl
      unfold sWhile
      unfold whRun
      rw [show ((0 : Int)) = ((0 : Nat) : Int) from rfl, t]
      rfl
    simp -implicitDefEqProofs only [b_law_run, List.reduceReplicate, Nat.reduceSub, a_seq, a_asg, a_call, a_op, a_d, a_nil, a_var, List.getElem?_cons_zero, List.getElem?_cons_succ, slD_d, Option.map_some, Option.bind_some, datas_d, datas_nil, lstD_0, n1, List.isEmpty_nil, Bool.not_true, i1, a_nm, List.set_cons_succ, List.set_cons_zero]
    rw [w]
    simp -implicitDefEqProofs only [Option.bind_some, a_ret, a_var, List.getElem?_cons_zero, List.getElem?_cons_succ, slD_d, Option.map_some, outM_rt, cutW_self ht, run, if_true]
    rfl
  | cons a t =>
    have lp := lrun_loop (r := r) (s := s) (col := a :: t) (os := os) ht hb t.length 1 1000000 (by simp; omega) (by rw [List.length_cons] at hl; omega) (by omega)
    have w : sWhile 1000000 lC (sAsg (xOp addD (xVar 2) (xC (.int 1))) (gNm 2)) [.d (rulesD r s b), .d (colD (a :: t)), .d (.int 1)] os = _ := lp
    have rr : run b (a :: t) = rnF b (a :: t) t.length 1 := by simp [run]
    have i1 : intD [.bool true] = some (.int 1) := rfl
    simp -implicitDefEqProofs only [b_law_run, List.reduceReplicate, Nat.reduceSub, a_seq, a_asg, a_call, a_op, a_d, a_nil, a_var, List.getElem?_cons_zero, List.getElem?_cons_succ, slD_d, Option.map_some, Option.bind_some, datas_d, datas_nil, lstD_0, n1, List.isEmpty_cons, Bool.not_false, i1, a_nm, List.set_cons_succ, List.set_cons_zero]
    rw [w]
    simp -implicitDefEqProofs only [Option.bind_some, a_ret, a_var, List.getElem?_cons_zero, List.getElem?_cons_succ, slD_d, Option.map_some, outM_rt, cutW_self ht, rr]
/-! supermoves -/
def supD (p : Int × Int × Int) : PyData := .tuple [.int p.1, .int p.2.1, .int p.2.2]
/-- one that can be asked about -/
structure Sv (b : Str) (cols : List (List Card)) (i j m : Nat) : Prop where
  i1 : i < cols.length
  j1 : j < cols.length
  ne : i ≠ j
  m0 : 1 ≤ m
  m1 : m ≤ run b (cols.getD i [])
theorem pos0 : ixD (posD cols cells homes) (.int 0) = some (.list (cols.map colD)) := ixD_t0
theorem pos1 : ixD (posD cols cells homes) (.int 1) = some (.list (cells.map optD)) := ixD_t1
theorem col_ix {i : Nat} (h : i < cols.length) : ixD (.list (cols.map colD)) (.int (i : Int)) = some (colD (cols.getD i [])) := by
  refine ixD_list ?_
  rw [List.getElem?_map, List.getElem?_eq_getElem h, List.getD_eq_getElem?_getD, List.getElem?_eq_getElem h]
  rfl
theorem Ps.at (p : Ps r s cols cells homes) {i : Nat} (h : i < cols.length) : cols.getD i [] ∈ cols := by
  rw [List.getD_eq_getElem?_getD, List.getElem?_eq_getElem h]
  exact List.getElem_mem h
theorem fits_sup_ok (ht : Tidy os) (h : Rl r s b) (p : Ps r s cols cells homes) {i j m : Nat} (v : Sv b cols i j m) : m_fits_supermove [.d (rulesD r s b), .d (posD cols cells homes), .d (supD (i, j, m))] os = some (.bool true, os) := by
  have h1 : m_is_tuple_of [.d (supD (i, j, m)), .d (.int 3)] os = some (.bool true, os) := by
    unfold m_is_tuple_of
    rw [m_2]
    simp -implicitDefEqProofs [b_is_tuple_of, supD, cutW_self ht, DL.eqD_int]
  have u : (gTp 3 (gsCons (gNm 5) (gsCons (gNm 6) (gsCons (gNm 7) gsNil)))) (supD (i, j, m)) [.d (rulesD r s b), .d (posD cols cells homes), .d (supD (i, j, m)), .u, .u, .u, .u, .u] = some [.d (rulesD r s b), .d (posD cols cells homes), .d (supD (i, j, m)), .u, .u, .d (.int (i : Int)), .d (.int (j : Int)), .d (.int (m : Int))] := rfl
  have v1 := v.i1
  have v2 := v.j1
  have v3 := v.ne
  have v4 := v.m0
  have v5 := v.m1
  have w1 := within_ok (i := (i : Int)) (l := 0) (h := (cols.length : Int) - 1) ht
  rw [decide_eq_true (show (0 : Int) ≤ (i : Int) by omega), decide_eq_true (show (i : Int) ≤ (cols.length : Int) - 1 by omega)] at w1
  have w2 := within_ok (i := (j : Int)) (l := 0) (h := (cols.length : Int) - 1) ht
  rw [decide_eq_true (show (0 : Int) ≤ (j : Int) by omega), decide_eq_true (show (j : Int) ≤ (cols.length : Int) - 1 by omega)] at w2
  have w3 := within_ok (i := (m : Int)) (l := 1) (h := (run b (cols.getD i []) : Nat)) ht
  rw [decide_eq_true (show (1 : Int) ≤ (m : Int) by omega), decide_eq_true (show (m : Int) ≤ (run b (cols.getD i []) : Nat) by omega)] at w3
  have ro := run_ok (r := r) (s := s) (b := b) (col := cols.getD i []) ht h.bd (by have := p.collen h (p.at v1); omega)
  have ne : neD (.int (i : Int)) (.int (j : Int)) = some (.bool true) := by
    rw [DL.neD_int]
    have : decide ((i : Int) = (j : Int)) = false := by simp; omega
    rw [this]
    rfl
  unfold m_fits_supermove
  rw [m_3]
  simp -implicitDefEqProofs only [b_fits_supermove, List.reduceReplicate, Nat.reduceSub, a_seq, a_sIf, a_notT, a_truth, a_fn, a_d, a_c, a_var, a_nil, List.getElem?_cons_zero, List.getElem?_cons_succ, slD_d, Option.map_some, Option.bind_some, h1, truthD_bool, Bool.not_true, Bool.false_eq_true, if_false, a_next, u, a_asg, a_op, pos0, a_nm, List.set_cons_succ, List.set_cons_zero, a_call, datas_d, datas_nil, lenD_list, List.length_map, subD_int, a_andT, w1, w2, Bool.and_self, if_true, a_ret, a_andV, ne, boolOf_bool, col_ix v1, ro, w3, outM_rt, cutW_self ht]
theorem check_sup_ok (ht : Tidy os) (h : Rl r s b) (p : Ps r s cols cells homes) {i j m : Nat} (v : Sv b cols i j m) : m_check_supermove [.d (rulesD r s b), .d (posD cols cells homes), .d (supD (i, j, m))] os = some (.none, os) := by
  unfold m_check_supermove
  rw [m_3]
  simp -implicitDefEqProofs [b_check_supermove, position_ok ht h p, fits_sup_ok ht h p v, cutW_self ht]
/-- does it make sense -/
def sens (b : Str) (cols : List (List Card)) (i j m : Nat) : Bool := if cols.getD j [] = [] then decide (m < (cols.getD i []).length) else gl b (cg (cols.getD i []) m) (cg (cols.getD j []) 1)
theorem neg1_ix {col : List Card} (h : col ≠ []) : ixD (colD col) (.int (-1)) = some (pairD (cg col 1)) := neg_ix (col := col) (m := 1) (by omega) (List.length_pos_iff.mpr h)
theorem law_sensible_ok (ht : Tidy os) (h : Rl r s b) {i j m : Nat} (v : Sv b cols i j m) : m_law_sensible [.d (rulesD r s b), .d (posD cols cells homes), .d (supD (i, j, m))] os = some (.bool (sens b cols i j m), os) := by
  have u : sAsg (xVar 2) (gTp 3 (gsCons (gNm 3) (gsCons (gNm 4) (gsCons (gNm 5) gsNil)))) [.d (rulesD r s b), .d (posD cols cells homes), .d (supD (i, j, m)), .u, .u, .u, .u, .u] os = some (.nx [.d (rulesD r s b), .d (posD cols cells homes), .d (supD (i, j, m)), .d (.int (i : Int)), .d (.int (j : Int)), .d (.int (m : Int)), .u, .u] os) := rfl
  have v5 := v.m1
  have rl := run_le (b := b) (col := cols.getD i [])
  have v4 := v.m0
  have e1 := eq_nilC (cols.getD j [])
  have ng : negD (.int (m : Int)) = some (.int (-(m : Int))) := rfl
  have n1 : negD (.int 1) = some (.int (-1)) := rfl
  have lt : decide ((m : Int) < ((cols.getD i []).length : Int)) = decide (m < (cols.getD i []).length) := decide_eq_decide.mpr (by omega)
  unfold m_law_sensible
  rw [m_3]
  simp -implicitDefEqProofs only [b_law_sensible, List.reduceReplicate, Nat.reduceSub, a_seq, u, Option.bind_some, a_par, a_op, a_c, a_var, List.getElem?_cons_zero, List.getElem?_cons_succ, slD_d, Option.map_some, pos0, col_ix v.i1, col_ix v.j1, List.set_cons_succ, List.set_cons_zero, a_ret, a_if, a_bool, a_call, a_nil, datas_nil, lstD_0, e1, boolOf_bool]
  unfold sens
  by_cases z : cols.getD j [] = []
  · have z2 : (cols.getD j []).isEmpty = true := by rw [z]; rfl
    rw [if_pos z]
    simp -implicitDefEqProofs only [z2, if_true, a_op, a_call, a_d, a_nil, a_var, List.getElem?_cons_zero, List.getElem?_cons_succ, slD_d, Option.map_some, Option.bind_some, datas_d, datas_nil, lenD_list, List.length_map, ltD_int, lt, outM_rt, cutW_self ht]
  · have z2 : (cols.getD j []).isEmpty = false := by
      cases hz : cols.getD j [] with
      | nil => exact absurd hz z
      | cons _ _ => rfl
    rw [if_neg z]
    simp -implicitDefEqProofs only [z2, Bool.false_eq_true, if_false, a_fn, a_op, a_un, a_c, a_d, a_nil, a_var, List.getElem?_cons_zero, List.getElem?_cons_succ, slD_d, Option.map_some, Option.bind_some, ng, n1, neg_ix (col := cols.getD i []) v4 (by omega), neg1_ix z, lies_ok ht h.bd, outM_rt, cutW_self ht]
theorem lowest_ok (ht : Tidy os) {i j m : Nat} (v : Sv b cols i j m) : m_lowest_of [.d (posD cols cells homes), .d (supD (i, j, m))] os = some (pairD (cg (cols.getD i []) m), os) := by
  have u : sAsg (xVar 1) (gTp 3 (gsCons (gNm 2) (gsCons (gNm 3) (gsCons (gNm 4) gsNil)))) [.d (posD cols cells homes), .d (supD (i, j, m)), .u, .u, .u] os = some (.nx [.d (posD cols cells homes), .d (supD (i, j, m)), .d (.int (i : Int)), .d (.int (j : Int)), .d (.int (m : Int))] os) := rfl
  have ng : negD (.int (m : Int)) = some (.int (-(m : Int))) := rfl
  have v5 := v.m1
  have rl := run_le (b := b) (col := cols.getD i [])
  unfold m_lowest_of
  rw [m_2]
  simp -implicitDefEqProofs only [b_lowest_of, List.reduceReplicate, Nat.reduceSub, a_seq, u, Option.bind_some, a_ret, a_op, a_un, a_c, a_var, List.getElem?_cons_zero, List.getElem?_cons_succ, slD_d, Option.map_some, pos0, col_ix v.i1, ng, neg_ix (col := cols.getD i []) v.m0 (by omega), outM_rt, cutW_self ht]
theorem makes_sense_ok (ht : Tidy os) (h : Rl r s b) {i j m : Nat} (v : Sv b cols i j m) : m_makes_sense [.d (rulesD r s b), .d (posD cols cells homes), .d (supD (i, j, m))] os = some (.bool (sens b cols i j m), os) := by
  have u : (gTp 3 (gsCons (gNm 4) (gsCons (gNm 5) (gsCons (gNm 6) gsNil)))) (supD (i, j, m)) [.d (rulesD r s b), .d (posD cols cells homes), .d (supD (i, j, m)), .u, .u, .u, .u] = some [.d (rulesD r s b), .d (posD cols cells homes), .d (supD (i, j, m)), .u, .d (.int (i : Int)), .d (.int (j : Int)), .d (.int (m : Int))] := rfl
  have n1 : negD (.int 1) = some (.int (-1)) := rfl
  have lt : decide ((m : Int) < ((cols.getD i []).length : Int)) = decide (m < (cols.getD i []).length) := decide_eq_decide.mpr (by omega)
  unfold m_makes_sense
  rw [m_3]
  simp -implicitDefEqProofs only [b_makes_sense, List.reduceReplicate, Nat.reduceSub, a_seq, u, Option.bind_some, a_asg, a_op, a_c, a_var, List.getElem?_cons_zero, List.getElem?_cons_succ, slD_d, Option.map_some, pos0, a_nm, List.set_cons_succ, List.set_cons_zero, a_sIf, a_notT, a_truth, col_ix v.j1]
  unfold sens
  by_cases z : cols.getD j [] = []
  · have z2 : truthD (colD (cols.getD j [])) = some false := by rw [z]; rfl
    rw [z2, if_pos z]
    simp -implicitDefEqProofs only [if_true, Bool.not_false, a_ret, a_op, a_call, a_d, a_nil, a_var, List.getElem?_cons_zero, List.getElem?_cons_succ, slD_d, Option.map_some, Option.bind_some, col_ix v.i1, datas_d, datas_nil, lenD_list, List.length_map, ltD_int, lt, outM_rt, cutW_self ht]
  · have z2 : truthD (colD (cols.getD j [])) = some true := by
      cases hz : cols.getD j [] with
      | nil => exact absurd hz z
      | cons _ _ => rfl
    rw [z2, if_neg z]
    simp -implicitDefEqProofs only [if_false, Bool.not_true, Bool.false_eq_true, a_next, a_ret, a_fn, a_op, a_un, a_c, a_d, a_nil, a_var, List.getElem?_cons_zero, List.getElem?_cons_succ, slD_d, Option.map_some, Option.bind_some, lowest_ok ht v, col_ix v.j1, n1, neg1_ix z, goes_ok ht h.bd, outM_rt, cutW_self ht]
theorem sensible_ok (ht : Tidy os) (h : Rl r s b) (p : Ps r s cols cells homes) {i j m : Nat} (v : Sv b cols i j m) : m_is_sensible [.d (rulesD r s b), .d (posD cols cells homes), .d (supD (i, j, m))] os = some (.bool (sens b cols i j m), os) := by
  unfold m_is_sensible
  rw [m_3]
  simp -implicitDefEqProofs [b_is_sensible, check_sup_ok ht h p v, makes_sense_ok ht h v, cutW_self ht]
theorem check_sens_ok (ht : Tidy os) (h : Rl r s b) (p : Ps r s cols cells homes) {i j m : Nat} (v : Sv b cols i j m) (hs : sens b cols i j m = true) : m_check_sensible [.d (rulesD r s b), .d (posD cols cells homes), .d (supD (i, j, m))] os = some (.none, os) := by
  unfold m_check_sensible
  rw [m_3]
  simp -implicitDefEqProofs [b_check_sensible, check_sup_ok ht h p v, makes_sense_ok ht h v, hs, cutW_self ht]
end
end Lw

set_option Elab.async false
set_option linter.all false
set_option maxRecDepth 100000
set_option maxHeartbeats 4000000
set_option exponentiation.threshold 3000
namespace Lw
open PySem PySem.Spec PyProof.Rows L2 Evl DL
section
variable {r s : Int} {b : Str} {os : Os} {cols : List (List Card)} {cells : List (Option Card)} {homes : List Int}
def freeC (cells : List (Option Card)) : Nat := cells.countP fun c => c.isNone
def freeE (cols : List (List Card)) : Nat := cols.countP fun c => c.isEmpty
theorem zip_count {α : Type} (p : α → Bool) : ∀ (l : List α) (k : Nat), ((l.zipIdx k).filter fun q => p q.1).length = l.countP p
  | [], _ => rfl
  | a :: t, k => by
    have ih := zip_count p t (k + 1)
    rw [List.zipIdx_cons, List.filter_cons, List.countP_cons]
    by_cases h : p a = true
    · simp [h, ih]
    · simp [h, ih]
theorem enum_map {α : Type} (f : α → PyData) (l : List α) : enumD (l.map f) = l.zipIdx.map fun q => .tuple [.int (q.2 : Int), f q.1] := by
  unfold enumD
  rw [List.zipIdx_map, List.map_map]
  rfl
theorem free_ok (ht : Tidy os) (h : Rl r s b) (p : Ps r s cols cells homes) : ∃ A B : List Int, m_numbers_free [.d (posD cols cells homes)] os = some (.tuple [.list (A.map .int), .list (B.map .int)], os) ∧ A.length = freeC cells ∧ B.length = freeE cols := by
  refine ⟨(cells.zipIdx.filter fun q => q.1.isNone).map fun q => (q.2 : Int), (cols.zipIdx.filter fun q => q.1.isEmpty).map fun q => (q.2 : Int), ?_, by rw [List.length_map]; exact zip_count (fun c => c.isNone) cells 0, by rw [List.length_map]; exact zip_count (fun c => c.isEmpty) cols 0⟩
  have u : sAsg (xVar 0) (gTp 3 (gsCons (gNm 2) (gsCons (gNm 3) (gsCons (gNm 4) gsNil)))) [.d (posD cols cells homes), .u, .u, .u, .u, .u, .u, .u] os = some (.nx [.d (posD cols cells homes), .u, .d (.list (cols.map colD)), .d (.list (cells.map optD)), .d (.list (homes.map .int)), .u, .u, .u] os) := rfl
  have c1 : lcD (iEn (xaD (xVar 3) xaNil)) (gTp 2 (gsCons (gNm 5) (gsCons (gNm 6) gsNil))) (xBool (xOp (isD false) (xVar 6) (xC .none))) (xVar 5) [5, 6] [.d (posD cols cells homes), .u, .d (.list (cols.map colD)), .d (.list (cells.map optD)), .d (.list (homes.map .int)), .u, .u, .u] os = some (((cells.zipIdx.filter fun q => q.1.isNone).map fun q => (q.2 : Int)).map .int, os) := by
    rw [List.map_map]
    refine lcD_pure (l := cells.zipIdx) (f := fun q => .tuple [.int (q.2 : Int), optD q.1]) ?_ (fun q _ => ⟨[.d (posD cols cells homes), .u, .d (.list (cols.map colD)), .d (.list (cells.map optD)), .d (.list (homes.map .int)), .d (.int (q.2 : Int)), .d (optD q.1), .u], rfl, ?_, fun _ => rfl⟩) (small (by rw [List.length_zipIdx]; have := p.few; omega))
    · have : iEn (xaD (xVar 3) xaNil) [.d (posD cols cells homes), .u, .d (.list (cols.map colD)), .d (.list (cells.map optD)), .d (.list (homes.map .int)), .u, .u, .u] os = some (enumD (cells.map optD), os) := rfl
      rw [← enum_map]
      exact this
    · obtain ⟨c, k⟩ := q
      cases c <;> rfl
  have c2 : ∀ y : Sl, lcD (iEn (xaD (xVar 2) xaNil)) (gTp 2 (gsCons (gNm 5) (gsCons (gNm 7) gsNil))) (xNotT (xTruth (xVar 7))) (xVar 5) [5, 7] [.d (posD cols cells homes), y, .d (.list (cols.map colD)), .d (.list (cells.map optD)), .d (.list (homes.map .int)), .u, .u, .u] os = some (((cols.zipIdx.filter fun q => q.1.isEmpty).map fun q => (q.2 : Int)).map .int, os) := fun y => by
    rw [List.map_map]
    refine lcD_pure (l := cols.zipIdx) (f := fun q => .tuple [.int (q.2 : Int), colD q.1]) ?_ (fun q _ => ⟨[.d (posD cols cells homes), y, .d (.list (cols.map colD)), .d (.list (cells.map optD)), .d (.list (homes.map .int)), .d (.int (q.2 : Int)), .u, .d (colD q.1)], rfl, ?_, fun _ => rfl⟩) (small (by rw [List.length_zipIdx]; have := p.many; omega))
    · have : iEn (xaD (xVar 2) xaNil) [.d (posD cols cells homes), y, .d (.list (cols.map colD)), .d (.list (cells.map optD)), .d (.list (homes.map .int)), .u, .u, .u] os = some (enumD (cols.map colD), os) := rfl
      rw [← enum_map]
      exact this
    · obtain ⟨c, k⟩ := q
      cases c <;> rfl
  unfold m_numbers_free
  rw [m_1]
  simp -implicitDefEqProofs only [b_numbers_free, List.reduceReplicate, Nat.reduceSub, a_seq, u, Option.bind_some, a_asg, a_F, c1, Option.map_some, a_nm, List.set_cons_succ, List.set_cons_zero, a_ret, a_call, a_d, a_nil, a_var, List.getElem?_cons_zero, List.getElem?_cons_succ, slD_d, c2, datas_d, datas_nil, tupD_2, outM_rt, cutW_self ht]
/-- the columns that help at a card -/
def hlp (b : Str) (cols : List (List Card)) (i j k : Nat) : List (List Card × Nat) := cols.zipIdx.filter fun q => !q.1.isEmpty && (!(decide (q.2 = i) || decide (q.2 = j)) && gl b (cg (cols.getD i []) k) (cg q.1 1))
theorem not_in2 {x i j : Nat} : inD true (.int (x : Int)) (.tuple [.int (i : Int), .int (j : Int)]) = some (.bool (!(decide (x = i) || decide (x = j)))) := by
  have e : inS true (.int (x : Int)) (.tuple [.int (i : Int), .int (j : Int)]) = none := rfl
  unfold inD
  rw [e]
  have sh : SeqAt.shaped (.int (x : Int)) = true := (cl_int (D := 0)).shaped
  have cl : PyData.canLayAll0 [PyData.int (i : Int), .int (j : Int)] = true := canAll (D := 0) fun d hd => by
    simp only [List.mem_cons, List.not_mem_nil, or_false] at hd
    rcases hd with rfl | rfl <;> exact cl_int
  show (if SeqAt.shaped (.int (x : Int)) = true ∧ PyData.canLayAll0 [PyData.int (i : Int), .int (j : Int)] = true then some (PyData.bool (if true then !([PyData.int (i : Int), .int (j : Int)].any fun y => PyData.eqv y (.int (x : Int))) else [PyData.int (i : Int), .int (j : Int)].any fun y => PyData.eqv y (.int (x : Int)))) else none) = _
  rw [if_pos ⟨sh, cl⟩]
  simp only [if_true, List.any_cons, List.any_nil, Bool.or_false, eqv_int]
  have e1 : decide ((i : Int) = (x : Int)) = decide (x = i) := decide_eq_decide.mpr (by omega)
  have e2 : decide ((j : Int) = (x : Int)) = decide (x = j) := decide_eq_decide.mpr (by omega)
  rw [e1, e2]
theorem truth_col (c : List Card) : truthD (colD c) = some (!c.isEmpty) := by
  cases c <;> rfl
theorem helping_ok (ht : Tidy os) (h : Rl r s b) (p : Ps r s cols cells homes) {i j m k : Nat} (v : Sv b cols i j m) (k0 : 1 ≤ k) (k1 : k < m) : m_helping_columns [.d (rulesD r s b), .d (posD cols cells homes), .d (supD (i, j, m)), .d (.int (k : Int))] os = some (.list (((hlp b cols i j k).map fun q => (q.2 : Int)).map .int), os) := by
  have rl := run_le (b := b) (col := cols.getD i [])
  have v5 := v.m1
  have u : sAsg (xVar 2) (gTp 3 (gsCons (gNm 6) (gsCons (gNm 7) (gsCons (gNm 8) gsNil)))) [.d (rulesD r s b), .d (posD cols cells homes), .d (supD (i, j, m)), .d (.int (k : Int)), .u, .u, .u, .u, .u, .u, .u] os = some (.nx [.d (rulesD r s b), .d (posD cols cells homes), .d (supD (i, j, m)), .d (.int (k : Int)), .u, .u, .d (.int (i : Int)), .d (.int (j : Int)), .d (.int (m : Int)), .u, .u] os) := rfl
  have ng : negD (.int (k : Int)) = some (.int (-(k : Int))) := rfl
  have n1 : negD (.int 1) = some (.int (-1)) := rfl
  obtain ⟨cd, hcd⟩ : ∃ cd, cd = cg (cols.getD i []) k := ⟨_, rfl⟩
  have nk := neg_ix (col := cols.getD i []) k0 (by omega)
  rw [← hcd] at nk
  have c1 : lcD (iEn (xaD (xVar 4) xaNil)) (gTp 2 (gsCons (gNm 9) (gsCons (gNm 10) gsNil))) (xAndT (xTruth (xVar 10)) (xAndT (xBool (xOp (inD true) (xVar 9) (xCall tupD (xaD (xVar 6) (xaD (xVar 7) xaNil))))) (xTruth (xFn m_goes_on (xaD (xVar 0) (xaD (xVar 5) (xaD (xOp ixD (xVar 10) (xUn negD (xC (.int 1)))) xaNil))))))) (xVar 9) [9, 10] [.d (rulesD r s b), .d (posD cols cells homes), .d (supD (i, j, m)), .d (.int (k : Int)), .d (.list (cols.map colD)), .d (pairD cd), .d (.int (i : Int)), .d (.int (j : Int)), .d (.int (m : Int)), .u, .u] os = some (((hlp b cols i j k).map fun q => (q.2 : Int)).map .int, os) := by
    rw [List.map_map]
    unfold hlp
    rw [← hcd]
    refine lcD_pure (l := cols.zipIdx) (f := fun q => .tuple [.int (q.2 : Int), colD q.1]) ?_ (fun q _ => ⟨[.d (rulesD r s b), .d (posD cols cells homes), .d (supD (i, j, m)), .d (.int (k : Int)), .d (.list (cols.map colD)), .d (pairD cd), .d (.int (i : Int)), .d (.int (j : Int)), .d (.int (m : Int)), .d (.int (q.2 : Int)), .d (colD q.1)], rfl, ?_, fun _ => rfl⟩) (small (by rw [List.length_zipIdx]; have := p.many; omega))
    · rw [← enum_map]
      rfl
    · obtain ⟨c, x⟩ := q
      have tu : tupD [.int (i : Int), .int (j : Int)] = some (.tuple [.int (i : Int), .int (j : Int)]) := rfl
      simp -implicitDefEqProofs only [a_andT, a_truth, a_bool, a_op, a_call, a_d, a_nil, a_var, List.getElem?_cons_zero, List.getElem?_cons_succ, slD_d, Option.map_some, Option.bind_some, truth_col, datas_d, datas_nil, tu, not_in2, boolOf_bool]
      cases c with
      | nil => rfl
      | cons a t =>
        simp -implicitDefEqProofs only [List.isEmpty_cons, Bool.not_false, if_true, Bool.true_and]
        cases hq : !(decide (x = i) || decide (x = j)) with
        | false => rfl
        | true =>
          simp -implicitDefEqProofs only [if_true, Bool.true_and, a_fn, a_d, a_nil, a_op, a_un, a_c, a_var, List.getElem?_cons_zero, List.getElem?_cons_succ, slD_d, Option.map_some, Option.bind_some, n1, neg1_ix (col := a :: t) (by simp), goes_ok ht h.bd, truthD_bool]
  unfold m_helping_columns
  rw [m_4]
  simp -implicitDefEqProofs only [b_helping_columns, List.reduceReplicate, Nat.reduceSub, a_seq, u, Option.bind_some]
  simp -implicitDefEqProofs only [a_asg, a_op, a_un, a_c, a_var, List.getElem?_cons_zero, List.getElem?_cons_succ, slD_d, Option.map_some, Option.bind_some, pos0, a_nm, List.set_cons_succ, List.set_cons_zero, col_ix v.i1, ng, nk, a_ret, a_F, c1, outM_rt, cutW_self ht]
def kindS (cols : List (List Card)) (i j m : Nat) : Str := if cols.getD j [] = [] then "into" else if (cols.getD i []).length = m then "whole" else "over"
theorem kind_ok (ht : Tidy os) {i j m : Nat} (v : Sv b cols i j m) : m_kind_beside [.d (posD cols cells homes), .d (supD (i, j, m))] os = some (.str (kindS cols i j m), os) := by
  have u : sAsg (xVar 1) (gTp 3 (gsCons (gNm 2) (gsCons (gNm 3) (gsCons (gNm 4) gsNil)))) [.d (posD cols cells homes), .d (supD (i, j, m)), .u, .u, .u] os = some (.nx [.d (posD cols cells homes), .d (supD (i, j, m)), .d (.int (i : Int)), .d (.int (j : Int)), .d (.int (m : Int))] os) := rfl
  unfold m_kind_beside
  rw [m_2]
  simp -implicitDefEqProofs only [b_kind_beside, List.reduceReplicate, Nat.reduceSub, a_seq, u, Option.bind_some, a_sIf, a_notT, a_truth, a_op, a_c, a_var, List.getElem?_cons_zero, List.getElem?_cons_succ, slD_d, Option.map_some, pos0, col_ix v.j1, truth_col]
  unfold kindS
  by_cases z : cols.getD j [] = []
  · have z2 : (cols.getD j []).isEmpty = true := by rw [z]; rfl
    rw [if_pos z]
    simp -implicitDefEqProofs only [z2, Bool.not_true, Bool.not_false, if_true, a_ret, a_c, Option.map_some, Option.bind_some, outM_rt, cutW_self ht]
  · have z2 : (cols.getD j []).isEmpty = false := by
      cases hz : cols.getD j [] with
      | nil => exact absurd hz z
      | cons _ _ => rfl
    rw [if_neg z]
    have q : eqD (.int ((cols.getD i []).length : Int)) (.int (m : Int)) = some (.bool (decide ((cols.getD i []).length = m))) := by
      rw [DL.eqD_int]
      congr 2
      exact decide_eq_decide.mpr (by omega)
    simp -implicitDefEqProofs only [z2, Bool.not_true, Bool.not_false, Bool.false_eq_true, if_false, a_next, a_ret, a_if, a_bool, a_op, a_call, a_d, a_nil, a_c, a_var, List.getElem?_cons_zero, List.getElem?_cons_succ, slD_d, Option.map_some, Option.bind_some, pos0, col_ix v.i1, datas_d, datas_nil, lenD_list, List.length_map, q, boolOf_bool]
    by_cases y : (cols.getD i []).length = m
    · rw [if_pos y, decide_eq_true y]
      simp -implicitDefEqProofs only [if_true, Option.map_some, Option.bind_some, outM_rt, cutW_self ht]
    · rw [if_neg y, decide_eq_false y]
      simp -implicitDefEqProofs only [Bool.false_eq_true, if_false, Option.map_some, Option.bind_some, outM_rt, cutW_self ht]
/-- the tops that help -/
def topsL (b : Str) (cols : List (List Card)) (i j m : Nat) : List Int := ((List.range (m - 1)).filter fun t => !(hlp b cols i j (t + 1)).isEmpty).map fun (t : Nat) => ((t : Nat) : Int) + 1
def roomL (b : Str) (cols : List (List Card)) (cells : List (Option Card)) (i j m : Nat) : PyData := .tuple [.str (kindS cols i j m), .tuple [.int (freeC cells : Nat), .int (freeE cols : Nat), .list ((topsL b cols i j m).map .int)]]
abbrev roomO (os : Os) (b : Str) (cols : List (List Card)) (cells : List (Option Card)) (i j m : Nat) : Os := [some (.l ((topsL b cols i j m).map .int)), some (.t [.d (.int (freeC cells : Nat)), .d (.int (freeE cols : Nat)), .o os.length]), some (.t [.d (.str (kindS cols i j m)), .o (os.length + 1)])]
theorem room_beside_ok (ht : Tidy os) (h : Rl r s b) (p : Ps r s cols cells homes) {i j m : Nat} (v : Sv b cols i j m) : m_room_beside [.d (rulesD r s b), .d (posD cols cells homes), .d (supD (i, j, m))] os = some (.o (os.length + 2), os ++ roomO os b cols cells i j m) := by
  obtain ⟨A, B, f1, f2, f3⟩ := free_ok ht h p
  have v5 := v.m1
  have rl := run_le (b := b) (col := cols.getD i [])
  have cl := p.collen h (p.at v.i1)
  have u : gTp 2 (gsCons (gNm 4) (gsCons (gNm 5) gsNil)) (.tuple [.list (A.map .int), .list (B.map .int)]) [.d (rulesD r s b), .d (posD cols cells homes), .d (supD (i, j, m)), .u, .u, .u, .u] = some [.d (rulesD r s b), .d (posD cols cells homes), .d (supD (i, j, m)), .u, .d (.list (A.map .int)), .d (.list (B.map .int)), .u] := rfl
  have s2i : ixD (supD (i, j, m)) (.int 2) = some (.int (m : Int)) := ixD_t2
  have c1 : lcD (iRg (xaD (xC (.int 1)) (xaD (xOp ixD (xVar 2) (xC (.int 2))) xaNil))) (gNm 6) (xTruth (xFn m_helping_columns (xaD (xVar 0) (xaD (xVar 1) (xaD (xVar 2) (xaD (xVar 6) xaNil)))))) (xVar 6) [6] [.d (rulesD r s b), .d (posD cols cells homes), .d (supD (i, j, m)), .u, .d (.list (A.map .int)), .d (.list (B.map .int)), .u] os = some ((topsL b cols i j m).map .int, os) := by
    unfold topsL
    rw [List.map_map]
    refine lcD_pure (l := List.range (m - 1)) (f := fun t : Nat => PyData.int (1 + (t : Int))) ?_ (fun t hm => ⟨[.d (rulesD r s b), .d (posD cols cells homes), .d (supD (i, j, m)), .u, .d (.list (A.map .int)), .d (.list (B.map .int)), .d (.int (1 + (t : Int)))], rfl, ?_, fun _ => ?_⟩) (small (by rw [List.length_range]; omega))
    · rw [rg2_ok (os1 := os) (i := 1) (j := (m : Int)) (by simp -implicitDefEqProofs [s2i]) (by omega) (by omega) (by omega) (by omega)]
      have : ((m : Int) - 1).toNat = m - 1 := by omega
      rw [this]
      rfl
    · have hm := List.mem_range.mp hm
      have e1 : (1 : Int) + (t : Int) = ((t + 1 : Nat) : Int) := by omega
      have hk := helping_ok (os := os) ht h p v (show 1 ≤ t + 1 by omega) (show t + 1 < m by omega)
      have tr : truthD (.list (((hlp b cols i j (t + 1)).map fun q => (q.2 : Int)).map .int)) = some (!(hlp b cols i j (t + 1)).isEmpty) := by
        cases hlp b cols i j (t + 1) <;> rfl
      rw [e1]
      simp -implicitDefEqProofs only [a_truth, a_fn, a_d, a_nil, a_var, List.getElem?_cons_zero, List.getElem?_cons_succ, slD_d, Option.map_some, Option.bind_some, hk, tr]
    · have e1 : (1 : Int) + (t : Int) = (t : Int) + 1 := by omega
      rw [e1]
      rfl
  have t1 : Tidy (os ++ [some (.l ((topsL b cols i j m).map .int))]) := ht.l
  have kd := kind_ok (cells := cells) (homes := homes) t1 v
  show mOfS 3 7 b_room_beside [.d (rulesD r s b), .d (posD cols cells homes), .d (supD (i, j, m))] os = _
  rw [mS_eq (n := 3) (ss := [.d (rulesD r s b), .d (posD cols cells homes), .d (supD (i, j, m))]) rfl]
  have rv : xrVar 3 [.d (rulesD r s b), .d (posD cols cells homes), .d (supD (i, j, m)), .o os.length, .d (.list (A.map .int)), .d (.list (B.map .int)), .u] (os ++ [some (.l ((topsL b cols i j m).map .int))]) = some (.o os.length, os ++ [some (.l ((topsL b cols i j m).map .int))]) := rfl
  have inner : xsTup (xaS (xrD (xCall lenD (xaD (xVar 4) xaNil))) (xaS (xrD (xCall lenD (xaD (xVar 5) xaNil))) (xaS (xrVar 3) xaNil))) [.d (rulesD r s b), .d (posD cols cells homes), .d (supD (i, j, m)), .o os.length, .d (.list (A.map .int)), .d (.list (B.map .int)), .u] (os ++ [some (.l ((topsL b cols i j m).map .int))]) = some (.o (os.length + 1), os ++ [some (.l ((topsL b cols i j m).map .int)), some (.t [.d (.int (freeC cells : Nat)), .d (.int (freeE cols : Nat)), .o os.length])]) := by
    unfold xsTup
    simp -implicitDefEqProofs only [a_s, a_rD, a_call, a_d, a_nil, a_var, List.getElem?_cons_zero, List.getElem?_cons_succ, slD_d, Option.map_some, Option.bind_some, datas_d, datas_nil, lenD_list, List.length_map, rv, f2, f3]
    rw [if_pos (by rw [DL.sizeLine_eq]; simp)]
    simp
  have outer : xsTup (xaS (xrD (xFn m_kind_beside (xaD (xVar 1) (xaD (xVar 2) xaNil)))) (xaS (xsTup (xaS (xrD (xCall lenD (xaD (xVar 4) xaNil))) (xaS (xrD (xCall lenD (xaD (xVar 5) xaNil))) (xaS (xrVar 3) xaNil)))) xaNil)) [.d (rulesD r s b), .d (posD cols cells homes), .d (supD (i, j, m)), .o os.length, .d (.list (A.map .int)), .d (.list (B.map .int)), .u] (os ++ [some (.l ((topsL b cols i j m).map .int))]) = some (.o (os.length + 2), os ++ roomO os b cols cells i j m) := by
    have k1 : xrD (xFn m_kind_beside (xaD (xVar 1) (xaD (xVar 2) xaNil))) [.d (rulesD r s b), .d (posD cols cells homes), .d (supD (i, j, m)), .o os.length, .d (.list (A.map .int)), .d (.list (B.map .int)), .u] (os ++ [some (.l ((topsL b cols i j m).map .int))]) = some (.d (.str (kindS cols i j m)), os ++ [some (.l ((topsL b cols i j m).map .int))]) := by
      simp -implicitDefEqProofs only [a_rD, a_fn, a_d, a_nil, a_var, List.getElem?_cons_zero, List.getElem?_cons_succ, slD_d, Option.map_some, Option.bind_some, kd]
    unfold xsTup
    rw [a_s, k1, Option.bind_some, a_s]
    have inner := inner
    unfold xsTup at inner
    simp only
    rw [inner]
    simp only [a_nil, Option.bind_some, Option.map_some]
    rw [if_pos (by rw [DL.sizeLine_eq]; simp)]
    simp
  simp -implicitDefEqProofs only [b_room_beside, List.cons_append, List.nil_append, List.reduceReplicate, Nat.reduceSub, a_seq, a_asg, a_fn, a_d, a_nil, a_var, List.getElem?_cons_zero, List.getElem?_cons_succ, slD_d, Option.map_some, Option.bind_some, f1, u, a_own, c1, List.set_cons_succ, List.set_cons_zero, a_retS, outer, outS_rv]
end
end Lw

set_option Elab.async false
set_option linter.all false
set_option maxRecDepth 100000
set_option maxHeartbeats 4000000
set_option exponentiation.threshold 3000
namespace Lw
open PySem PySem.Spec PyProof.Rows L2 Evl DL
theorem dataO_l {W : Os} {P : Nat → Bool} {j m : Nat} {c : List PyData} (hp : P j = true) (h : W[j]? = some (some (.l c))) : dataO W P (m + 1) (.o j) = some (.list c) := by
  unfold dataO
  simp only [hp, if_true, h]
theorem dataO_t {W : Os} {P : Nat → Bool} {j m : Nat} {c : List Sl} (hp : P j = true) (h : W[j]? = some (some (.t c))) : dataO W P (m + 1) (.o j) = (mapO (dataO W P m) c).map .tuple := by
  unfold dataO
  simp only [hp, if_true, h]
theorem dataO_d {W : Os} {P : Nat → Bool} {m : Nat} {x : PyData} : dataO W P m (.d x) = some x := by
  cases m <;> rfl
section
variable {r s : Int} {b : Str} {os : Os} {cols : List (List Card)} {cells : List (Option Card)} {homes : List Int}
theorem room_of_ok (ht : Tidy os) (h : Rl r s b) (p : Ps r s cols cells homes) {i j m : Nat} (v : Sv b cols i j m) (hs : sens b cols i j m = true) : m_room_of [.d (rulesD r s b), .d (posD cols cells homes), .d (supD (i, j, m))] os = some (.o (os.length + 2), os ++ roomO os b cols cells i j m) := by
  show mOfS 3 3 b_room_of [.d (rulesD r s b), .d (posD cols cells homes), .d (supD (i, j, m))] os = _
  rw [mS_eq (n := 3) (ss := [.d (rulesD r s b), .d (posD cols cells homes), .d (supD (i, j, m))]) rfl]
  have a : xaS (xrD (xVar 0)) (xaS (xrD (xVar 1)) (xaS (xrD (xVar 2)) xaNil)) [.d (rulesD r s b), .d (posD cols cells homes), .d (supD (i, j, m))] os = some ([.d (rulesD r s b), .d (posD cols cells homes), .d (supD (i, j, m))], os) := rfl
  simp -implicitDefEqProofs only [b_room_of, List.cons_append, List.nil_append, List.reduceReplicate, Nat.reduceSub, List.replicate_zero, List.append_nil, a_seq, a_drop, a_fn, a_d, a_nil, a_var, List.getElem?_cons_zero, List.getElem?_cons_succ, slD_d, Option.map_some, Option.bind_some, check_sens_ok ht h p v hs, a_retS, a_sfn, a, room_beside_ok ht h p v, outS_rv]
theorem room_at (i : Nat) (hi : i < 3) {X : Os} (hX : X.length = 3) : (os ++ X)[os.length + i]? = X[i]? := by
  rw [List.getElem?_append_right (by omega)]
  congr 1
  omega
theorem room_data {P : Nat → Bool} {i j m n : Nat} (h0 : P os.length = true) (h1 : P (os.length + 1) = true) (h2 : P (os.length + 2) = true) : dataO (os ++ roomO os b cols cells i j m) P (n + 3) (.o (os.length + 2)) = some (roomL b cols cells i j m) := by
  rw [dataO_t h2 (room_at 2 (by omega) rfl)]
  simp only [mapO, dataO_d, Option.bind_some]
  rw [dataO_t h1 (room_at 1 (by omega) rfl)]
  simp only [mapO, dataO_d, Option.bind_some]
  rw [dataO_l (c := (topsL b cols i j m).map .int) h0 (room_at 0 (by omega) rfl)]
  rfl
theorem room_of_data (ht : Tidy os) (h : Rl r s b) (p : Ps r s cols cells homes) {i j m : Nat} (v : Sv b cols i j m) (hs : sens b cols i j m = true) : asMN m_room_of [.d (rulesD r s b), .d (posD cols cells homes), .d (supD (i, j, m))] os = some (roomL b cols cells i j m, os) := by
  unfold asMN
  rw [room_of_ok ht h p v hs, Option.bind_some]
  simp only
  rw [room_data (n := 5) (by simp) (by simp) (by simp), Option.bind_some, cutW_app ht]
  rfl
/-! the law's room -/
abbrev wT (os : Os) (T : List Int) : Os := os ++ [some (.l (T.map .int))]
abbrev cnd (b : Str) (cols : List (List Card)) (i j k : Nat) (q : List Card × Nat) : Bool := !q.1.isEmpty && (!(decide (q.2 = i) || decide (q.2 = j)) && gl b (cg (cols.getD i []) k) (cg q.1 1))
abbrev inB : SE := (sIf (xAndT (xBool (xOp neD (xVar 10) (xVar 5))) (xAndT (xBool (xOp neD (xVar 10) (xVar 6))) (xAndT (xBool (xOp neD (xVar 11) (xCall lstD xaNil))) (xAndT (xTruth (xFn m_law_lies (xaD (xVar 0) (xaD (xOp ixD (xVar 8) (xUn negD (xVar 3))) (xaD (xOp ixD (xVar 11) (xUn negD (xC (.int 1)))) xaNil))))) (tView (xBool (xOp (inD true) (xVar 3) (xVar 9))))))))
  (sApp 9 (xVar 3))
  sNext)
theorem in_ints (x : Int) (ts : List Int) (neg : Bool) : inD neg (.int x) (.list (ts.map .int)) = some (.bool (if neg then !decide (x ∈ ts) else decide (x ∈ ts))) := by
  have e : inS neg (.int x) (.list (ts.map .int)) = none := rfl
  unfold inD
  rw [e]
  have cl : PyData.canLayAll0 (ts.map .int) = true := canAll (D := 0) fun d hd => by
    obtain ⟨i, _, rfl⟩ := List.mem_map.mp hd
    exact cl_int
  have sh : SeqAt.shaped (.int x) = true := (cl_int (D := 0)).shaped
  have an : ((ts.map PyData.int).any fun y => PyData.eqv y (.int x)) = decide (x ∈ ts) := by
    clear cl e
    induction ts with
    | nil => rfl
    | cons t r ih =>
      rw [List.map_cons, List.any_cons, ih, eqv_int]
      by_cases h : t = x
      · subst h
        simp
      · by_cases h2 : x ∈ r
        · simp [h2]
        · have h3 : ¬ x = t := fun q => h q.symm
          simp [h, h2, h3]
  show (if SeqAt.shaped (.int x) = true ∧ PyData.canLayAll0 (ts.map .int) = true then some (PyData.bool (if neg then !((ts.map PyData.int).any fun y => PyData.eqv y (.int x)) else (ts.map PyData.int).any fun y => PyData.eqv y (.int x))) else none) = _
  rw [if_pos ⟨sh, cl⟩, an]
theorem inner_step (ht : Tidy os) (h : Rl r s b) {i j m k : Nat} (v : Sv b cols i j m) (k0 : 1 ≤ k) (k1 : k < m) {T : List Int} (hT : T.length ≤ 500) {A4 : Sl} (q : List Card × Nat) (P : PyData) :
    inB [.d (rulesD r s b), .d P, .d (supD (i, j, m)), .d (.int (k : Int)), A4, .d (.int (i : Int)), .d (.int (j : Int)), .d (.int (m : Int)), .d (colD (cols.getD i [])), .o os.length, .d (.int (q.2 : Int)), .d (colD q.1)] (wT os T) = some (.nx [.d (rulesD r s b), .d P, .d (supD (i, j, m)), .d (.int (k : Int)), A4, .d (.int (i : Int)), .d (.int (j : Int)), .d (.int (m : Int)), .d (colD (cols.getD i [])), .o os.length, .d (.int (q.2 : Int)), .d (colD q.1)] (wT os (if cnd b cols i j k q && !decide ((k : Int) ∈ T) then T ++ [(k : Int)] else T))) := by
  have rl := run_le (b := b) (col := cols.getD i [])
  have v5 := v.m1
  obtain ⟨c, x⟩ := q
  have nk := neg_ix (col := cols.getD i []) k0 (by omega)
  have ng : negD (.int (k : Int)) = some (.int (-(k : Int))) := rfl
  have n1 : negD (.int 1) = some (.int (-1)) := rfl
  have e1 : neD (.int (x : Int)) (.int (i : Int)) = some (.bool (!decide (x = i))) := by
    rw [DL.neD_int]
    congr 3
    exact decide_eq_decide.mpr (by omega)
  have e2 : neD (.int (x : Int)) (.int (j : Int)) = some (.bool (!decide (x = j))) := by
    rw [DL.neD_int]
    congr 3
    exact decide_eq_decide.mpr (by omega)
  have e3 := ne_nilC c
  have tW : Tidy (wT os T) := ht.l
  have gW : (wT os T)[os.length]? = some (some (.l (T.map .int))) := by
    rw [List.getElem?_append_right (Nat.le_refl _)]
    simp
  have tst : (xAndT (xBool (xOp neD (xVar 10) (xVar 5))) (xAndT (xBool (xOp neD (xVar 10) (xVar 6))) (xAndT (xBool (xOp neD (xVar 11) (xCall lstD xaNil))) (xAndT (xTruth (xFn m_law_lies (xaD (xVar 0) (xaD (xOp ixD (xVar 8) (xUn negD (xVar 3))) (xaD (xOp ixD (xVar 11) (xUn negD (xC (.int 1)))) xaNil))))) (tView (xBool (xOp (inD true) (xVar 3) (xVar 9)))))))) [.d (rulesD r s b), .d P, .d (supD (i, j, m)), .d (.int (k : Int)), A4, .d (.int (i : Int)), .d (.int (j : Int)), .d (.int (m : Int)), .d (colD (cols.getD i [])), .o os.length, .d (.int (x : Int)), .d (colD c)] (wT os T) = some (cnd b cols i j k (c, x) && !decide ((k : Int) ∈ T), wT os T) := by
    have tv : tView (xBool (xOp (inD true) (xVar 3) (xVar 9))) [.d (rulesD r s b), .d P, .d (supD (i, j, m)), .d (.int (k : Int)), A4, .d (.int (i : Int)), .d (.int (j : Int)), .d (.int (m : Int)), .d (colD (cols.getD i [])), .o os.length, .d (.int (x : Int)), .d (colD c)] (wT os T) = some (!decide ((k : Int) ∈ T), wT os T) := by
      have vW : viewS (wT os T) (.o os.length) = .d (.list (T.map .int)) := by
        show (match (wT os T)[os.length]? with
          | some (some (.l ds)) => Sl.d (.list ds)
          | _ => .u) = _
        rw [gW]
      have vd : ∀ y : PyData, viewS (wT os T) (.d y) = .d y := fun _ => rfl
      have ii := in_ints (k : Int) T true
      simp only [if_true] at ii
      unfold DL.tView
      simp -implicitDefEqProofs only [List.map_cons, List.map_nil, vW, vd, a_bool, a_op, a_var, List.getElem?_cons_zero, List.getElem?_cons_succ, slD_d, Option.map_some, Option.bind_some, ii, boolOf_bool]
    unfold cnd
    simp -implicitDefEqProofs only [a_andT, a_bool, a_op, a_var, List.getElem?_cons_zero, List.getElem?_cons_succ, slD_d, Option.map_some, Option.bind_some, e1, e2, boolOf_bool]
    by_cases h1 : x = i
    · simp [h1]
    · by_cases h2 : x = j
      · simp [h1, h2]
      · cases c with
        | nil =>
          simp -implicitDefEqProofs [h1, h2, e3]
        | cons a t =>
          have l3 := lies_ok (r := r) (s := s) (c := cg (cols.getD i []) k) (o := cg (a :: t) 1) tW h.bd
          simp -implicitDefEqProofs only [h1, h2, decide_false, Bool.not_false, if_true, a_call, a_nil, datas_nil, lstD_0, e3, List.isEmpty_cons, boolOf_bool, a_truth, a_fn, a_d, a_op, a_un, a_c, a_var, List.getElem?_cons_zero, List.getElem?_cons_succ, slD_d, Option.map_some, Option.bind_some, ng, nk, n1, neg1_ix (col := a :: t) (by simp), l3, truthD_bool]
          cases g : gl b (cg (cols.getD i []) k) (cg (a :: t) 1) with
          | false => simp
          | true =>
            simp only [if_true]
            rw [tv]
            simp
  unfold inB
  rw [a_sIf, tst, Option.bind_some]
  simp only
  cases hc : cnd b cols i j k (c, x) && !decide ((k : Int) ∈ T) with
  | false => rfl
  | true =>
    simp only [if_true]
    unfold DL.sApp
    have ow : ownAt [.d (rulesD r s b), .d P, .d (supD (i, j, m)), .d (.int (k : Int)), A4, .d (.int (i : Int)), .d (.int (j : Int)), .d (.int (m : Int)), .d (colD (cols.getD i [])), .o os.length, .d (.int (x : Int)), .d (colD c)] (wT os T) 9 = some (os.length, T.map .int) := ownAt_o rfl gW
    rw [ow, Option.bind_some, a_var]
    simp only [List.getElem?_cons_zero, List.getElem?_cons_succ, slD_d, Option.map_some, Option.bind_some]
    rw [ow, Option.bind_some]
    simp only
    rw [if_pos (by rw [List.length_map, DL.sizeLine_eq]; omega), List.set_append_right _ _ (Nat.le_refl _), Nat.sub_self]
    simp [wT]
theorem any_filter {α : Type} (p : α → Bool) : ∀ l : List α, (!(l.filter p).isEmpty) = l.any p
  | [] => rfl
  | a :: t => by
    rw [List.filter_cons, List.any_cons]
    cases h : p a with
    | true => simp
    | false =>
      rw [if_neg (by simp), any_filter p t]
      simp
def fT (b : Str) (cols : List (List Card)) (i j k : Nat) (T : List Int) (q : List Card × Nat) : List Int := if cnd b cols i j k q && !decide ((k : Int) ∈ T) then T ++ [(k : Int)] else T
theorem fT_in {i j k : Nat} : ∀ (l : List (List Card × Nat)) (T : List Int), (k : Int) ∈ T → l.foldl (fT b cols i j k) T = T
  | [], _, _ => rfl
  | q :: l, T, h => by
    rw [List.foldl_cons]
    have : fT b cols i j k T q = T := by
      unfold fT
      rw [decide_eq_true h]
      simp
    rw [this]
    exact fT_in l T h
theorem fT_out {i j k : Nat} : ∀ (l : List (List Card × Nat)) (T : List Int), (k : Int) ∉ T → l.foldl (fT b cols i j k) T = T ++ (if l.any (cnd b cols i j k) = true then [(k : Int)] else [])
  | [], T, _ => by simp
  | q :: l, T, h => by
    rw [List.foldl_cons, List.any_cons]
    cases hc : cnd b cols i j k q with
    | true =>
      have : fT b cols i j k T q = T ++ [(k : Int)] := by
        unfold fT
        rw [decide_eq_false h, hc]
        simp
      rw [this, fT_in l _ (by simp)]
      simp
    | false =>
      have : fT b cols i j k T q = T := by
        unfold fT
        rw [hc]
        simp
      rw [this, fT_out l T h, Bool.false_or]
theorem inner_loop (ht : Tidy os) (h : Rl r s b) {i j m k : Nat} (v : Sv b cols i j m) (k0 : 1 ≤ k) (k1 : k < m) {A4 : Sl} (P : PyData) : ∀ (l : List (List Card × Nat)) (T : List Int) (y10 y11 : Sl), (T.length ≤ 499 ∨ ((k : Int) ∈ T ∧ T.length ≤ 500)) → ∃ z10 z11,
    forRun (gTp 2 (gsCons (gNm 10) (gsCons (gNm 11) gsNil))) inB (l.map fun q => .tuple [.int (q.2 : Int), colD q.1]) [.d (rulesD r s b), .d P, .d (supD (i, j, m)), .d (.int (k : Int)), A4, .d (.int (i : Int)), .d (.int (j : Int)), .d (.int (m : Int)), .d (colD (cols.getD i [])), .o os.length, y10, y11] (wT os T) = some (.nx [.d (rulesD r s b), .d P, .d (supD (i, j, m)), .d (.int (k : Int)), A4, .d (.int (i : Int)), .d (.int (j : Int)), .d (.int (m : Int)), .d (colD (cols.getD i [])), .o os.length, z10, z11] (wT os (l.foldl (fT b cols i j k) T)))
  | [], T, y10, y11, _ => ⟨y10, y11, rfl⟩
  | q :: l, T, y10, y11, hT => by
    have st := inner_step ht h v k0 k1 (T := T) (A4 := A4) (by omega) q P
    have hT2 : ((fT b cols i j k T q).length ≤ 499 ∨ ((k : Int) ∈ fT b cols i j k T q ∧ (fT b cols i j k T q).length ≤ 500)) := by
      unfold fT
      split
      · rename_i hc
        simp only [Bool.and_eq_true, Bool.not_eq_true', decide_eq_false_iff_not] at hc
        rcases hT with z | z
        · exact .inr ⟨by simp, by rw [List.length_append, List.length_singleton]; omega⟩
        · exact absurd z.1 hc.2
      · exact hT
    obtain ⟨z10, z11, ih⟩ := inner_loop ht h v k0 k1 (A4 := A4) P l (fT b cols i j k T q) (.d (.int (q.2 : Int))) (.d (colD q.1)) hT2
    refine ⟨z10, z11, ?_⟩
    have g : gTp 2 (gsCons (gNm 10) (gsCons (gNm 11) gsNil)) (.tuple [.int (q.2 : Int), colD q.1]) [.d (rulesD r s b), .d P, .d (supD (i, j, m)), .d (.int (k : Int)), A4, .d (.int (i : Int)), .d (.int (j : Int)), .d (.int (m : Int)), .d (colD (cols.getD i [])), .o os.length, y10, y11] = some [.d (rulesD r s b), .d P, .d (supD (i, j, m)), .d (.int (k : Int)), A4, .d (.int (i : Int)), .d (.int (j : Int)), .d (.int (m : Int)), .d (colD (cols.getD i [])), .o os.length, .d (.int (q.2 : Int)), .d (colD q.1)] := rfl
    rw [List.map_cons, forRun, g, Option.bind_some, st]
    exact ih
theorem outer_loop (ht : Tidy os) (h : Rl r s b) (p : Ps r s cols cells homes) {i j m : Nat} (v : Sv b cols i j m) {A4 : Sl} : ∀ (n a : Nat) (T : List Int) (y3 y10 y11 : Sl), a + n + 1 ≤ m → T.length ≤ a → a + n ≤ 400 → (∀ x ∈ T, x ≤ (a : Int)) → ∃ z3 z10 z11,
    forRun (gNm 3) (sFor (iEn (xaD (xOp ixD (xVar 1) (xC (.int 0))) xaNil)) (gTp 2 (gsCons (gNm 10) (gsCons (gNm 11) gsNil))) inB) ((List.range' a n).map fun (t : Nat) => PyData.int (1 + ((t : Nat) : Int))) [.d (rulesD r s b), .d (posD cols cells homes), .d (supD (i, j, m)), y3, A4, .d (.int (i : Int)), .d (.int (j : Int)), .d (.int (m : Int)), .d (colD (cols.getD i [])), .o os.length, y10, y11] (wT os T) = some (.nx [.d (rulesD r s b), .d (posD cols cells homes), .d (supD (i, j, m)), z3, A4, .d (.int (i : Int)), .d (.int (j : Int)), .d (.int (m : Int)), .d (colD (cols.getD i [])), .o os.length, z10, z11] (wT os (T ++ ((List.range' a n).filter fun t => !(hlp b cols i j (t + 1)).isEmpty).map fun (t : Nat) => ((t : Nat) : Int) + 1)))
  | 0, a, T, y3, y10, y11, _, _, _, _ => ⟨y3, y10, y11, by simp [forRun]⟩
  | n + 1, a, T, y3, y10, y11, hm, hT, hz, hx => by
    have e1 : (1 : Int) + (a : Int) = ((a + 1 : Nat) : Int) := by omega
    obtain ⟨w10, w11, st⟩ := inner_loop ht h v (k := a + 1) (by omega) (by omega) (A4 := A4) (posD cols cells homes) cols.zipIdx T y10 y11 (.inl (by omega))
    have nin : ((a + 1 : Nat) : Int) ∉ T := fun q => by
      have := hx _ q
      omega
    rw [fT_out _ _ nin] at st
    have en : iEn (xaD (xOp ixD (xVar 1) (xC (.int 0))) xaNil) [.d (rulesD r s b), .d (posD cols cells homes), .d (supD (i, j, m)), .d (.int ((a + 1 : Nat) : Int)), A4, .d (.int (i : Int)), .d (.int (j : Int)), .d (.int (m : Int)), .d (colD (cols.getD i [])), .o os.length, y10, y11] (wT os T) = some (cols.zipIdx.map fun q => .tuple [.int (q.2 : Int), colD q.1], wT os T) := by
      rw [← enum_map]
      rfl
    obtain ⟨T', hT'⟩ : ∃ T', T' = T ++ (if cols.zipIdx.any (cnd b cols i j (a + 1)) = true then [((a + 1 : Nat) : Int)] else []) := ⟨_, rfl⟩
    rw [← hT'] at st
    have lT : T'.length ≤ a + 1 := by
      rw [hT', List.length_append]
      split <;> simp <;> omega
    have xT : ∀ x ∈ T', x ≤ ((a + 1 : Nat) : Int) := fun x hxm => by
      rw [hT'] at hxm
      rcases List.mem_append.mp hxm with z | z
      · have := hx x z
        omega
      · split at z
        · simp at z
          omega
        · cases z
    obtain ⟨z3, z10, z11, ih⟩ := outer_loop ht h p v (A4 := A4) n (a + 1) T' (.d (.int ((a + 1 : Nat) : Int))) w10 w11 (by omega) lT (by omega) xT
    refine ⟨z3, z10, z11, ?_⟩
    rw [List.range'_succ, List.map_cons, e1]
    simp -implicitDefEqProofs only [forRun, a_nm, List.set_cons_succ, List.set_cons_zero, Option.bind_some]
    rw [a_for, en, Option.bind_some]
    simp only
    rw [st]
    simp only [Option.bind_some]
    rw [ih]
    congr 2
    rw [hT', List.filter_cons]
    have eh : (!(hlp b cols i j (a + 1)).isEmpty) = cols.zipIdx.any (cnd b cols i j (a + 1)) := any_filter _ _
    rw [eh]
    split
    · simp [wT]
    · simp [wT]
theorem cnt_none (l : List (Option Card)) : (l.map optD).countP (fun y => PyData.eqv y .none) = freeC l := by
  unfold freeC
  rw [List.countP_map]
  congr 1
  funext c
  cases c with
  | none => rfl
  | some c => simp [optD, pairD, PyData.eqv]
theorem cnt_nil (l : List (List Card)) : (l.map colD).countP (fun y => PyData.eqv y (.list [])) = freeE l := by
  unfold freeE
  rw [List.countP_map]
  congr 1
  funext c
  cases c with
  | nil => simp [PyData.eqv, PyData.eqvAll]
  | cons a t => simp [PyData.eqv, PyData.eqvAll]
theorem plain_cells (l : List (Option Card)) : PyData.plainAll (l.map optD) = true := by
  induction l with
  | nil => rfl
  | cons a t ih =>
    rw [List.map_cons]
    cases a with
    | none => simp [PyData.plainAll, PyData.plain, optD, ih]
    | some c => simp [PyData.plainAll, PyData.plain, optD, pairD, ih]
theorem plain_pairs (l : List Card) : PyData.plainAll (l.map pairD) = true := by
  induction l with
  | nil => rfl
  | cons a t ih =>
    rw [List.map_cons]
    simp [PyData.plainAll, PyData.plain, pairD, ih]
theorem plain_cols (l : List (List Card)) : PyData.plainAll (l.map colD) = true := by
  induction l with
  | nil => rfl
  | cons a t ih =>
    rw [List.map_cons]
    simp [PyData.plainAll, PyData.plain, plain_pairs, ih]
theorem law_room_ok (ht : Tidy os) (h : Rl r s b) (p : Ps r s cols cells homes) {i j m : Nat} (v : Sv b cols i j m) : m_law_room_of [.d (rulesD r s b), .d (posD cols cells homes), .d (supD (i, j, m))] os = some (roomL b cols cells i j m, os) := by
  have v5 := v.m1
  have v4 := v.m0
  have rl := run_le (b := b) (col := cols.getD i [])
  have cl := p.collen h (p.at v.i1)
  obtain ⟨z3, z10, z11, lp⟩ := outer_loop ht h p v (A4 := .u) (m - 1) 0 [] .u .u .u (by omega) (by simp) (by omega) (fun x hx => nomatch hx)
  have g1 : gcntD (.list (cells.map optD)) .none = some (.int (freeC cells : Nat)) := by
    show (if _ then _ else _) = _
    rw [if_pos ⟨plain_cells cells, rfl, by simp [PyData.depth]⟩, cnt_none]
  have g2 : gcntD (.list (cols.map colD)) (.list []) = some (.int (freeE cols : Nat)) := by
    show (if _ then _ else _) = _
    rw [if_pos ⟨plain_cols cols, rfl, by simp [PyData.depth, PyData.depthAll]⟩, cnt_nil]
  obtain ⟨T, hT⟩ : ∃ T, T = topsL b cols i j m := ⟨_, rfl⟩
  have eT : ([] : List Int) ++ ((List.range' 0 (m - 1)).filter fun t => !(hlp b cols i j (t + 1)).isEmpty).map (fun (t : Nat) => ((t : Nat) : Int) + 1) = T := by
    rw [hT]
    unfold topsL
    rw [List.nil_append, List.range_eq_range']
  rw [eT] at lp
  obtain ⟨P, hP⟩ : ∃ P, P = posD cols cells homes := ⟨_, rfl⟩
  have ps0 : ixD P (.int 0) = some (.list (cols.map colD)) := by rw [hP]; exact pos0
  have ps1 : ixD P (.int 1) = some (.list (cells.map optD)) := by rw [hP]; exact pos1
  rw [← hP] at lp
  have s1 : sAsg (xVar 2) (gTp 3 (gsCons (gNm 5) (gsCons (gNm 6) (gsCons (gNm 7) gsNil)))) [.d (rulesD r s b), .d P, .d (supD (i, j, m)), .u, .u, .u, .u, .u, .u, .u, .u, .u] os = some (.nx [.d (rulesD r s b), .d P, .d (supD (i, j, m)), .u, .u, .d (.int (i : Int)), .d (.int (j : Int)), .d (.int (m : Int)), .u, .u, .u, .u] os) := rfl
  have s2 : sTupV [8, 9] (xaS (xrD (xOp ixD (xOp ixD (xVar 1) (xC (.int 0))) (xVar 5))) (xaS (xsOwn (fLst xaNil)) xaNil)) [.d (rulesD r s b), .d P, .d (supD (i, j, m)), .u, .u, .d (.int (i : Int)), .d (.int (j : Int)), .d (.int (m : Int)), .u, .u, .u, .u] os = some (.nx [.d (rulesD r s b), .d P, .d (supD (i, j, m)), .u, .u, .d (.int (i : Int)), .d (.int (j : Int)), .d (.int (m : Int)), .d (colD (cols.getD i [])), .o os.length, .u, .u] (wT os [])) := by
    have f : fLst xaNil [.d (rulesD r s b), .d P, .d (supD (i, j, m)), .u, .u, .d (.int (i : Int)), .d (.int (j : Int)), .d (.int (m : Int)), .u, .u, .u, .u] os = some ([], os) := rfl
    rw [a_tupV]
    simp -implicitDefEqProofs only [a_s, a_rD, a_op, a_c, a_var, a_sown, f, a_nil, List.getElem?_cons_zero, List.getElem?_cons_succ, slD_d, Option.map_some, Option.bind_some, ps0, col_ix v.i1]
    rfl
  have s3 : sFor (iRg (xaD (xC (.int 1)) (xaD (xVar 7) xaNil))) (gNm 3) (sFor (iEn (xaD (xOp ixD (xVar 1) (xC (.int 0))) xaNil)) (gTp 2 (gsCons (gNm 10) (gsCons (gNm 11) gsNil))) inB) [.d (rulesD r s b), .d P, .d (supD (i, j, m)), .u, .u, .d (.int (i : Int)), .d (.int (j : Int)), .d (.int (m : Int)), .d (colD (cols.getD i [])), .o os.length, .u, .u] (wT os []) = some (.nx [.d (rulesD r s b), .d P, .d (supD (i, j, m)), z3, .u, .d (.int (i : Int)), .d (.int (j : Int)), .d (.int (m : Int)), .d (colD (cols.getD i [])), .o os.length, z10, z11] (wT os T)) := by
    have rg : iRg (xaD (xC (.int 1)) (xaD (xVar 7) xaNil)) [.d (rulesD r s b), .d P, .d (supD (i, j, m)), .u, .u, .d (.int (i : Int)), .d (.int (j : Int)), .d (.int (m : Int)), .d (colD (cols.getD i [])), .o os.length, .u, .u] (wT os []) = some ((List.range' 0 (m - 1)).map fun (t : Nat) => PyData.int (1 + ((t : Nat) : Int)), wT os []) := by
      rw [rg2_ok (os1 := wT os []) (i := 1) (j := (m : Int)) rfl (by omega) (by omega) (by omega) (by omega), ← List.range_eq_range']
      have : ((m : Int) - 1).toNat = m - 1 := by omega
      rw [this]
      rfl
    rw [a_for, rg, Option.bind_some]
    exact lp
  have s4 : sAsg (xIf (xBool (xOp eqD (xOp ixD (xOp ixD (xVar 1) (xC (.int 0))) (xVar 6)) (xCall lstD xaNil))) (xC (.str "into")) (xIf (xBool (xOp eqD (xCall lenD (xaD (xVar 8) xaNil)) (xVar 7))) (xC (.str "whole")) (xC (.str "over")))) (gNm 4) [.d (rulesD r s b), .d P, .d (supD (i, j, m)), z3, .u, .d (.int (i : Int)), .d (.int (j : Int)), .d (.int (m : Int)), .d (colD (cols.getD i [])), .o os.length, z10, z11] (wT os T) = some (.nx [.d (rulesD r s b), .d P, .d (supD (i, j, m)), z3, .d (.str (kindS cols i j m)), .d (.int (i : Int)), .d (.int (j : Int)), .d (.int (m : Int)), .d (colD (cols.getD i [])), .o os.length, z10, z11] (wT os T)) := by
    have e1 := eq_nilC (cols.getD j [])
    have q : eqD (.int ((cols.getD i []).length : Int)) (.int (m : Int)) = some (.bool (decide ((cols.getD i []).length = m))) := by
      have e : decide (((cols.getD i []).length : Int) = (m : Int)) = decide ((cols.getD i []).length = m) := decide_eq_decide.mpr (by omega)
      rw [DL.eqD_int, e]
    simp -implicitDefEqProofs only [a_asg, a_if, a_bool, a_op, a_c, a_call, a_nil, a_d, a_var, List.getElem?_cons_zero, List.getElem?_cons_succ, slD_d, Option.map_some, Option.bind_some, ps0, col_ix v.j1, datas_nil, datas_d, lstD_0, e1, boolOf_bool, lenD_list, List.length_map, q]
    unfold kindS
    by_cases z : cols.getD j [] = []
    · have z2 : (cols.getD j []).isEmpty = true := by rw [z]; rfl
      rw [if_pos z]
      simp -implicitDefEqProofs only [z2, if_true, Option.bind_some, Option.map_some, a_nm, List.set_cons_succ, List.set_cons_zero]
    · have z2 : (cols.getD j []).isEmpty = false := by
        cases hz : cols.getD j [] with
        | nil => exact absurd hz z
        | cons _ _ => rfl
      rw [if_neg z]
      by_cases y : (cols.getD i []).length = m
      · rw [if_pos y, decide_eq_true y]
        simp -implicitDefEqProofs only [z2, Bool.false_eq_true, if_false, if_true, Option.bind_some, Option.map_some, a_nm, List.set_cons_succ, List.set_cons_zero]
      · rw [if_neg y, decide_eq_false y]
        simp -implicitDefEqProofs only [z2, Bool.false_eq_true, if_false, Option.bind_some, Option.map_some, a_nm, List.set_cons_succ, List.set_cons_zero]
  have gW : (wT os T)[os.length]? = some (some (.l (T.map .int))) := by
    rw [List.getElem?_append_right (Nat.le_refl _)]
    simp
  have s5 : sFrz 9 (sRet (xCall tupD (xaD (xVar 4) (xaD (xCall tupD (xaD (xOp gcntD (xOp ixD (xVar 1) (xC (.int 1))) (xC .none)) (xaD (xOp gcntD (xOp ixD (xVar 1) (xC (.int 0))) (xCall lstD xaNil)) (xaD (xVar 9) xaNil)))) xaNil)))) [.d (rulesD r s b), .d P, .d (supD (i, j, m)), z3, .d (.str (kindS cols i j m)), .d (.int (i : Int)), .d (.int (j : Int)), .d (.int (m : Int)), .d (colD (cols.getD i [])), .o os.length, z10, z11] (wT os T) = some (.rt (roomL b cols cells i j m) (os ++ [none])) := by
    unfold DL.sFrz
    have ow : ownAt [.d (rulesD r s b), .d P, .d (supD (i, j, m)), z3, .d (.str (kindS cols i j m)), .d (.int (i : Int)), .d (.int (j : Int)), .d (.int (m : Int)), .d (colD (cols.getD i [])), .o os.length, z10, z11] (wT os T) 9 = some (os.length, T.map .int) := ownAt_o rfl gW
    rw [ow, Option.bind_some]
    have st : (wT os T).set os.length none = os ++ [none] := by
      rw [List.set_append_right _ _ (Nat.le_refl _), Nat.sub_self]
      rfl
    simp only [st]
    have t3 : tupD [.int (freeC cells : Nat), .int (freeE cols : Nat), .list (T.map .int)] = some (.tuple [.int (freeC cells : Nat), .int (freeE cols : Nat), .list (T.map .int)]) := rfl
    simp -implicitDefEqProofs only [List.set_cons_succ, List.set_cons_zero, a_ret, a_call, a_op, a_c, a_d, a_nil, a_var, List.getElem?_cons_zero, List.getElem?_cons_succ, slD_d, Option.map_some, Option.bind_some, ps0, ps1, g1, datas_nil, datas_d, lstD_0, g2, t3, tupD_2]
    rw [hT]
    rfl
  have b0 : b_law_room_of [.d (rulesD r s b), .d P, .d (supD (i, j, m)), .u, .u, .u, .u, .u, .u, .u, .u, .u] os = some (.rt (roomL b cols cells i j m) (os ++ [none])) := seq_nx s1 (seq_nx s2 (seq_nx s3 (seq_nx s4 s5)))
  unfold m_law_room_of
  rw [m_3, ← hP]
  simp -implicitDefEqProofs only [List.reduceReplicate, Nat.reduceSub, b0, Option.bind_some, outM_rt, cutW_app ht, Option.map_some]
end
end Lw

set_option Elab.async false
set_option linter.all false
set_option maxRecDepth 100000
set_option maxHeartbeats 4000000
set_option exponentiation.threshold 3000
namespace Lw
open PySem PySem.Spec PyProof.Rows L2 Evl DL
/-! all supermoves that can be asked about -/
abbrev Sm := Nat × Nat × Nat
def smD (q : Sm) : PyData := supD (q.1, q.2.1, q.2.2)
def AllSv (b : Str) (cols : List (List Card)) (S : List Sm) : Prop := ∀ q ∈ S, Sv b cols q.1 q.2.1 q.2.2
section
variable {r s : Int} {b : Str} {os : Os} {cols : List (List Card)} {cells : List (Option Card)} {homes : List Int}
abbrev smB : SE := (sIf (xBool (xOp neD (xVar 5) (xVar 3))) (sAsg (xOp addD (xVar 2) (xF (lcD (iRg (xaD (xC (.int 1)) (xaD (xOp addD (xFn m_law_run (xaD (xVar 0) (xaD (xVar 4) xaNil))) (xC (.int 1))) xaNil))) (gNm 6) xYes (xCall tupD (xaD (xVar 3) (xaD (xVar 5) (xaD (xVar 6) xaNil)))) [6]))) (gNm 2)) sNext)
theorem sm_step (ht : Tidy os) (h : Rl r s b) (p : Ps r s cols cells homes) {i j : Nat} (hi : i < cols.length) (hj : j < cols.length) (P : PyData) {S : List Sm} (hS : AllSv b cols S) (hz : S.length ≤ 200000) : ∃ S', AllSv b cols S' ∧ S'.length ≤ S.length + 160 ∧
    smB [.d (rulesD r s b), .d P, .d (.list (S.map smD)), .d (.int (i : Int)), .d (colD (cols.getD i [])), .d (.int (j : Int)), .u] os = some (.nx [.d (rulesD r s b), .d P, .d (.list (S'.map smD)), .d (.int (i : Int)), .d (colD (cols.getD i [])), .d (.int (j : Int)), .u] os) := by
  have cl := p.collen h (p.at hi)
  have rl := run_le (b := b) (col := cols.getD i [])
  have ne : neD (.int (j : Int)) (.int (i : Int)) = some (.bool (!decide (j = i))) := by
    have e : decide ((j : Int) = (i : Int)) = decide (j = i) := decide_eq_decide.mpr (by omega)
    rw [DL.neD_int, e]
  by_cases c : j = i
  · refine ⟨S, hS, by omega, ?_⟩
    refine if_no ?_
    rw [decide_eq_true c] at ne
    simp -implicitDefEqProofs only [a_bool, a_op, a_var, List.getElem?_cons_zero, List.getElem?_cons_succ, slD_d, Option.map_some, Option.bind_some, ne, Bool.not_true, boolOf_bool]
  · obtain ⟨N, hN⟩ : ∃ N : List Sm, N = (List.range (run b (cols.getD i []))).map fun t => (i, j, t + 1) := ⟨_, rfl⟩
    refine ⟨S ++ N, fun q hq => ?_, ?_, ?_⟩
    · rcases List.mem_append.mp hq with z | z
      · exact hS q z
      · rw [hN] at z
        obtain ⟨t, ht2, rfl⟩ := List.mem_map.mp z
        have := List.mem_range.mp ht2
        exact ⟨hi, hj, fun z => c z.symm, by simp only; omega, by simp only; omega⟩
    · rw [List.length_append, hN, List.length_map, List.length_range]
      omega
    · have c1 : lcD (iRg (xaD (xC (.int 1)) (xaD (xOp addD (xFn m_law_run (xaD (xVar 0) (xaD (xVar 4) xaNil))) (xC (.int 1))) xaNil))) (gNm 6) xYes (xCall tupD (xaD (xVar 3) (xaD (xVar 5) (xaD (xVar 6) xaNil)))) [6] [.d (rulesD r s b), .d P, .d (.list (S.map smD)), .d (.int (i : Int)), .d (colD (cols.getD i [])), .d (.int (j : Int)), .u] os = some (N.map smD, os) := by
        rw [hN, List.map_map]
        refine lcD_all (l := List.range (run b (cols.getD i []))) (f := fun t : Nat => PyData.int (1 + (t : Int))) ?_ (fun t _ => ⟨[.d (rulesD r s b), .d P, .d (.list (S.map smD)), .d (.int (i : Int)), .d (colD (cols.getD i [])), .d (.int (j : Int)), .d (.int (1 + (t : Int)))], rfl, ?_⟩) (small (by rw [List.length_range]; omega))
        · rw [rg2_ok (os1 := os) (i := 1) (j := ((run b (cols.getD i []) : Nat) : Int) + 1) (by
            simp -implicitDefEqProofs only [a_d, a_c, a_op, a_fn, a_nil, a_var, List.getElem?_cons_zero, List.getElem?_cons_succ, slD_d, Option.map_some, Option.bind_some, law_run_ok ht h.bd (show (cols.getD i []).length ≤ 1000 by omega), addD_int]) (by omega) (by omega) (by omega) (by omega)]
          have : (((run b (cols.getD i []) : Nat) : Int) + 1 - 1).toNat = run b (cols.getD i []) := by omega
          rw [this]
          rfl
        · have e1 : (1 : Int) + (t : Int) = ((t + 1 : Nat) : Int) := by omega
          rw [e1]
          rfl
      have nl : N.length ≤ 160 := by
        rw [hN, List.length_map, List.length_range]
        omega
      have ad : addD (.list (S.map smD)) (.list (N.map smD)) = some (.list ((S ++ N).map smD)) := by
        rw [addD_list (by rw [List.length_map, List.length_map, DL.sizeLine_eq]; omega), List.map_append]
      have tt : xBool (xOp neD (xVar 5) (xVar 3)) [.d (rulesD r s b), .d P, .d (.list (S.map smD)), .d (.int (i : Int)), .d (colD (cols.getD i [])), .d (.int (j : Int)), .u] os = some (true, os) := by
        simp -implicitDefEqProofs only [a_bool, a_op, a_var, List.getElem?_cons_zero, List.getElem?_cons_succ, slD_d, Option.map_some, Option.bind_some, ne, c, decide_false, Bool.not_false, boolOf_bool]
      unfold smB
      rw [a_sIf, tt, Option.bind_some]
      simp only [if_true]
      simp -implicitDefEqProofs only [a_asg, a_op, a_F, c1, ad, a_var, List.getElem?_cons_zero, List.getElem?_cons_succ, slD_d, Option.map_some, Option.bind_some, a_nm, List.set_cons_succ, List.set_cons_zero]
theorem sm_inner (ht : Tidy os) (h : Rl r s b) (p : Ps r s cols cells homes) {i : Nat} (hi : i < cols.length) (P : PyData) : ∀ (l : List Nat) (S : List Sm) (y5 : Sl), (∀ j ∈ l, j < cols.length) → AllSv b cols S → S.length + 160 * l.length ≤ 200000 → ∃ S' z5, AllSv b cols S' ∧ S'.length ≤ S.length + 160 * l.length ∧
    forRun (gNm 5) smB (l.map fun (j : Nat) => PyData.int ((j : Nat) : Int)) [.d (rulesD r s b), .d P, .d (.list (S.map smD)), .d (.int (i : Int)), .d (colD (cols.getD i [])), y5, .u] os = some (.nx [.d (rulesD r s b), .d P, .d (.list (S'.map smD)), .d (.int (i : Int)), .d (colD (cols.getD i [])), z5, .u] os)
  | [], S, y5, _, hS, _ => ⟨S, y5, hS, by simp, rfl⟩
  | j :: l, S, y5, hl, hS, hz => by
    rw [List.length_cons] at hz
    obtain ⟨S1, h1, h2, h3⟩ := sm_step ht h p hi (hl j (by simp)) P hS (by omega)
    obtain ⟨S2, z5, h4, h5, h6⟩ := sm_inner ht h p hi P l S1 (.d (.int (j : Int))) (fun x hx => hl x (by simp [hx])) h1 (by omega)
    refine ⟨S2, z5, h4, by rw [List.length_cons]; omega, ?_⟩
    rw [List.map_cons]
    simp -implicitDefEqProofs only [forRun, a_nm, List.set_cons_succ, List.set_cons_zero, Option.bind_some]
    rw [h3]
    exact h6
abbrev smI : SE := (sFor (iRg (xaD (xCall lenD (xaD (xOp ixD (xVar 1) (xC (.int 0))) xaNil)) xaNil)) (gNm 5) smB)
theorem sm_outer (ht : Tidy os) (h : Rl r s b) (p : Ps r s cols cells homes) : ∀ (l : List Nat) (S : List Sm) (y3 y4 y5 : Sl), (∀ i ∈ l, i < cols.length) → AllSv b cols S → S.length + 16000 * l.length ≤ 180000 → ∃ S' z3 z4 z5, AllSv b cols S' ∧ S'.length ≤ S.length + 16000 * l.length ∧
    forRun (gTp 2 (gsCons (gNm 3) (gsCons (gNm 4) gsNil))) smI (l.map fun (i : Nat) => PyData.tuple [.int ((i : Nat) : Int), colD (cols.getD i [])]) [.d (rulesD r s b), .d (posD cols cells homes), .d (.list (S.map smD)), y3, y4, y5, .u] os = some (.nx [.d (rulesD r s b), .d (posD cols cells homes), .d (.list (S'.map smD)), z3, z4, z5, .u] os)
  | [], S, y3, y4, y5, _, hS, _ => ⟨S, y3, y4, y5, hS, by simp, rfl⟩
  | i :: l, S, y3, y4, y5, hl, hS, hz => by
    rw [List.length_cons] at hz
    have cm := p.many
    obtain ⟨S1, w5, h1, h2, h3⟩ := sm_inner ht h p (hl i (by simp)) (posD cols cells homes) (List.range cols.length) S y5 (fun j hj => List.mem_range.mp hj) hS (by rw [List.length_range]; omega)
    rw [List.length_range] at h2
    obtain ⟨S2, z3, z4, z5, h4, h5, h6⟩ := sm_outer ht h p l S1 (.d (.int (i : Int))) (.d (colD (cols.getD i []))) w5 (fun x hx => hl x (by simp [hx])) h1 (by omega)
    refine ⟨S2, z3, z4, z5, h4, by rw [List.length_cons]; omega, ?_⟩
    have g : gTp 2 (gsCons (gNm 3) (gsCons (gNm 4) gsNil)) (.tuple [.int (i : Int), colD (cols.getD i [])]) [.d (rulesD r s b), .d (posD cols cells homes), .d (.list (S.map smD)), y3, y4, y5, .u] = some [.d (rulesD r s b), .d (posD cols cells homes), .d (.list (S.map smD)), .d (.int (i : Int)), .d (colD (cols.getD i [])), y5, .u] := rfl
    have rg : iRg (xaD (xCall lenD (xaD (xOp ixD (xVar 1) (xC (.int 0))) xaNil)) xaNil) [.d (rulesD r s b), .d (posD cols cells homes), .d (.list (S.map smD)), .d (.int (i : Int)), .d (colD (cols.getD i [])), y5, .u] os = some ((List.range cols.length).map fun (j : Nat) => PyData.int ((j : Nat) : Int), os) := by
      rw [rg1_ok (os1 := os) (j := (cols.length : Int)) (by
        simp -implicitDefEqProofs only [a_d, a_call, a_c, a_op, a_nil, a_var, List.getElem?_cons_zero, List.getElem?_cons_succ, slD_d, Option.map_some, Option.bind_some, pos0, datas_d, datas_nil, lenD_list, List.length_map]) (by omega) (by omega), Int.toNat_natCast]
      unfold rangeD
      simp
    rw [List.map_cons, forRun, g, Option.bind_some]
    have st : smI [.d (rulesD r s b), .d (posD cols cells homes), .d (.list (S.map smD)), .d (.int (i : Int)), .d (colD (cols.getD i [])), y5, .u] os = some (.nx [.d (rulesD r s b), .d (posD cols cells homes), .d (.list (S1.map smD)), .d (.int (i : Int)), .d (colD (cols.getD i [])), w5, .u] os) := by
      unfold smI
      rw [a_for, rg, Option.bind_some]
      exact h3
    rw [st]
    exact h6
theorem supermoves_ok (ht : Tidy os) (h : Rl r s b) (p : Ps r s cols cells homes) (hc : cols.length ≤ 11) : ∃ S, AllSv b cols S ∧ m_law_supermoves [.d (rulesD r s b), .d (posD cols cells homes)] os = some (.list (S.map smD), os) := by
  obtain ⟨S, z3, z4, z5, h1, _, h3⟩ := sm_outer ht h p (List.range cols.length) [] .u .u .u (fun j hj => List.mem_range.mp hj) (fun q hq => nomatch hq) (by rw [List.length_range]; simp; omega)
  refine ⟨S, h1, ?_⟩
  have en : iEn (xaD (xOp ixD (xVar 1) (xC (.int 0))) xaNil) [.d (rulesD r s b), .d (posD cols cells homes), .d (.list []), .u, .u, .u, .u] os = some ((List.range cols.length).map fun (i : Nat) => PyData.tuple [.int ((i : Nat) : Int), colD (cols.getD i [])], os) := by
    have e : iEn (xaD (xOp ixD (xVar 1) (xC (.int 0))) xaNil) [.d (rulesD r s b), .d (posD cols cells homes), .d (.list []), .u, .u, .u, .u] os = some (enumD (cols.map colD), os) := rfl
    rw [e, enum_map]
    congr 2
    refine List.ext_getElem (by simp) fun n h1 h2 => ?_
    simp at h1
    simp [List.getD_eq_getElem?_getD, List.getElem?_eq_getElem h1]
  unfold m_law_supermoves
  rw [m_2]
  simp -implicitDefEqProofs only [b_law_supermoves, List.reduceReplicate, Nat.reduceSub, a_seq, a_asg, a_call, a_nil, datas_nil, lstD_0, Option.map_some, Option.bind_some, a_nm, List.set_cons_succ, List.set_cons_zero]
  rw [a_for, en, Option.bind_some]
  simp only
  have h3 : forRun (gTp 2 (gsCons (gNm 3) (gsCons (gNm 4) gsNil))) smI ((List.range cols.length).map fun (i : Nat) => PyData.tuple [.int ((i : Nat) : Int), colD (cols.getD i [])]) [.d (rulesD r s b), .d (posD cols cells homes), .d (.list []), .u, .u, .u, .u] os = _ := h3
  rw [h3]
  simp -implicitDefEqProofs only [Option.bind_some, a_ret, a_var, List.getElem?_cons_zero, List.getElem?_cons_succ, slD_d, Option.map_some, outM_rt, cutW_self ht]
end
end Lw

set_option Elab.async false
set_option linter.all false
set_option maxRecDepth 100000
set_option maxHeartbeats 4000000
set_option exponentiation.threshold 3000
namespace Lw
open PySem PySem.Spec PyProof.Rows L2 Evl DL
/-! a drawn position: the generator at k, new objects behind -/
abbrev St (os : Os) (k : Nat) (g : List PyData) (X : Os) : Os := os.set k (some (.l g)) ++ X
def Fx (os X : Os) : Prop := X.all (oLt (os.length + X.length)) = true
theorem st_at {os X : Os} {k : Nat} {g : List PyData} (hk : k < os.length) : (St os k g X)[k]? = some (some (.l g)) := by
  rw [List.getElem?_append_left (by simpa using hk), List.getElem?_set_self hk]
theorem st_set {os X : Os} {k : Nat} {g : List PyData} {x : Option Ob} (hk : k < os.length) : (St os k g X).set k x = os.set k x ++ X := by
  rw [List.set_append_left _ _ (by simpa using hk), List.set_set]
theorem st_len {os X : Os} {k : Nat} {g : List PyData} : (St os k g X).length = os.length + X.length := by
  rw [List.length_append, List.length_set]
theorem st_tidy {os X : Os} {k : Nat} {g : List PyData} (ht : Tidy os) (hf : Fx os X) : Tidy (St os k g X) := ht.setl.app (by
  unfold Fx at hf
  rw [List.length_set]
  exact hf)
theorem rand_st {os X : Os} {k : Nat} {g : List PyData} {B : Int} (L : Int) (ht : Tidy os) (hf : Fx os X) (hk : k < os.length) (hg : GenL g B) (hB : B < 2 ^ 50) (hL : 0 < L) (hL2 : L.natAbs < 2 ^ 100) :
    ∃ r g', m_law_random [.o k, .d (.int L)] (St os k g X) = some (.int r, St os k g' X) ∧ GenL g' (B + 5) ∧ 0 ≤ r ∧ r < L := by
  obtain ⟨r, g', h1, h2, h3⟩ := rand_ok (L := L) (st_at (X := X) hk) (st_tidy ht hf) hg hB hL hL2
  rw [st_set hk] at h1
  exact ⟨r, g', h1, h2, h3⟩
section
variable {r s : Int} {b : Str} {os : Os} {k : Nat}
abbrev hE : XE := (xIf (xBool (xOp eqD (xFn m_law_random (xaO 0 (xaD (xC (.int 4)) xaNil))) (xC (.int 0)))) (xFn m_law_random (xaO 0 (xaD (xC (.int 3)) xaNil))) (xC (.int 0)))
theorem hE_ok (ht : Tidy os) (hk : k < os.length) {g : List PyData} {B : Int} (hg : GenL g B) (hB : B < 2 ^ 45) {ρ : List Sl} (h0 : ρ[0]? = some (.o k)) : ∃ h g', hE ρ (St os k g []) = some (.int h, St os k g' []) ∧ GenL g' (B + 10) ∧ 0 ≤ h ∧ h < 3 := by
  obtain ⟨x, g1, e1, q1, x0, x1⟩ := rand_st (X := []) 4 ht rfl hk hg (by omega) (by decide) (by decide)
  obtain ⟨y, g2, e2, q2, y0, y1⟩ := rand_st (X := []) 3 ht rfl hk q1 (by omega) (by decide) (by decide)
  have t : xBool (xOp eqD (xFn m_law_random (xaO 0 (xaD (xC (.int 4)) xaNil))) (xC (.int 0))) ρ (St os k g []) = some (decide (x = 0), St os k g1 []) := by
    simp -implicitDefEqProofs only [a_bool, a_op, a_fn, a_o, a_d, a_c, a_nil, h0, slO_o, Option.map_some, Option.bind_some, e1, DL.eqD_int, boolOf_bool]
  unfold hE
  rw [a_if, t, Option.bind_some]
  by_cases c : x = 0
  · refine ⟨y, g2, ?_, q2.mono (by omega), y0, y1⟩
    simp -implicitDefEqProofs only [c, decide_true, if_true, a_fn, a_o, a_d, a_c, a_nil, h0, slO_o, Option.map_some, Option.bind_some, e2]
  · refine ⟨0, g1, ?_, q1.mono (by omega), by decide, by decide⟩
    simp -implicitDefEqProofs only [c, decide_false, Bool.false_eq_true, if_false, a_c]
theorem homes_run (ht : Tidy os) (hk : k < os.length) {A : List Sl} (hA : A[0]? = some (.o k)) (hl : 8 < A.length) : ∀ (items acc : List PyData) (g : List PyData) (B : Int), GenL g B → B + 10 * items.length < 2 ^ 40 → acc.length + items.length < 1000 →
    ∃ (g' : List PyData) (hs : List Int), lcRun (gNm 8) xYes hE A items acc (St os k g []) = some (acc ++ hs.map .int, St os k g' []) ∧ GenL g' (B + 10 * items.length) ∧ hs.length = items.length ∧ ∀ h ∈ hs, 0 ≤ h ∧ h < 3
  | [], acc, g, B, hg, _, _ => ⟨g, [], by simp [lcRun], by simpa using hg, rfl, fun h hh => nomatch hh⟩
  | d :: t, acc, g, B, hg, hB, hz => by
    rw [List.length_cons] at hB hz
    have g0 : gNm 8 d A = some (A.set 8 (.d d)) := rfl
    obtain ⟨h, g1, e1, q1, h0, h1⟩ := hE_ok (ρ := A.set 8 (.d d)) ht hk hg (by omega) (by rw [List.getElem?_set_ne (by decide)]; exact hA)
    obtain ⟨g', hs, e2, q2, l2, b2⟩ := homes_run ht hk hA hl t (acc ++ [.int h]) g1 (B + 10) q1 (by omega) (by rw [List.length_append, List.length_singleton]; omega)
    refine ⟨g', h :: hs, ?_, q2.mono (by rw [List.length_cons]; omega), by rw [List.length_cons, List.length_cons, l2], fun x hx => ?_⟩
    · have hz : acc.length < sizeLine := by
        rw [DL.sizeLine_eq]
        omega
      simp -implicitDefEqProofs only [lcRun, g0, Option.bind_some, xYes, if_true]
      rw [e1, Option.bind_some]
      simp only
      rw [if_pos hz, e2]
      simp
    · rcases List.mem_cons.mp hx with rfl | hx
      · exact ⟨h0, h1⟩
      · exact b2 x hx
/-- new empty columns -/
theorem cols_run {A : List Sl} : ∀ (items : List PyData) (acc : List Sl) (W : Os), acc.length + items.length < 1000 →
    lcRunS (gNm 11) (xsOwn (fLst xaNil)) A items acc W = some (acc ++ (List.range items.length).map (fun t => Sl.o (W.length + t)), W ++ List.replicate items.length (some (.l [])))
  | [], acc, W, _ => by simp [lcRunS]
  | d :: t, acc, W, hz => by
    rw [List.length_cons] at hz
    have g0 : gNm 11 d A = some (A.set 11 (.d d)) := rfl
    have x0 : xsOwn (fLst xaNil) (A.set 11 (.d d)) W = some (.o W.length, W ++ [some (.l [])]) := rfl
    have ih := cols_run (A := A) t (acc ++ [.o W.length]) (W ++ [some (.l [])]) (by rw [List.length_append, List.length_singleton]; omega)
    rw [lcRunS, g0, Option.bind_some, x0, Option.bind_some]
    simp only
    rw [if_pos (by rw [DL.sizeLine_eq]; omega), ih, List.length_cons, List.range_succ_eq_map, List.replicate_succ]
    have e : ∀ n : Nat, (W ++ [some (Ob.l [])]).length + n = W.length + (n + 1) := fun n => by
      rw [List.length_append, List.length_singleton]
      omega
    simp [e, Function.comp_def]
    intro a _
    omega
end
end Lw

set_option Elab.async false
set_option linter.all false
set_option maxRecDepth 100000
set_option maxHeartbeats 4000000
set_option exponentiation.threshold 3000
namespace Lw
open PySem PySem.Spec PyProof.Rows L2 Evl DL
/-! the cards, each put in somewhere -/
abbrev cO (C : List Card) : Option Ob := some (.l (C.map pairD))
section
variable {r s : Int} {b : Str} {os Y : Os} {k : Nat} {homes : List Int}
abbrev iB : SE := (sIf (xBool (xOp gtD (xVar 4) (xOp ixD (xVar 2) (xVar 8))))
  (sIns 7 (xIf (xBool (xOp gtD (xFn m_law_random (xaO 0 (xaD (xC (.int 4)) xaNil))) (xC (.int 0)))) (xLenO 7) (xFn m_law_random (xaO 0 (xaD (xOp addD (xLenO 7) (xC (.int 1))) xaNil)))) (xCall tupD (xaD (xVar 4) (xaD (xVar 8) xaNil))))
  sNext)
abbrev iR (os Y : Os) (k : Nat) (R : PyData) (homes : List Int) (y3 y4 y6 y8 : Sl) : List Sl := [.o k, .d R, .d (.list (homes.map .int)), y3, y4, .u, y6, .o (os.length + Y.length), y8, .u, .u, .u, .u, .u, .u]
theorem last_at {g : List PyData} {x : Option Ob} : (St os k g (Y ++ [x]))[os.length + Y.length]? = some x := by
  have e : (os.set k (some (.l g)) ++ Y).length = os.length + Y.length := by rw [List.length_append, List.length_set]
  unfold St
  rw [← List.append_assoc, List.getElem?_append_right (by omega), e, Nat.sub_self]
  rfl
theorem last_set {g : List PyData} {x z : Option Ob} : (St os k g (Y ++ [x])).set (os.length + Y.length) z = St os k g (Y ++ [z]) := by
  have e : (os.set k (some (.l g)) ++ Y).length = os.length + Y.length := by rw [List.length_append, List.length_set]
  unfold St
  rw [← List.append_assoc, List.set_append_right _ _ (by omega), e, Nat.sub_self, List.append_assoc]
  rfl
theorem ins_perm {C : List Card} {n : Nat} {x : Card} : (C.take n ++ [x] ++ C.drop n).Perm (x :: C) := by
  have := List.perm_middle (a := x) (l₁ := C.take n) (l₂ := C.drop n)
  rw [List.take_append_drop] at this
  rw [List.append_assoc]
  exact this
theorem ins_step (ht : Tidy os) (hk : k < os.length) (hY : ∀ C : List Card, Fx os (Y ++ [cO C])) {R : PyData} {y3 y6 : Sl} {C : List Card} (hC : C.length ≤ 500) {g : List PyData} {B : Int} (hg : GenL g B) (hB : B < 2 ^ 45) (rk : Int) {j : Nat} (hj : j < homes.length) :
    ∃ g' C', iB (iR os Y k R homes y3 (.d (.int rk)) y6 (.d (.int (j : Int)))) (St os k g (Y ++ [cO C])) = some (.nx (iR os Y k R homes y3 (.d (.int rk)) y6 (.d (.int (j : Int)))) (St os k g' (Y ++ [cO C']))) ∧ GenL g' (B + 10) ∧ C'.Perm (if rk > homes.getD j 0 then (rk, (j : Int)) :: C else C) := by
  have i3 : ixD (.list (homes.map .int)) (.int (j : Int)) = some (.int (homes.getD j 0)) := by
    refine ixD_list ?_
    rw [List.getElem?_map, List.getElem?_eq_getElem hj, List.getD_eq_getElem?_getD, List.getElem?_eq_getElem hj]
    rfl
  have tt : xBool (xOp gtD (xVar 4) (xOp ixD (xVar 2) (xVar 8))) (iR os Y k R homes y3 (.d (.int rk)) y6 (.d (.int (j : Int)))) (St os k g (Y ++ [cO C])) = some (decide (rk > homes.getD j 0), St os k g (Y ++ [cO C])) := by
    simp -implicitDefEqProofs only [a_bool, a_op, a_var, List.getElem?_cons_zero, List.getElem?_cons_succ, slD_d, Option.map_some, Option.bind_some, i3, gtD_int, boolOf_bool]
  unfold iB
  rw [a_sIf, tt, Option.bind_some]
  by_cases c : rk > homes.getD j 0
  · obtain ⟨x, g1, e1, q1, x0, x1⟩ := rand_st (X := Y ++ [cO C]) 4 ht (hY C) hk hg (by omega) (by decide) (by decide)
    obtain ⟨z, g2, e2, q2, z0, z1⟩ := rand_st (X := Y ++ [cO C]) ((C.length : Int) + 1) ht (hY C) hk q1 (by omega) (by omega) (by omega)
    have ow : ∀ g, ownAt (iR os Y k R homes y3 (.d (.int rk)) y6 (.d (.int (j : Int)))) (St os k g (Y ++ [cO C])) 7 = some (os.length + Y.length, C.map pairD) := fun g => ownAt_o rfl last_at
    have ln : ∀ g, xLenO 7 (iR os Y k R homes y3 (.d (.int rk)) y6 (.d (.int (j : Int)))) (St os k g (Y ++ [cO C])) = some (.int (C.length : Int), St os k g (Y ++ [cO C])) := fun g => by
      unfold xLenO
      rw [ow, Option.map_some, List.length_map]
    obtain ⟨v, g3, e3, q3, v0, v1⟩ : ∃ (v : Int) (g3 : List PyData), xIf (xBool (xOp gtD (xFn m_law_random (xaO 0 (xaD (xC (.int 4)) xaNil))) (xC (.int 0)))) (xLenO 7) (xFn m_law_random (xaO 0 (xaD (xOp addD (xLenO 7) (xC (.int 1))) xaNil))) (iR os Y k R homes y3 (.d (.int rk)) y6 (.d (.int (j : Int)))) (St os k g (Y ++ [cO C])) = some (.int v, St os k g3 (Y ++ [cO C])) ∧ GenL g3 (B + 10) ∧ 0 ≤ v ∧ v ≤ C.length := by
      have t : xBool (xOp gtD (xFn m_law_random (xaO 0 (xaD (xC (.int 4)) xaNil))) (xC (.int 0))) (iR os Y k R homes y3 (.d (.int rk)) y6 (.d (.int (j : Int)))) (St os k g (Y ++ [cO C])) = some (decide (x > 0), St os k g1 (Y ++ [cO C])) := by
        simp -implicitDefEqProofs only [a_bool, a_op, a_fn, a_o, a_d, a_c, a_nil, List.getElem?_cons_zero, slO_o, Option.map_some, Option.bind_some, e1, gtD_int, boolOf_bool]
      rw [a_if, t, Option.bind_some]
      by_cases cx : x > 0
      · refine ⟨(C.length : Int), g1, ?_, q1.mono (by omega), by omega, by omega⟩
        simp only [cx, decide_true, if_true]
        exact ln g1
      · refine ⟨z, g2, ?_, q2.mono (by omega), z0, by omega⟩
        simp -implicitDefEqProofs only [cx, decide_false, Bool.false_eq_true, if_false, a_fn, a_o, a_d, a_op, a_c, a_nil, List.getElem?_cons_zero, slO_o, Option.map_some, Option.bind_some, ln, addD_int, e2]
    refine ⟨g3, C.take v.toNat ++ [(rk, (j : Int))] ++ C.drop v.toNat, ?_, q3, ?_⟩
    · have e4 : xCall tupD (xaD (xVar 4) (xaD (xVar 8) xaNil)) (iR os Y k R homes y3 (.d (.int rk)) y6 (.d (.int (j : Int)))) (St os k g3 (Y ++ [cO C])) = some (pairD (rk, (j : Int)), St os k g3 (Y ++ [cO C])) := rfl
      simp only [c, decide_true, if_true]
      unfold sIns
      rw [ow, Option.bind_some, e3, Option.bind_some]
      simp only
      rw [e4, Option.bind_some]
      simp only
      rw [ow, Option.bind_some]
      simp only
      rw [if_pos ⟨v0, by omega, by rw [List.length_map, DL.sizeLine_eq]; omega⟩, last_set]
      simp [cO]
    · rw [if_pos c]
      exact ins_perm
  · refine ⟨g, C, ?_, hg.mono (by omega), ?_⟩
    · simp only [c, decide_false, Bool.false_eq_true, if_false]
      rfl
    · rw [if_neg c]
def partC (homes : List Int) (rk : Int) (l : List Nat) : List Card := (l.filter fun j => decide (rk > homes.getD j 0)).map fun j => (rk, ((j : Nat) : Int))
theorem ins_suits (ht : Tidy os) (hk : k < os.length) (hY : ∀ C : List Card, Fx os (Y ++ [cO C])) {R : PyData} {y3 y6 : Sl} (rk : Int) : ∀ (l : List Nat) (C : List Card) (g : List PyData) (B : Int) (y8 : Sl), (∀ j ∈ l, j < homes.length) → C.length + l.length ≤ 500 → GenL g B → B + 10 * l.length < 2 ^ 44 →
    ∃ g' C' z8, forRun (gNm 8) iB (l.map fun (j : Nat) => PyData.int ((j : Nat) : Int)) (iR os Y k R homes y3 (.d (.int rk)) y6 y8) (St os k g (Y ++ [cO C])) = some (.nx (iR os Y k R homes y3 (.d (.int rk)) y6 z8) (St os k g' (Y ++ [cO C']))) ∧ GenL g' (B + 10 * l.length) ∧ C'.Perm (partC homes rk l ++ C)
  | [], C, g, B, y8, _, _, hg, _ => ⟨g, C, y8, rfl, by simpa using hg, List.Perm.refl _⟩
  | j :: l, C, g, B, y8, hl, hC, hg, hB => by
    rw [List.length_cons] at hC hB
    obtain ⟨g1, C1, e1, q1, p1⟩ := ins_step ht hk hY (R := R) (y3 := y3) (y6 := y6) (C := C) (by omega) hg (by omega) rk (hl j (by simp))
    have l1 : C1.length ≤ C.length + 1 := by
      rw [p1.length_eq]
      split
      · rw [List.length_cons]
        omega
      · omega
    obtain ⟨g2, C2, z8, e2, q2, p2⟩ := ins_suits ht hk hY (R := R) (y3 := y3) (y6 := y6) rk l C1 g1 (B + 10) (.d (.int (j : Int))) (fun x hx => hl x (by simp [hx])) (by omega) q1 (by omega)
    refine ⟨g2, C2, z8, ?_, q2.mono (by rw [List.length_cons]; omega), p2.trans ?_⟩
    · have g0 : gNm 8 (PyData.int (j : Int)) (iR os Y k R homes y3 (.d (.int rk)) y6 y8) = some (iR os Y k R homes y3 (.d (.int rk)) y6 (.d (.int (j : Int)))) := rfl
      rw [List.map_cons, forRun, g0, Option.bind_some, e1]
      exact e2
    · refine (p1.append_left _).trans ?_
      unfold partC
      rw [List.filter_cons]
      by_cases c : rk > homes.getD j 0
      · rw [if_pos c, if_pos (by simpa using c), List.map_cons, List.cons_append]
        exact List.perm_middle
      · rw [if_neg c, if_neg (by simpa using c)]
/-- what is due of the ranks up to n -/
def dueN (homes : List Int) (m n : Nat) : List Card := (List.range n).flatMap fun i => partC homes (((i : Nat) : Int) + 1) (List.range m)
theorem dueN_succ {m n : Nat} : dueN homes m (n + 1) = dueN homes m n ++ partC homes ((n : Int) + 1) (List.range m) := by
  unfold dueN
  rw [List.range_succ, List.flatMap_append]
  simp
theorem dueN_due (hs : 0 ≤ s) : dueN homes s.toNat r.toNat = dueC r s homes := by
  unfold dueN dueC deck partC
  rw [List.filter_flatMap]
  congr 1
  funext i
  rw [List.filter_map]
  rfl
abbrev iS : SE := (sFor (iRg (xaD (xOp ixD (xVar 1) (xC (.int 1))) xaNil)) (gNm 8) iB)
theorem down_succ {x : Int} {j : Nat} : downD x (j + 1) = .int x :: downD (x - 1) j := by
  unfold downD
  rw [List.range_succ_eq_map, List.map_cons, List.map_map]
  refine List.cons_eq_cons.mpr ⟨by simp, ?_⟩
  apply List.map_congr_left
  intro i _
  show PyData.int _ = PyData.int _
  congr 1
  rw [Int.natCast_succ]
  omega
theorem ins_ranks (ht : Tidy os) (hk : k < os.length) (hY : ∀ C : List Card, Fx os (Y ++ [cO C])) {y3 y6 : Sl} (hs0 : 0 ≤ s) (hs1 : s ≤ 8) (hm : (homes.length : Int) = s) : ∀ (n : Nat) (C : List Card) (g : List PyData) (B : Int) (y4 y8 : Sl), n ≤ 20 → C.length + 8 * n ≤ 500 → GenL g B → B + 80 * n < 2 ^ 44 →
    ∃ g' C' z4 z8, forRun (gNm 4) iS (downD (n : Int) n) (iR os Y k (rulesD r s b) homes y3 y4 y6 y8) (St os k g (Y ++ [cO C])) = some (.nx (iR os Y k (rulesD r s b) homes y3 z4 y6 z8) (St os k g' (Y ++ [cO C']))) ∧ GenL g' (B + 80 * n) ∧ C'.Perm (dueN homes s.toNat n ++ C)
  | 0, C, g, B, y4, y8, _, _, hg, _ => ⟨g, C, y4, y8, rfl, by simpa using hg, List.Perm.refl _⟩
  | n + 1, C, g, B, y4, y8, hn, hC, hg, hB => by
    obtain ⟨g1, C1, w8, e1, q1, p1⟩ := ins_suits (homes := homes) ht hk hY (R := rulesD r s b) (y3 := y3) (y6 := y6) ((n : Int) + 1) (List.range s.toNat) C g B y8 (fun j hj => by have := List.mem_range.mp hj; omega) (by rw [List.length_range]; omega) hg (by rw [List.length_range]; omega)
    rw [List.length_range] at q1
    have l1 : C1.length ≤ C.length + 8 := by
      rw [p1.length_eq, List.length_append]
      unfold partC
      rw [List.length_map]
      have := List.length_filter_le (fun j => decide (((n : Int) + 1) > homes.getD j 0)) (List.range s.toNat)
      rw [List.length_range] at this
      omega
    obtain ⟨g2, C2, z4, z8, e2, q2, p2⟩ := ins_ranks ht hk hY (y3 := y3) (y6 := y6) hs0 hs1 hm n C1 g1 (B + 80) (.d (.int ((n : Int) + 1))) w8 (by omega) (by omega) (q1.mono (by omega)) (by omega)
    refine ⟨g2, C2, z4, z8, ?_, q2.mono (by omega), ?_⟩
    · have g0 : gNm 4 (PyData.int ((n : Int) + 1)) (iR os Y k (rulesD r s b) homes y3 y4 y6 y8) = some (iR os Y k (rulesD r s b) homes y3 (.d (.int ((n : Int) + 1))) y6 y8) := rfl
      have rg : iRg (xaD (xOp ixD (xVar 1) (xC (.int 1))) xaNil) (iR os Y k (rulesD r s b) homes y3 (.d (.int ((n : Int) + 1))) y6 y8) (St os k g (Y ++ [cO C])) = some ((List.range s.toNat).map fun (j : Nat) => PyData.int ((j : Nat) : Int), St os k g (Y ++ [cO C])) := by
        rw [rg1_ok (os1 := St os k g (Y ++ [cO C])) (j := s) (by
          simp -implicitDefEqProofs only [a_d, a_c, a_op, a_nil, a_var, List.getElem?_cons_zero, List.getElem?_cons_succ, slD_d, Option.map_some, Option.bind_some, rd1]) (by omega) (by omega)]
        unfold rangeD
        simp
      have e0 : ((n + 1 : Nat) : Int) = (n : Int) + 1 := by omega
      have ed : (n : Int) + 1 - 1 = (n : Int) := by omega
      rw [e0, down_succ, ed, forRun, g0, Option.bind_some]
      have st : iS (iR os Y k (rulesD r s b) homes y3 (.d (.int ((n : Int) + 1))) y6 y8) (St os k g (Y ++ [cO C])) = some (.nx (iR os Y k (rulesD r s b) homes y3 (.d (.int ((n : Int) + 1))) y6 w8) (St os k g1 (Y ++ [cO C1]))) := by
        unfold iS
        rw [a_for, rg, Option.bind_some]
        exact e1
      rw [st]
      exact e2
    · rw [dueN_succ]
      refine p2.trans ?_
      rw [List.append_assoc]
      exact p1.append_left _
end
end Lw

set_option Elab.async false
set_option linter.all false
set_option maxRecDepth 100000
set_option maxHeartbeats 4000000
set_option exponentiation.threshold 3000
namespace Lw
open PySem PySem.Spec PyProof.Rows L2 Evl DL
/-! each card is laid in a cell or on a column -/
abbrev lO (c : List Card) : Option Ob := some (.l (c.map pairD))
def refsOf (n0 m : Nat) : List Sl := (List.range m).map fun t => Sl.o (n0 + 1 + t)
def XX (os : Os) (cells : List (Option Card)) (cols : List (List Card)) (C : List Card) : Os := some (.l (cells.map optD)) :: (cols.map lO ++ [some (.r (refsOf os.length cols.length)), cO C])
section
variable {r s : Int} {b : Str} {os : Os} {k : Nat} {homes : List Int} {cells : List (Option Card)} {cols : List (List Card)} {C : List Card} {g : List PyData}
theorem XX_len : (XX os cells cols C).length = cols.length + 3 := by
  unfold XX
  rw [List.length_cons, List.length_append, List.length_map]
  rfl
theorem XX_fx : Fx os (XX os cells cols C) := by
  unfold Fx
  rw [XX_len]
  unfold XX
  rw [List.all_cons, List.all_append]
  have h1 : (cols.map lO).all (oLt (os.length + (cols.length + 3))) = true := by
    rw [List.all_eq_true]
    intro x hx
    obtain ⟨c, _, rfl⟩ := List.mem_map.mp hx
    rfl
  have h2 : (refsOf os.length cols.length).all (slLt (os.length + (cols.length + 3))) = true := by
    rw [List.all_eq_true]
    intro x hx
    unfold refsOf at hx
    obtain ⟨t, ht, rfl⟩ := List.mem_map.mp hx
    have := List.mem_range.mp ht
    simp [slLt]
    omega
  rw [h1]
  simp [oLt, obLt, h2]
theorem X_at {i : Nat} {X : Os} (hk : k < os.length) : (St os k g X)[os.length + i]? = X[i]? := by
  unfold St
  rw [List.getElem?_append_right (by rw [List.length_set]; omega), List.length_set]
  congr 1
  omega
theorem X_set {i : Nat} {X : Os} {x : Option Ob} : (St os k g X).set (os.length + i) x = St os k g (X.set i x) := by
  unfold St
  rw [List.set_append_right _ _ (by rw [List.length_set]; omega), List.length_set]
  congr 2
  omega
theorem at_cells (hk : k < os.length) : (St os k g (XX os cells cols C))[os.length]? = some (some (.l (cells.map optD))) := X_at (i := 0) hk
theorem at_col (hk : k < os.length) {t : Nat} (ht : t < cols.length) : (St os k g (XX os cells cols C))[os.length + 1 + t]? = some (some (.l ((cols.getD t []).map pairD))) := by
  have := X_at (os := os) (k := k) (g := g) (X := XX os cells cols C) (i := 1 + t) hk
  rw [show os.length + 1 + t = os.length + (1 + t) by omega, this]
  unfold XX
  rw [show 1 + t = t + 1 by omega, List.getElem?_cons_succ, List.getElem?_append_left (by rw [List.length_map]; exact ht), List.getElem?_map, List.getElem?_eq_getElem ht, List.getD_eq_getElem?_getD, List.getElem?_eq_getElem ht]
  rfl
theorem at_refs (hk : k < os.length) : (St os k g (XX os cells cols C))[os.length + (1 + cols.length)]? = some (some (.r (refsOf os.length cols.length))) := by
  rw [X_at hk]
  unfold XX
  rw [show 1 + cols.length = cols.length + 1 by omega, List.getElem?_cons_succ, List.getElem?_append_right (by rw [List.length_map]; exact Nat.le_refl _), List.length_map, Nat.sub_self]
  rfl
theorem at_cards (hk : k < os.length) : (St os k g (XX os cells cols C))[os.length + (2 + cols.length)]? = some (cO C) := by
  rw [X_at hk]
  unfold XX
  rw [show 2 + cols.length = (cols.length + 1) + 1 by omega, List.getElem?_cons_succ, List.getElem?_append_right (by rw [List.length_map]; omega), List.length_map, show cols.length + 1 - cols.length = 1 by omega]
  rfl
theorem set_cells {x : List (Option Card)} : (St os k g (XX os cells cols C)).set os.length (some (.l (x.map optD))) = St os k g (XX os x cols C) := X_set (i := 0)
theorem set_col {t : Nat} (ht : t < cols.length) {x : List Card} : (St os k g (XX os cells cols C)).set (os.length + 1 + t) (lO x) = St os k g (XX os cells (cols.set t x) C) := by
  rw [show os.length + 1 + t = os.length + (t + 1) by omega, X_set]
  unfold XX
  rw [List.set_cons_succ, List.set_append_left _ _ (by rw [List.length_map]; exact ht), ← List.map_set, List.length_set]
/-- one more card about -/
theorem about_cell {i : Nat} {c : Card} (h : cells[i]? = some none) : (about cols (cells.set i (some c))).Perm (c :: about cols cells) := by
  unfold about
  have : ((cells.set i (some c)).filterMap id).Perm (c :: cells.filterMap id) := by
    induction cells generalizing i with
    | nil => cases h
    | cons a t ih =>
      cases i with
      | zero =>
        cases h
        simp
      | succ i =>
        have h : t[i]? = some none := h
        rw [List.set_cons_succ]
        cases a with
        | none =>
          simp only [List.filterMap_cons, id]
          exact ih h
        | some x =>
          simp only [List.filterMap_cons, id]
          exact ((ih h).cons x).trans (List.Perm.swap _ _ _)
  exact (this.append_left _).trans List.perm_middle
theorem about_col {t : Nat} {c : Card} (h : t < cols.length) : (about (cols.set t (cols.getD t [] ++ [c])) cells).Perm (c :: about cols cells) := by
  unfold about
  have : (cols.set t (cols.getD t [] ++ [c])).flatten.Perm (c :: cols.flatten) := by
    induction cols generalizing t with
    | nil => simp at h
    | cons a u ih =>
      cases t with
      | zero =>
        simp only [List.set_cons_zero, List.flatten_cons, List.getD_cons_zero]
        rw [List.append_assoc]
        exact List.perm_middle
      | succ t =>
        simp only [List.set_cons_succ, List.flatten_cons, List.getD_cons_succ]
        exact ((ih (by simpa using h)).append_left a).trans List.perm_middle
  exact this.append_right _
end
end Lw

set_option Elab.async false
set_option linter.all false
set_option maxRecDepth 100000
set_option maxHeartbeats 4000000
set_option exponentiation.threshold 3000
namespace Lw
open PySem PySem.Spec PyProof.Rows L2 Evl DL
theorem dataO_l2 {W : Os} {j m : Nat} {c : List PyData} (h : W[j]? = some (some (.l c))) : dataO W (fun _ => true) (m + 1) (.o j) = some (.list c) := dataO_l rfl h
theorem dataO_r2 {W : Os} {P : Nat → Bool} {j m : Nat} {c : List Sl} (hp : P j = true) (h : W[j]? = some (some (.r c))) : dataO W P (m + 1) (.o j) = (mapO (dataO W P m) c).map .list := by
  unfold dataO
  simp only [hp, if_true, h]
theorem mapO_all {α β : Type} {f : α → Option β} {h : α → β} : ∀ {l : List α}, (∀ x ∈ l, f x = some (h x)) → mapO f l = some (l.map h)
  | [], _ => rfl
  | x :: t, H => by
    rw [mapO, H x (by simp), Option.bind_some, mapO_all fun y hy => H y (by simp [hy])]
    rfl
section
variable {r s : Int} {b : Str} {os : Os} {k : Nat} {homes : List Int} {cells : List (Option Card)} {cols : List (List Card)} {C : List Card} {g : List PyData}
/-- the columns as data, by any view that lets them through -/
theorem cols_data (hk : k < os.length) {P : Nat → Bool} (hP : ∀ i, os.length ≤ i → P i = true) {n : Nat} : dataO (St os k g (XX os cells cols C)) P (n + 2) (.o (os.length + (1 + cols.length))) = some (.list (cols.map colD)) := by
  rw [dataO_r2 (hP _ (by omega)) (at_refs hk)]
  unfold refsOf
  have : mapO (dataO (St os k g (XX os cells cols C)) P (n + 1)) ((List.range cols.length).map fun t => Sl.o (os.length + 1 + t)) = some (cols.map colD) := by
    have q := mapO_all (f := dataO (St os k g (XX os cells cols C)) P (n + 1)) (h := fun s => match s with | .o j => colD (cols.getD (j - (os.length + 1)) []) | _ => .none) (l := (List.range cols.length).map fun t => Sl.o (os.length + 1 + t)) (fun x hx => by
      obtain ⟨t, ht, rfl⟩ := List.mem_map.mp hx
      have ht := List.mem_range.mp ht
      rw [dataO_l (hP _ (by omega)) (at_col hk ht)]
      simp only
      rw [show os.length + 1 + t - (os.length + 1) = t by omega])
    rw [q, List.map_map]
    congr 1
    refine List.ext_getElem (by simp) fun n h1 h2 => ?_
    simp at h1
    simp [List.getD_eq_getElem?_getD, List.getElem?_eq_getElem h1]
  rw [this]
  rfl
theorem view_cols (hk : k < os.length) : viewN (St os k g (XX os cells cols C)) (.o (os.length + (1 + cols.length))) = .d (.list (cols.map colD)) := by
  unfold viewN
  rw [cols_data hk (n := 6) fun _ _ => rfl]
theorem view_cells (hk : k < os.length) : viewN (St os k g (XX os cells cols C)) (.o os.length) = .d (.list (cells.map optD)) := by
  unfold viewN
  rw [dataO_l2 (m := 7) (at_cells hk)]
abbrev pR (os : Os) (k m : Nat) (R : PyData) (homes : List Int) (y4 : Sl) (c : Card) (y8 y9 y10 : Sl) : List Sl := [.o k, .d R, .d (.list (homes.map .int)), .o os.length, y4, .d (pairD c), .o (os.length + (1 + m)), .o (os.length + (2 + m)), y8, y9, y10, .u, .u, .u, .u]
abbrev F1 : XI := (lcD (iEn (xaD (xVar 6) xaNil)) (gTp 2 (gsCons (gNm 12) (gsCons (gNm 13) gsNil))) (xAndT (xBool (xOp neD (xVar 13) (xCall lstD xaNil))) (xTruth (xFn m_law_lies (xaD (xVar 1) (xaD (xVar 5) (xaD (xOp ixD (xVar 13) (xUn negD (xC (.int 1)))) xaNil)))))) (xVar 12) [12, 13])
abbrev F2 : XI := (lcD (iEn (xaD (xVar 3) xaNil)) (gTp 2 (gsCons (gNm 12) (gsCons (gNm 14) gsNil))) (xBool (xOp (isD false) (xVar 14) (xC .none))) (xVar 12) [12, 14])
def fitsL (b : Str) (cols : List (List Card)) (c : Card) : List Int := (cols.zipIdx.filter fun q => !q.1.isEmpty && gl b c (cg q.1 1)).map fun q => (q.2 : Int)
def freeL (cells : List (Option Card)) : List Int := (cells.zipIdx.filter fun q => q.1.isNone).map fun q => (q.2 : Int)
theorem fitsL_mem {c : Card} {x : Int} (h : x ∈ fitsL b cols c) : ∃ t : Nat, x = (t : Int) ∧ t < cols.length := by
  unfold fitsL at h
  obtain ⟨q, hq, rfl⟩ := List.mem_map.mp h
  have := List.mem_zipIdx (List.mem_filter.mp hq).1
  exact ⟨q.2, rfl, by omega⟩
theorem freeL_mem {x : Int} (h : x ∈ freeL cells) : ∃ t : Nat, x = (t : Int) ∧ cells[t]? = some none := by
  unfold freeL at h
  obtain ⟨q, hq, rfl⟩ := List.mem_map.mp h
  obtain ⟨h1, h2⟩ := List.mem_filter.mp hq
  have h3 := List.mem_zipIdx_iff_getElem?.mp h1
  refine ⟨q.2, rfl, ?_⟩
  rw [h3]
  cases e : q.1 with
  | none => rfl
  | some z => rw [e] at h2; cases h2
theorem flat_ints (l : List Int) : (l.map PyData.int).all flatD = true := by
  rw [List.all_eq_true]
  intro x hx
  obtain ⟨i, _, rfl⟩ := List.mem_map.mp hx
  rfl
theorem fits_view (hk : k < os.length) (hb : Bd b) (hm : cols.length ≤ 100) {c : Card} (y4 y8 y9 y10 : Sl) : fViewN F1 (pR os k cols.length (rulesD r s b) homes y4 c y8 y9 y10) (St os k g (XX os cells cols C)) = some ((fitsL b cols c).map .int, St os k g (XX os cells cols C)) := by
  have e : ∀ (z0 z3 z4 z7 z8 z9 z10 z11 z12 z13 z14 : Sl), F1 [z0, .d (rulesD r s b), .d (.list (homes.map .int)), z3, z4, .d (pairD c), .d (.list (cols.map colD)), z7, z8, z9, z10, z11, z12, z13, z14] [] = some ((fitsL b cols c).map .int, []) := fun z0 z3 z4 z7 z8 z9 z10 z11 z12 z13 z14 => by
    unfold fitsL
    rw [List.map_map]
    refine lcD_pure (l := cols.zipIdx) (f := fun q => .tuple [.int (q.2 : Int), colD q.1]) ?_ (fun q _ => ⟨[z0, .d (rulesD r s b), .d (.list (homes.map .int)), z3, z4, .d (pairD c), .d (.list (cols.map colD)), z7, z8, z9, z10, z11, .d (.int (q.2 : Int)), .d (colD q.1), z14], rfl, ?_, fun _ => rfl⟩) (small (by rw [List.length_zipIdx]; omega))
    · rw [← enum_map]
      rfl
    · obtain ⟨col, x⟩ := q
      have e3 := ne_nilC col
      have n1 : negD (.int 1) = some (.int (-1)) := rfl
      cases col with
      | nil =>
        simp -implicitDefEqProofs only [a_andT, a_bool, a_op, a_call, a_nil, datas_nil, lstD_0, a_var, List.getElem?_cons_zero, List.getElem?_cons_succ, slD_d, Option.map_some, Option.bind_some, e3, List.isEmpty_nil, Bool.not_true, boolOf_bool, Bool.false_eq_true, if_false, Bool.false_and]
      | cons a t =>
        have l3 := lies_ok (r := r) (s := s) (c := c) (o := cg (a :: t) 1) Tidy.nil hb
        simp -implicitDefEqProofs only [a_andT, a_bool, a_op, a_un, a_call, a_nil, datas_nil, lstD_0, a_var, a_c, a_d, a_fn, a_truth, List.getElem?_cons_zero, List.getElem?_cons_succ, slD_d, Option.map_some, Option.bind_some, e3, List.isEmpty_cons, Bool.not_false, boolOf_bool, if_true, n1, neg1_ix (col := a :: t) (by simp), l3, truthD_bool, Bool.true_and]
  unfold fViewN
  simp only [List.map_cons, List.map_nil, view_cols hk]
  have vd : ∀ y : PyData, viewN (St os k g (XX os cells cols C)) (.d y) = .d y := fun _ => rfl
  simp only [vd]
  rw [e, Option.bind_some]
  simp only
  rw [if_pos (flat_ints _)]
theorem free_view (hk : k < os.length) (hm : cells.length ≤ 100) {c : Card} {R : PyData} {m : Nat} (y4 y8 y9 y10 : Sl) : fViewN F2 (pR os k m R homes y4 c y8 y9 y10) (St os k g (XX os cells cols C)) = some ((freeL cells).map .int, St os k g (XX os cells cols C)) := by
  have e : ∀ (z0 z1 z2 z4 z5 z6 z7 z8 z9 z10 z11 z12 z13 z14 : Sl), F2 [z0, z1, z2, .d (.list (cells.map optD)), z4, z5, z6, z7, z8, z9, z10, z11, z12, z13, z14] [] = some ((freeL cells).map .int, []) := fun z0 z1 z2 z4 z5 z6 z7 z8 z9 z10 z11 z12 z13 z14 => by
    unfold freeL
    rw [List.map_map]
    refine lcD_pure (l := cells.zipIdx) (f := fun q => .tuple [.int (q.2 : Int), optD q.1]) ?_ (fun q _ => ⟨[z0, z1, z2, .d (.list (cells.map optD)), z4, z5, z6, z7, z8, z9, z10, z11, .d (.int (q.2 : Int)), z13, .d (optD q.1)], rfl, ?_, fun _ => rfl⟩) (small (by rw [List.length_zipIdx]; omega))
    · rw [← enum_map]
      rfl
    · obtain ⟨cc, x⟩ := q
      cases cc <;> rfl
  unfold fViewN
  simp only [List.map_cons, List.map_nil, view_cells hk]
  rw [e, Option.bind_some]
  simp only
  rw [if_pos (flat_ints _)]
end
end Lw

set_option Elab.async false
set_option linter.all false
set_option maxRecDepth 100000
set_option maxHeartbeats 4000000
set_option exponentiation.threshold 3000
namespace Lw
open PySem PySem.Spec PyProof.Rows L2 Evl DL
section
variable {r s : Int} {b : Str} {os : Os} {k : Nat} {homes : List Int} {C : List Card}
abbrev T1 : XT := (xAndT (xBool (xOp neD (xVar 10) (xCall lstD xaNil))) (xBool (xOp eqD (xFn m_law_random (xaO 0 (xaD (xC (.int 9)) xaNil))) (xC (.int 0)))))
abbrev S1 : SE := (sSet 3 (xOp ixD (xVar 10) (xFn m_law_random (xaO 0 (xaD (xCall lenD (xaD (xVar 10) xaNil)) xaNil)))) (xVar 5))
abbrev T2 : XT := (xAndT (xBool (xOp neD (xVar 9) (xCall lstD xaNil))) (xBool (xOp gtD (xFn m_law_random (xaO 0 (xaD (xC (.int 8)) xaNil))) (xC (.int 0)))))
abbrev S2 : SE := (sAppV (xrIx (xrVar 6) (xOp ixD (xVar 9) (xFn m_law_random (xaO 0 (xaD (xCall lenD (xaD (xVar 9) xaNil)) xaNil))))) (xrD (xVar 5)))
abbrev S3 : SE := (sAppV (xrIx (xrVar 6) (xFn m_law_random (xaO 0 (xaD (xOp subD (xLenV (xrVar 6)) (xFn m_law_random (xaO 0 (xaD (xC (.int 2)) xaNil)))) xaNil)))) (xrD (xVar 5)))
abbrev pB : SE := (sSeq (sAsg (xF (fViewN F1)) (gNm 9)) (sSeq (sAsg (xF (fViewN F2)) (gNm 10)) (sIf T1 S1 (sIf T2 S2 S3))))
/-- a draw in that state -/
theorem zdraw (ht : Tidy os) (hk : k < os.length) {cells : List (Option Card)} {cols : List (List Card)} {g g0 : List PyData} {B L : Int} {ρ : List Sl} {xe : XE} (h0 : ρ[0]? = some (.o k)) (hx : xe ρ (St os k g0 (XX os cells cols C)) = some (.int L, St os k g (XX os cells cols C))) (hg : GenL g B) (hB : B < 2 ^ 45) (hL : 0 < L) (hL2 : L < 1000000) :
    ∃ r g', xFn m_law_random (xaO 0 (xaD xe xaNil)) ρ (St os k g0 (XX os cells cols C)) = some (.int r, St os k g' (XX os cells cols C)) ∧ GenL g' (B + 5) ∧ 0 ≤ r ∧ r < L := by
  obtain ⟨r, g', e1, q1, r0, r1⟩ := rand_st (X := XX os cells cols C) L ht XX_fx hk hg (by omega) hL (by omega)
  refine ⟨r, g', ?_, q1, r0, r1⟩
  simp -implicitDefEqProofs only [a_fn, a_o, a_d, a_nil, h0, slO_o, Option.map_some, Option.bind_some, hx, e1]
theorem ne_nilI (l : List Int) : neD (.list (l.map .int)) (.list []) = some (.bool !l.isEmpty) := by
  rw [neD_cl (D := 1) (E := 1) (cl_list (D := 0) fun d hd => by
    obtain ⟨i, _, rfl⟩ := List.mem_map.mp hd
    exact cl_int) (cl_list (D := 0) fun d hd => by cases hd), eqv_nil]
  cases l <;> rfl
theorem ix_mem {l : List Int} {x : Int} (h0 : 0 ≤ x) (h1 : x < l.length) : ∃ y ∈ l, ixD (.list (l.map .int)) (.int x) = some (.int y) := by
  obtain ⟨j, rfl⟩ : ∃ j : Nat, x = (j : Int) := ⟨x.toNat, by omega⟩
  have hj : j < l.length := by omega
  refine ⟨l[j], List.getElem_mem hj, ixD_list ?_⟩
  rw [List.getElem?_map, List.getElem?_eq_getElem hj]
  rfl
/-- a card on a column -/
theorem put_col (ht : Tidy os) (hk : k < os.length) {cells : List (Option Card)} {cols : List (List Card)} {g0 g : List PyData} {c : Card} {R : PyData} {y4 y8 y9 y10 : Sl} {xi : XE} {t : Nat} (hc : cols.length ≤ 100) (ht2 : t < cols.length) (hl : (cols.getD t []).length ≤ 1000)
    (hx : xi (pR os k cols.length R homes y4 c y8 y9 y10) (St os k g0 (XX os cells cols C)) = some (.int (t : Int), St os k g (XX os cells cols C))) :
    sAppV (xrIx (xrVar 6) xi) (xrD (xVar 5)) (pR os k cols.length R homes y4 c y8 y9 y10) (St os k g0 (XX os cells cols C)) = some (.nx (pR os k cols.length R homes y4 c y8 y9 y10) (St os k g (XX os cells (cols.set t (cols.getD t [] ++ [c])) C))) := by
  have r6 : xrVar 6 (pR os k cols.length R homes y4 c y8 y9 y10) (St os k g0 (XX os cells cols C)) = some (.o (os.length + (1 + cols.length)), St os k g0 (XX os cells cols C)) := rfl
  have ixv : ixV (St os k g (XX os cells cols C)) (.o (os.length + (1 + cols.length))) (.int (t : Int)) = some (.o (os.length + 1 + t)) := by
    show (match (St os k g (XX os cells cols C))[os.length + (1 + cols.length)]? with
      | some (some (.l c)) => (L2.atI c (t : Int)).map Sl.d
      | some (some (.r c)) => L2.atI c (t : Int)
      | some (some (.t c)) => L2.atI c (t : Int)
      | _ => none) = _
    rw [at_refs hk]
    show L2.atI (refsOf os.length cols.length) (t : Int) = _
    unfold refsOf L2.atI ixN
    rw [List.length_map, List.length_range, if_pos (by omega), if_pos (by omega), Option.bind_some, Int.toNat_natCast, List.getElem?_map, List.getElem?_range ht2]
    rfl
  have rx : xrIx (xrVar 6) xi (pR os k cols.length R homes y4 c y8 y9 y10) (St os k g0 (XX os cells cols C)) = some (.o (os.length + 1 + t), St os k g (XX os cells cols C)) := by
    rw [a_rIx, r6, Option.bind_some, hx, Option.bind_some, ixv]
    rfl
  have ln : lenO (St os k g (XX os cells cols C)) (os.length + 1 + t) = some ((cols.getD t []).map pairD).length := by
    unfold lenO
    rw [at_col hk ht2]
  have xd : xrD (xVar 5) (pR os k cols.length R homes y4 c y8 y9 y10) (St os k g (XX os cells cols C)) = some (.d (pairD c), St os k g (XX os cells cols C)) := rfl
  have ap : appO (St os k g (XX os cells cols C)) (os.length + 1 + t) (.d (pairD c)) = some (St os k g (XX os cells (cols.set t (cols.getD t [] ++ [c])) C)) := by
    unfold appO
    rw [at_col hk ht2]
    simp only
    have e : (cols.getD t [] ++ [c]).map pairD = (cols.getD t []).map pairD ++ [pairD c] := by
      rw [List.map_append]
      rfl
    rw [if_pos (by rw [List.length_map, DL.sizeLine_eq]; omega), ← set_col ht2]
    show some _ = some ((St os k g (XX os cells cols C)).set (os.length + 1 + t) (some (.l ((cols.getD t [] ++ [c]).map pairD))))
    rw [e]
  unfold DL.sAppV
  rw [rx, Option.bind_some]
  simp only
  rw [ln, Option.bind_some, xd, Option.bind_some]
  simp only
  rw [ap]
  rfl
theorem place_step (ht : Tidy os) (hk : k < os.length) (hb : Bd b) {cells : List (Option Card)} {cols : List (List Card)} (hc2 : 2 ≤ cols.length) (hc : cols.length ≤ 100) (hce : cells.length ≤ 100) (ha : (about cols cells).length ≤ 500) {c : Card} {g : List PyData} {B : Int} (hg : GenL g B) (hB : B < 2 ^ 44) (y4 y8 y9 y10 : Sl) :
    ∃ g' cells' cols' z9 z10, pB (pR os k cols.length (rulesD r s b) homes y4 c y8 y9 y10) (St os k g (XX os cells cols C)) = some (.nx (pR os k cols.length (rulesD r s b) homes y4 c y8 z9 z10) (St os k g' (XX os cells' cols' C))) ∧ GenL g' (B + 20) ∧ cells'.length = cells.length ∧ cols'.length = cols.length ∧ (about cols' cells').Perm (c :: about cols cells) := by
  have cl : ∀ t, t < cols.length → (cols.getD t []).length ≤ 1000 := fun t ht => by
    have h1 : (cols.getD t []).length ≤ cols.flatten.length := by
      rw [List.getD_eq_getElem?_getD, List.getElem?_eq_getElem ht]
      exact (List.sublist_flatten_of_mem (List.getElem_mem ht)).length_le
    unfold about at ha
    rw [List.length_append] at ha
    omega
  have s1 : sAsg (xF (fViewN F1)) (gNm 9) (pR os k cols.length (rulesD r s b) homes y4 c y8 y9 y10) (St os k g (XX os cells cols C)) = some (.nx (pR os k cols.length (rulesD r s b) homes y4 c y8 (.d (.list ((fitsL b cols c).map .int))) y10) (St os k g (XX os cells cols C))) := by
    rw [a_asg, a_F, fits_view hk hb hc]
    rfl
  have s2 : sAsg (xF (fViewN F2)) (gNm 10) (pR os k cols.length (rulesD r s b) homes y4 c y8 (.d (.list ((fitsL b cols c).map .int))) y10) (St os k g (XX os cells cols C)) = some (.nx (pR os k cols.length (rulesD r s b) homes y4 c y8 (.d (.list ((fitsL b cols c).map .int))) (.d (.list ((freeL cells).map .int)))) (St os k g (XX os cells cols C))) := by
    rw [a_asg, a_F, free_view hk hce]
    rfl
  obtain ⟨ρ, hρ⟩ : ∃ ρ, ρ = pR os k cols.length (rulesD r s b) homes y4 c y8 (.d (.list ((fitsL b cols c).map .int))) (.d (.list ((freeL cells).map .int))) := ⟨_, rfl⟩
  rw [← hρ] at s2
  have p0 : ρ[0]? = some (.o k) := by rw [hρ]; rfl
  have p5 : ∀ W : Os, xVar 5 ρ W = some (pairD c, W) := fun W => by rw [hρ]; rfl
  have p9 : ∀ W : Os, xVar 9 ρ W = some (.list ((fitsL b cols c).map .int), W) := fun W => by rw [hρ]; rfl
  have p10 : ∀ W : Os, xVar 10 ρ W = some (.list ((freeL cells).map .int), W) := fun W => by rw [hρ]; rfl
  -- the first question
  obtain ⟨f, g1, t1, q1, hf⟩ : ∃ (f : Bool) (g1 : List PyData), T1 ρ (St os k g (XX os cells cols C)) = some (f, St os k g1 (XX os cells cols C)) ∧ GenL g1 (B + 5) ∧ (f = true → freeL cells ≠ []) := by
    have n1 := ne_nilI (freeL cells)
    obtain ⟨x, g1, e1, q1, x0, x1⟩ := zdraw (C := C) ht hk (cells := cells) (cols := cols) (xe := xC (.int 9)) (L := 9) p0 rfl hg (by omega) (by decide) (by decide)
    cases hz : freeL cells with
    | nil =>
      refine ⟨false, g, ?_, hg.mono (by omega), fun z => nomatch z⟩
      rw [hz] at n1
      simp -implicitDefEqProofs only [a_andT, a_bool, a_op, p10, hz, a_call, a_nil, datas_nil, lstD_0, Option.map_some, Option.bind_some, n1, List.isEmpty_nil, Bool.not_true, boolOf_bool, Bool.false_eq_true, if_false]
    | cons a u =>
      refine ⟨decide (x = 0), g1, ?_, q1, fun _ => by simp⟩
      rw [hz] at n1
      simp -implicitDefEqProofs only [a_andT, a_bool, a_op, p10, hz, a_call, a_nil, datas_nil, lstD_0, Option.map_some, Option.bind_some, n1, List.isEmpty_cons, Bool.not_false, boolOf_bool, if_true, e1, a_c, DL.eqD_int]
  cases f with
  | true =>
    -- in a cell
    have hl := List.length_pos_iff.mpr (hf rfl)
    have ll : (freeL cells).length ≤ cells.length := by
      unfold freeL
      rw [List.length_map]
      refine Nat.le_trans (List.length_filter_le _ _) ?_
      rw [List.length_zipIdx]
      exact Nat.le_refl _
    obtain ⟨x, g2, e2, q2, x0, x1⟩ := zdraw (C := C) ht hk (cells := cells) (cols := cols) (g0 := g1) (xe := xCall lenD (xaD (xVar 10) xaNil)) (L := ((freeL cells).length : Int)) p0 (by
      simp -implicitDefEqProofs only [a_call, a_d, a_nil, p10, Option.map_some, Option.bind_some, datas_d, datas_nil, lenD_list, List.length_map]) q1 (by omega) (by omega) (by omega)
    obtain ⟨y, hy, iy⟩ := ix_mem x0 x1
    obtain ⟨t, rfl, htc⟩ := freeL_mem hy
    have tl := (List.getElem?_eq_some_iff.mp htc).1
    refine ⟨g2, cells.set t (some c), cols, (.d (.list ((fitsL b cols c).map .int))), (.d (.list ((freeL cells).map .int))), ?_, q2.mono (by omega), by rw [List.length_set], rfl, about_cell htc⟩
    have ow : ∀ W : Os, W[os.length]? = some (some (.l (cells.map optD))) → ownAt ρ W 3 = some (os.length, cells.map optD) := fun W hW => ownAt_o (by rw [hρ]; rfl) hW
    have ss : S1 ρ (St os k g1 (XX os cells cols C)) = some (.nx ρ (St os k g2 (XX os (cells.set t (some c)) cols C))) := by
      refine (a_set (os1 := St os k g1 (XX os cells cols C)) (d := pairD c) (os2 := St os k g2 (XX os cells cols C)) (j := t) (k := os.length) (g := cells.map optD) (p5 _) ?_ (ow _ (at_cells hk)) (by rw [List.length_map]; exact tl)).trans ?_
      · simp -implicitDefEqProofs only [a_op, p10, Option.map_some, Option.bind_some, e2, iy]
      · rw [show (cells.map optD).set t (pairD c) = (cells.set t (some c)).map optD by rw [List.map_set]; rfl, set_cells]
    unfold pB
    refine seq_nx s1 (seq_nx s2 ?_)
    rw [a_sIf, t1, Option.bind_some]
    simp only [if_true]
    rw [ss, hρ]
  | false =>
    obtain ⟨f, g2, t2, q2, hf2⟩ : ∃ (f : Bool) (g2 : List PyData), T2 ρ (St os k g1 (XX os cells cols C)) = some (f, St os k g2 (XX os cells cols C)) ∧ GenL g2 (B + 10) ∧ (f = true → fitsL b cols c ≠ []) := by
      have n1 := ne_nilI (fitsL b cols c)
      obtain ⟨x, g2, e1, q2, x0, x1⟩ := zdraw (C := C) ht hk (cells := cells) (cols := cols) (g0 := g1) (xe := xC (.int 8)) (L := 8) p0 rfl q1 (by omega) (by decide) (by decide)
      cases hz : fitsL b cols c with
      | nil =>
        refine ⟨false, g1, ?_, q1.mono (by omega), fun z => nomatch z⟩
        rw [hz] at n1
        simp -implicitDefEqProofs only [a_andT, a_bool, a_op, p9, hz, a_call, a_nil, datas_nil, lstD_0, Option.map_some, Option.bind_some, n1, List.isEmpty_nil, Bool.not_true, boolOf_bool, Bool.false_eq_true, if_false]
      | cons a u =>
        refine ⟨decide (x > 0), g2, ?_, q2.mono (by omega), fun _ => by simp⟩
        rw [hz] at n1
        simp -implicitDefEqProofs only [a_andT, a_bool, a_op, p9, hz, a_call, a_nil, datas_nil, lstD_0, Option.map_some, Option.bind_some, n1, List.isEmpty_cons, Bool.not_false, boolOf_bool, if_true, e1, a_c, gtD_int]
    obtain ⟨t, g3, tl, q3, ss⟩ : ∃ (t : Nat) (g3 : List PyData), t < cols.length ∧ GenL g3 (B + 20) ∧ (sIf T2 S2 S3) ρ (St os k g1 (XX os cells cols C)) = some (.nx ρ (St os k g3 (XX os cells (cols.set t (cols.getD t [] ++ [c])) C))) := by
      cases f with
      | true =>
        have hl := List.length_pos_iff.mpr (hf2 rfl)
        have ll : (fitsL b cols c).length ≤ cols.length := by
          unfold fitsL
          rw [List.length_map]
          refine Nat.le_trans (List.length_filter_le _ _) ?_
          rw [List.length_zipIdx]
          exact Nat.le_refl _
        obtain ⟨x, g3, e2, q3, x0, x1⟩ := zdraw (C := C) ht hk (cells := cells) (cols := cols) (g0 := g2) (xe := xCall lenD (xaD (xVar 9) xaNil)) (L := ((fitsL b cols c).length : Int)) p0 (by
          simp -implicitDefEqProofs only [a_call, a_d, a_nil, p9, Option.map_some, Option.bind_some, datas_d, datas_nil, lenD_list, List.length_map]) q2 (by omega) (by omega) (by omega)
        obtain ⟨y, hy, iy⟩ := ix_mem x0 x1
        obtain ⟨t, rfl, tl⟩ := fitsL_mem hy
        refine ⟨t, g3, tl, q3.mono (by omega), ?_⟩
        rw [a_sIf, t2, Option.bind_some]
        simp only [if_true]
        rw [hρ] at e2 p9 ⊢
        exact put_col ht hk hc tl (cl t tl) (by
          simp -implicitDefEqProofs only [a_op, p9, Option.map_some, Option.bind_some, e2, iy])
      | false =>
        obtain ⟨x, g3, e2, q3, x0, x1⟩ := zdraw (C := C) ht hk (cells := cells) (cols := cols) (g0 := g2) (xe := xC (.int 2)) (L := 2) p0 rfl q2 (by omega) (by decide) (by decide)
        have lv : xLenV (xrVar 6) ρ (St os k g2 (XX os cells cols C)) = some (.int (cols.length : Int), St os k g2 (XX os cells cols C)) := by
          have r6 : xrVar 6 ρ (St os k g2 (XX os cells cols C)) = some (.o (os.length + (1 + cols.length)), St os k g2 (XX os cells cols C)) := by rw [hρ]; rfl
          have ln : lenV (St os k g2 (XX os cells cols C)) (.o (os.length + (1 + cols.length))) = some (cols.length : Int) := by
            show (match (St os k g2 (XX os cells cols C))[os.length + (1 + cols.length)]? with
              | some (some (.l c)) => some (c.length : Int)
              | some (some (.r c)) => some (c.length : Int)
              | _ => none) = _
            rw [at_refs hk]
            simp [refsOf]
          rw [a_lenV, r6, Option.bind_some, ln]
          rfl
        obtain ⟨y, g4, e3, q4, y0, y1⟩ := zdraw (C := C) ht hk (cells := cells) (cols := cols) (g0 := g2) (g := g3) (xe := xOp subD (xLenV (xrVar 6)) (xFn m_law_random (xaO 0 (xaD (xC (.int 2)) xaNil)))) (L := (cols.length : Int) - x) p0 (by
          rw [a_op, lv, Option.bind_some, e2, Option.bind_some, subD_int]
          rfl) q3 (by omega) (by omega) (by omega)
        obtain ⟨t, rfl⟩ : ∃ t : Nat, y = (t : Int) := ⟨y.toNat, by omega⟩
        refine ⟨t, g4, by omega, q4.mono (by omega), ?_⟩
        rw [a_sIf, t2, Option.bind_some]
        simp only [Bool.false_eq_true, if_false]
        rw [hρ] at e3 ⊢
        exact put_col ht hk hc (by omega) (cl t (by omega)) e3
    refine ⟨g3, cells, cols.set t (cols.getD t [] ++ [c]), (.d (.list ((fitsL b cols c).map .int))), (.d (.list ((freeL cells).map .int))), ?_, q3, rfl, by rw [List.length_set], about_col tl⟩
    unfold pB
    refine seq_nx s1 (seq_nx s2 ?_)
    rw [a_sIf, t1, Option.bind_some]
    simp only [Bool.false_eq_true, if_false]
    rw [ss, hρ]
end
end Lw

set_option Elab.async false
set_option linter.all false
set_option maxRecDepth 100000
set_option maxHeartbeats 4000000
set_option exponentiation.threshold 3000
namespace Lw
open PySem PySem.Spec PyProof.Rows L2 Evl DL
theorem mapO_mono {α β : Type} {f f' : α → Option β} : ∀ {l : List α} {r : List β}, (∀ x y, x ∈ l → f x = some y → f' x = some y) → mapO f l = some r → mapO f' l = some r
  | [], r, _, h => h
  | x :: t, r, H, h => by
    rw [mapO] at h ⊢
    cases e : f x with
    | none => rw [e] at h; cases h
    | some y =>
      rw [e, Option.bind_some] at h
      obtain ⟨u, e2, rfl⟩ := Option.map_eq_some_iff.mp h
      rw [H x y (by simp) e, Option.bind_some, mapO_mono (fun x y hx => H x y (by simp [hx])) e2]
      rfl
theorem dataO_app {W w : Os} {P : Nat → Bool} : ∀ {n : Nat} {s : Sl} {x : PyData}, dataO W P n s = some x → dataO (W ++ w) P n s = some x
  | n, .d y, x, h => by
    rw [dataO_d] at h ⊢
    exact h
  | n, .u, x, h => by cases n <;> cases h
  | 0, .o j, x, h => by cases h
  | n + 1, .o j, x, h => by
    unfold dataO at h ⊢
    split at h
    · rename_i hp
      rw [if_pos hp]
      cases e : W[j]? with
      | none => rw [e] at h; cases h
      | some ob =>
        rw [List.getElem?_append_left (List.getElem?_eq_some_iff.mp e).1, e]
        rw [e] at h
        cases ob with
        | none => cases h
        | some ob =>
          cases ob with
          | l c => exact h
          | r c =>
            obtain ⟨u, e2, rfl⟩ := Option.map_eq_some_iff.mp h
            simp only
            rw [mapO_mono (fun x y _ hx => dataO_app hx) e2]
            rfl
          | t c =>
            obtain ⟨u, e2, rfl⟩ := Option.map_eq_some_iff.mp h
            simp only
            rw [mapO_mono (fun x y _ hx => dataO_app hx) e2]
            rfl
          | _ => cases h
    · cases h
section
variable {r s : Int} {b : Str} {os : Os} {k : Nat} {homes : List Int} {C : List Card}
abbrev p5R (os : Os) (k m : Nat) (R : PyData) (homes : List Int) (y4 y5 y8 y9 y10 : Sl) : List Sl := [.o k, .d R, .d (.list (homes.map .int)), .o os.length, y4, y5, .o (os.length + (1 + m)), .o (os.length + (2 + m)), y8, y9, y10, .u, .u, .u, .u]
theorem place_loop (ht : Tidy os) (hk : k < os.length) (hb : Bd b) {m : Nat} (hm2 : 2 ≤ m) (hm : m ≤ 100) (y4 y8 : Sl) : ∀ (d i : Nat) (cells : List (Option Card)) (cols : List (List Card)) (g : List PyData) (B : Int) (y5 y9 y10 : Sl), i + d = C.length → cols.length = m → cells.length ≤ 100 → (about cols cells).length + d ≤ 500 → GenL g B → B + 20 * d < 2 ^ 43 →
    ∃ g' cells' cols' z5 z9 z10, forLive (os.length + (2 + m)) (gLNm 5) pB (d + 1) i (p5R os k m (rulesD r s b) homes y4 y5 y8 y9 y10) (St os k g (XX os cells cols C)) = some (.nx (p5R os k m (rulesD r s b) homes y4 z5 y8 z9 z10) (St os k g' (XX os cells' cols' C))) ∧ GenL g' (B + 20 * d) ∧ cells'.length = cells.length ∧ cols'.length = m ∧ (about cols' cells').Perm (C.drop i ++ about cols cells)
  | 0, i, cells, cols, g, B, y5, y9, y10, hi, hc, hce, ha, hg, hB => by
    refine ⟨g, cells, cols, y5, y9, y10, ?_, by simpa using hg, rfl, hc, ?_⟩
    · unfold forLive itemO
      rw [← hc, at_cards hk]
      simp only
      rw [List.getElem?_map, List.getElem?_eq_none (by omega)]
      rfl
    · rw [List.drop_of_length_le (by omega)]
      exact List.Perm.refl _
  | d + 1, i, cells, cols, g, B, y5, y9, y10, hi, hc, hce, ha, hg, hB => by
    have hlt : i < C.length := by omega
    obtain ⟨g1, ce1, co1, w9, w10, e1, q1, l1, l2, p1⟩ := place_step (C := C) (r := r) (s := s) (homes := homes) ht hk hb (cells := cells) (cols := cols) (by omega) (by omega) hce (by omega) (c := C[i]) hg (by omega) y4 y8 y9 y10
    obtain ⟨g2, ce2, co2, z5, z9, z10, e2, q2, l3, l4, p2⟩ := place_loop ht hk hb hm2 hm y4 y8 d (i + 1) ce1 co1 g1 (B + 20) (.d (pairD C[i])) w9 w10 (by omega) (by omega) (by omega) (by rw [p1.length_eq, List.length_cons]; omega) q1 (by omega)
    refine ⟨g2, ce2, co2, z5, z9, z10, ?_, q2.mono (by omega), by omega, l4, ?_⟩
    · rw [hc] at e1
      unfold forLive
      have it : itemO (St os k g (XX os cells cols C)) (os.length + (2 + m)) i = some (some (.d (pairD C[i]))) := by
        unfold itemO
        rw [← hc, at_cards hk]
        simp only
        rw [List.getElem?_map, List.getElem?_eq_getElem hlt]
        rfl
      have g0 : gLNm 5 (.d (pairD C[i])) (p5R os k m (rulesD r s b) homes y4 y5 y8 y9 y10) = some (pR os k m (rulesD r s b) homes y4 C[i] y8 y9 y10) := rfl
      rw [it, Option.bind_some]
      simp only
      rw [g0, Option.bind_some, e1, Option.bind_some]
      exact e2
    · refine p2.trans ?_
      rw [List.drop_eq_getElem_cons hlt, List.cons_append]
      exact (p1.append_left _).trans List.perm_middle
end
end Lw

set_option Elab.async false
set_option linter.all false
set_option maxRecDepth 100000
set_option maxHeartbeats 4000000
set_option exponentiation.threshold 3000
namespace Lw
open PySem PySem.Spec PyProof.Rows L2 Evl DL
section
variable {r s : Int} {b : Str} {os : Os} {k : Nat}
theorem rep_none {ρ : List Sl} {xe : XE} {W W' : Os} {m : Nat} (h : xe ρ W = some (.int (m : Int), W')) (hm : m ≤ 1000) : fRep (fLst (xaD (xC .none) xaNil)) xe ρ W = some ((List.replicate m (none : Option Card)).map optD, W') := by
  have f : fLst (xaD (xC .none) xaNil) ρ W = some ([.none], W) := by
    simp -implicitDefEqProofs
    rw [DL.sizeLine_eq]
    decide
  unfold fRep
  rw [f, Option.bind_some]
  simp only
  rw [h, Option.bind_some]
  simp only
  rw [if_pos ⟨by omega, by omega, by rw [DL.sizeLine_eq, List.length_singleton]; omega⟩, Int.toNat_natCast, List.map_replicate]
  simp [optD]
theorem position_drawn (ht : Tidy os) (hk : k < os.length) (h : Rl r s b) (h3 : 3 ≤ r) {g : List PyData} {B : Int} (hg : GenL g B) (hB : B < 2 ^ 35) : ∃ cols cells homes g', asMN m_law_position [.o k, .d (rulesD r s b)] (St os k g []) = some (posD cols cells homes, St os k g' []) ∧ GenL g' (B + 100000) ∧ Ps r s cols cells homes ∧ cols.length ≤ 5 := by
  have r0 := h.r0
  have r1 := h.r1
  have s0 := h.s0
  have s1' := h.s1
  -- homes
  obtain ⟨g1, homes, e1, q1, l1, b1⟩ := homes_run (A := [.o k, .d (rulesD r s b), .u, .u, .u, .u, .u, .u, .u, .u, .u, .u, .u, .u, .u]) ht hk rfl (show 8 < 15 by decide) (rangeD 0 s.toNat) [] g B hg (by rw [rangeD_len]; omega) (by rw [rangeD_len]; simp; omega)
  rw [rangeD_len] at q1 l1
  have s1 : sAsg (xF (lcD (iRg (xaD (xOp ixD (xVar 1) (xC (.int 1))) xaNil)) (gNm 8) xYes hE [8])) (gNm 2) [.o k, .d (rulesD r s b), .u, .u, .u, .u, .u, .u, .u, .u, .u, .u, .u, .u, .u] (St os k g []) = some (.nx [.o k, .d (rulesD r s b), .d (.list (homes.map .int)), .u, .u, .u, .u, .u, .u, .u, .u, .u, .u, .u, .u] (St os k g1 [])) := by
    have rg : iRg (xaD (xOp ixD (xVar 1) (xC (.int 1))) xaNil) [.o k, .d (rulesD r s b), .u, .u, .u, .u, .u, .u, .u, .u, .u, .u, .u, .u, .u] (St os k g []) = some (rangeD 0 s.toNat, St os k g []) := rg1_ok (os1 := St os k g []) (j := s) (by
      simp -implicitDefEqProofs only [a_d, a_c, a_op, a_nil, a_var, List.getElem?_cons_zero, List.getElem?_cons_succ, slD_d, Option.map_some, Option.bind_some, rd1]) (by omega) (by omega)
    have wp : wipeR [.o k, .d (rulesD r s b), .u, .u, .u, .u, .u, .u, .u, .u, .u, .u, .u, .u, .u] [8] = [.o k, .d (rulesD r s b), .u, .u, .u, .u, .u, .u, .u, .u, .u, .u, .u, .u, .u] := rfl
    rw [a_asg, a_F]
    unfold lcD
    rw [rg, Option.bind_some, wp]
    simp only
    rw [e1]
    rfl
  have hl : (homes.length : Int) = s := by omega
  -- cells
  obtain ⟨x, g2, e2, q2, x0, x1⟩ := rand_st (X := []) 4 ht rfl hk q1 (by omega) (by decide) (by decide)
  obtain ⟨nc, rfl⟩ : ∃ n : Nat, x = (n : Int) := ⟨x.toNat, by omega⟩
  have s2 : sOwn 3 (fRep (fLst (xaD (xC .none) xaNil)) (xFn m_law_random (xaO 0 (xaD (xC (.int 4)) xaNil)))) [.o k, .d (rulesD r s b), .d (.list (homes.map .int)), .u, .u, .u, .u, .u, .u, .u, .u, .u, .u, .u, .u] (St os k g1 []) = some (.nx [.o k, .d (rulesD r s b), .d (.list (homes.map .int)), .o os.length, .u, .u, .u, .u, .u, .u, .u, .u, .u, .u, .u] (St os k g2 [some (.l ((List.replicate nc (none : Option Card)).map optD))])) := by
    rw [a_own, rep_none (m := nc) (W' := St os k g2 []) (by
      simp -implicitDefEqProofs only [a_fn, a_o, a_d, a_c, a_nil, List.getElem?_cons_zero, slO_o, Option.map_some, Option.bind_some, e2]) (by omega)]
    simp [St]
  -- columns
  have fx1 : Fx os [some (.l ((List.replicate nc (none : Option Card)).map optD))] := rfl
  obtain ⟨x, g3, e3, q3, y0, y1⟩ := rand_st (X := [some (.l ((List.replicate nc (none : Option Card)).map optD))]) 4 ht fx1 hk q2 (by omega) (by decide) (by decide)
  obtain ⟨mc, rfl⟩ : ∃ n : Nat, x = (n : Int) := ⟨x.toNat, by omega⟩
  obtain ⟨m, hm⟩ : ∃ m, m = 2 + mc := ⟨_, rfl⟩
  have s3 : sTupV [6, 7] (xaS (lcS (iRg (xaD (xOp addD (xC (.int 2)) (xFn m_law_random (xaO 0 (xaD (xC (.int 4)) xaNil)))) xaNil)) (gNm 11) (xsOwn (fLst xaNil)) [11]) (xaS (xsOwn (fLst xaNil)) xaNil)) [.o k, .d (rulesD r s b), .d (.list (homes.map .int)), .o os.length, .u, .u, .u, .u, .u, .u, .u, .u, .u, .u, .u] (St os k g2 [some (.l ((List.replicate nc (none : Option Card)).map optD))]) = some (.nx [.o k, .d (rulesD r s b), .d (.list (homes.map .int)), .o os.length, .u, .u, .o (os.length + (1 + m)), .o (os.length + (2 + m)), .u, .u, .u, .u, .u, .u, .u] (St os k g3 (XX os (List.replicate nc none) (List.replicate m []) []))) := by
    have rg : iRg (xaD (xOp addD (xC (.int 2)) (xFn m_law_random (xaO 0 (xaD (xC (.int 4)) xaNil)))) xaNil) [.o k, .d (rulesD r s b), .d (.list (homes.map .int)), .o os.length, .u, .u, .u, .u, .u, .u, .u, .u, .u, .u, .u] (St os k g2 [some (.l ((List.replicate nc (none : Option Card)).map optD))]) = some (rangeD 0 m, St os k g3 [some (.l ((List.replicate nc (none : Option Card)).map optD))]) := by
      rw [rg1_ok (os1 := St os k g3 [some (.l ((List.replicate nc (none : Option Card)).map optD))]) (j := 2 + (mc : Int)) (by
        simp -implicitDefEqProofs only [a_d, a_c, a_op, a_fn, a_o, a_nil, List.getElem?_cons_zero, slO_o, Option.map_some, Option.bind_some, e3, addD_int]) (by omega) (by omega)]
      have : (2 + (mc : Int)).toNat = m := by omega
      rw [this]
    have cr := cols_run (A := [.o k, .d (rulesD r s b), .d (.list (homes.map .int)), .o os.length, .u, .u, .u, .u, .u, .u, .u, .u, .u, .u, .u]) (rangeD 0 m) [] (St os k g3 [some (.l ((List.replicate nc (none : Option Card)).map optD))]) (by rw [rangeD_len]; simp; omega)
    rw [rangeD_len] at cr
    have wl : (St os k g3 [some (.l ((List.replicate nc (none : Option Card)).map optD))]).length = os.length + 1 := by rw [st_len]; rfl
    rw [wl, List.nil_append] at cr
    have wp : wipeR [.o k, .d (rulesD r s b), .d (.list (homes.map .int)), .o os.length, .u, .u, .u, .u, .u, .u, .u, .u, .u, .u, .u] [11] = [.o k, .d (rulesD r s b), .d (.list (homes.map .int)), .o os.length, .u, .u, .u, .u, .u, .u, .u, .u, .u, .u, .u] := rfl
    have lc : lcS (iRg (xaD (xOp addD (xC (.int 2)) (xFn m_law_random (xaO 0 (xaD (xC (.int 4)) xaNil)))) xaNil)) (gNm 11) (xsOwn (fLst xaNil)) [11] [.o k, .d (rulesD r s b), .d (.list (homes.map .int)), .o os.length, .u, .u, .u, .u, .u, .u, .u, .u, .u, .u, .u] (St os k g2 [some (.l ((List.replicate nc (none : Option Card)).map optD))]) = some (.o (os.length + (1 + m)), St os k g3 ([some (.l ((List.replicate nc (none : Option Card)).map optD))] ++ List.replicate m (some (.l [])) ++ [some (.r (refsOf os.length m))])) := by
      unfold lcS
      rw [rg, Option.bind_some, wp]
      simp only
      rw [cr]
      have ln : (St os k g3 [some (Ob.l ((List.replicate nc (none : Option Card)).map optD))] ++ List.replicate m (some (Ob.l []))).length = os.length + (1 + m) := by
        rw [List.length_append, wl, List.length_replicate]
        omega
      simp only [Option.map_some]
      rw [ln]
      unfold St refsOf
      simp only [List.append_assoc]
    have ow : xsOwn (fLst xaNil) [.o k, .d (rulesD r s b), .d (.list (homes.map .int)), .o os.length, .u, .u, .u, .u, .u, .u, .u, .u, .u, .u, .u] (St os k g3 ([some (.l ((List.replicate nc (none : Option Card)).map optD))] ++ List.replicate m (some (.l [])) ++ [some (.r (refsOf os.length m))])) = some (.o (os.length + (2 + m)), St os k g3 (XX os (List.replicate nc none) (List.replicate m []) [])) := by
      have f : fLst xaNil [.o k, .d (rulesD r s b), .d (.list (homes.map .int)), .o os.length, .u, .u, .u, .u, .u, .u, .u, .u, .u, .u, .u] (St os k g3 ([some (.l ((List.replicate nc (none : Option Card)).map optD))] ++ List.replicate m (some (.l [])) ++ [some (.r (refsOf os.length m))])) = some ([], St os k g3 ([some (.l ((List.replicate nc (none : Option Card)).map optD))] ++ List.replicate m (some (.l [])) ++ [some (.r (refsOf os.length m))])) := rfl
      rw [a_sown, f]
      simp only [Option.map_some]
      have ln : (St os k g3 ([some (Ob.l ((List.replicate nc (none : Option Card)).map optD))] ++ List.replicate m (some (Ob.l [])) ++ [some (.r (refsOf os.length m))])).length = os.length + (2 + m) := by
        rw [st_len]
        simp
        omega
      rw [ln]
      unfold St XX
      simp
      rfl
    rw [a_tupV, a_s, lc, Option.bind_some, a_s]
    simp only
    rw [ow]
    rfl
  -- the cards
  obtain ⟨Y, hY0⟩ : ∃ Y : Os, Y = some (.l ((List.replicate nc (none : Option Card)).map optD)) :: ((List.replicate m ([] : List Card)).map lO ++ [some (.r (refsOf os.length m))]) := ⟨_, rfl⟩
  have yl : Y.length = 2 + m := by
    rw [hY0]
    simp
    omega
  have yC : ∀ C : List Card, Y ++ [cO C] = XX os (List.replicate nc none) (List.replicate m []) C := fun C => by
    rw [hY0]
    unfold XX
    simp
  have hY : ∀ C : List Card, Fx os (Y ++ [cO C]) := fun C => by
    rw [yC]
    exact XX_fx
  obtain ⟨g4, C4, z4, z8, e4, q4, p4⟩ := ins_ranks (r := r) (b := b) (homes := homes) ht hk hY (y3 := .o os.length) (y6 := .o (os.length + (1 + m))) (by omega) s1' hl r.toNat [] g3 _ .u .u (by omega) (by simp; omega) q3 (by omega)
  rw [dueN_due (by omega), List.append_nil] at p4
  rw [yC, yC] at e4
  have dl : (dueC r s homes).length ≤ 160 := Nat.le_trans (List.length_filter_le _ _) (deck_len h)
  have cl4 : C4.length ≤ 160 := by
    rw [p4.length_eq]
    exact dl
  have s4 : sFor (iRgN (xaD (xOp ixD (xVar 1) (xC (.int 0))) (xaD (xC (.int 0)) (xaD (xUn negD (xC (.int 1))) xaNil)))) (gNm 4) iS [.o k, .d (rulesD r s b), .d (.list (homes.map .int)), .o os.length, .u, .u, .o (os.length + (1 + m)), .o (os.length + (2 + m)), .u, .u, .u, .u, .u, .u, .u] (St os k g3 (XX os (List.replicate nc none) (List.replicate m []) [])) = some (.nx [.o k, .d (rulesD r s b), .d (.list (homes.map .int)), .o os.length, z4, .u, .o (os.length + (1 + m)), .o (os.length + (2 + m)), z8, .u, .u, .u, .u, .u, .u] (St os k g4 (XX os (List.replicate nc none) (List.replicate m []) C4))) := by
    have rg : iRgN (xaD (xOp ixD (xVar 1) (xC (.int 0))) (xaD (xC (.int 0)) (xaD (xUn negD (xC (.int 1))) xaNil))) [.o k, .d (rulesD r s b), .d (.list (homes.map .int)), .o os.length, .u, .u, .o (os.length + (1 + m)), .o (os.length + (2 + m)), .u, .u, .u, .u, .u, .u, .u] (St os k g3 (XX os (List.replicate nc none) (List.replicate m []) [])) = some (downD (r.toNat : Int) r.toNat, St os k g3 (XX os (List.replicate nc none) (List.replicate m []) [])) := by
      have n1 : negD (.int 1) = some (.int (-1)) := rfl
      unfold iRgN
      simp -implicitDefEqProofs only [a_d, a_c, a_op, a_un, a_nil, a_var, List.getElem?_cons_zero, List.getElem?_cons_succ, slD_d, Option.map_some, Option.bind_some, rd0, n1]
      rw [if_pos ⟨by trivial, by omega, by omega, by omega, by omega⟩]
      have e1 : (r - 0).toNat = r.toNat := by omega
      have e2 : r = (r.toNat : Int) := by omega
      rw [e1, ← e2]
    rw [a_for, rg, Option.bind_some]
    simp only
    have e4 := e4
    unfold iR at e4
    rw [yl] at e4
    exact e4
  -- they are laid
  have ab0 : about (List.replicate m ([] : List Card)) (List.replicate nc none) = [] := by
    unfold about
    have a1 : (List.replicate m ([] : List Card)).flatten = [] := by simp
    have a2 : (List.replicate nc (none : Option Card)).filterMap id = [] := by simp
    rw [a1, a2]
    rfl
  obtain ⟨g5, cells, cols, z5, z9, z10, e5, q5, l5, l6, p5⟩ := place_loop (C := C4) (r := r) (s := s) (homes := homes) ht hk h.bd (m := m) (by omega) (by omega) z4 z8 C4.length 0 (List.replicate nc none) (List.replicate m []) g4 _ .u .u .u (by omega) (by simp) (by simp; omega) (by rw [ab0]; simp; omega) q4 (by omega)
  rw [ab0, List.append_nil, List.drop_zero] at p5
  have s5 : sForL (xrVar 7) (gLNm 5) pB [.o k, .d (rulesD r s b), .d (.list (homes.map .int)), .o os.length, z4, .u, .o (os.length + (1 + m)), .o (os.length + (2 + m)), z8, .u, .u, .u, .u, .u, .u] (St os k g4 (XX os (List.replicate nc none) (List.replicate m []) C4)) = some (.nx (p5R os k m (rulesD r s b) homes z4 z5 z8 z9 z10) (St os k g5 (XX os cells cols C4))) := by
    have r7 : xrVar 7 [.o k, .d (rulesD r s b), .d (.list (homes.map .int)), .o os.length, z4, .u, .o (os.length + (1 + m)), .o (os.length + (2 + m)), z8, .u, .u, .u, .u, .u, .u] (St os k g4 (XX os (List.replicate nc none) (List.replicate m []) C4)) = some (.o (os.length + (2 + m)), St os k g4 (XX os (List.replicate nc none) (List.replicate m []) C4)) := rfl
    have ln : lenO (St os k g4 (XX os (List.replicate nc none) (List.replicate m []) C4)) (os.length + (2 + m)) = some C4.length := by
      have := at_cards (g := g4) (cells := List.replicate nc none) (cols := List.replicate m []) (C := C4) hk
      rw [List.length_replicate] at this
      unfold lenO
      rw [this]
      simp
    unfold sForL
    rw [r7, Option.bind_some]
    simp only
    rw [ln, Option.bind_some]
    exact e5
  -- what is handed back
  have s6 : sRetS (xsTup (xaS (xrVar 6) (xaS (xrVar 3) (xaS (xrD (xVar 2)) xaNil)))) (p5R os k m (rulesD r s b) homes z4 z5 z8 z9 z10) (St os k g5 (XX os cells cols C4)) = some (.rv (.o (St os k g5 (XX os cells cols C4)).length) (St os k g5 (XX os cells cols C4) ++ [some (.t [.o (os.length + (1 + m)), .o os.length, .d (.list (homes.map .int))])])) := by
    have a : xaS (xrVar 6) (xaS (xrVar 3) (xaS (xrD (xVar 2)) xaNil)) (p5R os k m (rulesD r s b) homes z4 z5 z8 z9 z10) (St os k g5 (XX os cells cols C4)) = some ([.o (os.length + (1 + m)), .o os.length, .d (.list (homes.map .int))], St os k g5 (XX os cells cols C4)) := rfl
    rw [a_retS]
    unfold xsTup
    rw [a, Option.bind_some]
    simp only
    rw [if_pos (by rw [DL.sizeLine_eq]; simp)]
    rfl
  have bb : b_law_position [.o k, .d (rulesD r s b), .u, .u, .u, .u, .u, .u, .u, .u, .u, .u, .u, .u, .u] (St os k g []) = _ := seq_nx s1 (seq_nx s2 (seq_nx s3 (seq_nx s4 (seq_nx s5 s6))))
  have mm : m_law_position [.o k, .d (rulesD r s b)] (St os k g []) = some (.o (St os k g5 (XX os cells cols C4)).length, St os k g5 (XX os cells cols C4) ++ [some (.t [.o (os.length + (1 + m)), .o os.length, .d (.list (homes.map .int))])]) := by
    unfold m_law_position
    rw [mS_eq (n := 2) (ss := [.o k, .d (rulesD r s b)]) rfl]
    simp -implicitDefEqProofs only [List.cons_append, List.nil_append, List.reduceReplicate, Nat.reduceSub, bb, Option.bind_some, outS_rv]
  refine ⟨cols, cells, homes, g5, ?_, q5.mono (by omega), ⟨?_, by omega, by rw [l5]; simp; omega, hl, fun x hx => ?_, p5.trans p4⟩, by omega⟩
  · unfold asMN
    rw [mm, Option.bind_some]
    simp only
    have ln : (St os k g []).length = os.length := by rw [st_len]; rfl
    rw [ln]
    have d0 : dataO (St os k g5 (XX os cells cols C4) ++ [some (.t [.o (os.length + (1 + m)), .o os.length, .d (.list (homes.map .int))])]) (fun j => decide (os.length ≤ j)) 8 (.o (St os k g5 (XX os cells cols C4)).length) = some (posD cols cells homes) := by
      rw [dataO_t (c := [.o (os.length + (1 + m)), .o os.length, .d (.list (homes.map .int))]) (by rw [st_len]; simp) (by rw [List.getElem?_append_right (Nat.le_refl _), Nat.sub_self]; rfl)]
      have dc := dataO_app (w := [some (.t [.o (os.length + (1 + m)), .o os.length, .d (.list (homes.map .int))])]) (cols_data (C := C4) (g := g5) (cells := cells) (cols := cols) hk (P := fun j => decide (os.length ≤ j)) (fun i hi => by simpa using hi) (n := 5))
      rw [l6] at dc
      have de := dataO_app (w := [some (.t [.o (os.length + (1 + m)), .o os.length, .d (.list (homes.map .int))])]) (dataO_l (P := fun j => decide (os.length ≤ j)) (m := 6) (by simp) (at_cells (C := C4) (g := g5) (cells := cells) (cols := cols) hk))
      simp only [mapO, dc, de, dataO_d, Option.bind_some, Option.map_some]
      rfl
    rw [d0, Option.bind_some]
    have tt : Tidy (os.set k (some (.l g5))) := ht.setl
    have cu := cutW_app (w := XX os cells cols C4 ++ [some (.t [.o (os.length + (1 + m)), .o os.length, .d (.list (homes.map .int))])]) tt
    rw [List.length_set] at cu
    unfold St
    rw [List.append_assoc, cu]
    simp
  · intro z
    rw [z] at l6
    simp at l6
    omega
  · have := b1 x hx
    omega
end
end Lw

set_option Elab.async false
set_option linter.all false
set_option maxRecDepth 100000
set_option maxHeartbeats 4000000
set_option exponentiation.threshold 3000
namespace Lw
open PySem PySem.Spec PyProof.Rows L2 Evl DL
section
variable {r s : Int} {b : Str} {os : Os} {k : Nat} {cols : List (List Card)} {cells : List (Option Card)} {homes : List Int}
theorem rules_drawn (ht : Tidy os) (hk : k < os.length) {g : List PyData} {B : Int} (hg : GenL g B) (hB : B < 2 ^ 35) : ∃ (r s : Int) (b : Str) (g' : List PyData), m_law_rules [.o k] (St os k g []) = some (rulesD r s b, St os k g' []) ∧ GenL g' (B + 20) ∧ Rl r s b ∧ 3 ≤ r ∧ r ≤ 6 ∧ s ≤ 3 := by
  obtain ⟨x, g1, e1, q1, x0, x1⟩ := rand_st (X := []) 4 ht rfl hk hg (by omega) (by decide) (by decide)
  obtain ⟨y, g2, e2, q2, y0, y1⟩ := rand_st (X := []) 3 ht rfl hk q1 (by omega) (by decide) (by decide)
  obtain ⟨z, g3, e3, q3, z0, z1⟩ := rand_st (X := []) 3 ht rfl hk q2 (by omega) (by decide) (by decide)
  obtain ⟨w, hw, iw⟩ : ∃ w : Str, Bd w ∧ ixD (.list [.str "other", .str "same", .str "any"]) (.int z) = some (.str w) := by
    have : z = 0 ∨ z = 1 ∨ z = 2 := by omega
    rcases this with rfl | rfl | rfl
    · exact ⟨_, .inl rfl, rfl⟩
    · exact ⟨_, .inr (.inl rfl), rfl⟩
    · exact ⟨_, .inr (.inr rfl), rfl⟩
  refine ⟨3 + x, 1 + y, w, g3, ?_, q3.mono (by omega), ⟨by omega, by omega, by omega, by omega, hw⟩, by omega, by omega, by omega⟩
  have cu : cutW (St os k g []).length (St os k g3 []) = some (St os k g3 []) := by
    have := cutW_self (st_tidy (k := k) (g := g3) ht (X := []) rfl)
    rw [st_len] at this ⊢
    exact this
  unfold m_law_rules
  rw [m_1]
  simp -implicitDefEqProofs only [b_law_rules, List.reduceReplicate, Nat.reduceSub, a_ret, a_call, a_op, a_fn, a_o, a_d, a_c, a_nil, List.getElem?_cons_zero, slO_o, Option.map_some, Option.bind_some, e1, e2, e3, addD_int, datas_d, datas_nil, lstD_3, iw, tupD_3, outM_rt, cu]
  rfl
theorem bool_repr (x : Bool) : reprD [.bool x] = some (.str (PyData.bool x).shown) := repr_ok (pr_bool x) (by decide)
theorem bool_cl (x : Bool) : Cl (.bool x) 0 := ⟨rfl, by simp [PyData.depth]⟩
theorem ne_str (x : Str) : neD (.str x) (.str x) = some (.bool false) := by rw [neD_str]; simp
theorem ne_bool (x : Bool) : neD (.bool x) (.bool x) = some (.bool false) := neD_self (bool_cl x)
theorem smD_eq (q : Sm) : smD q = supD ((q.1 : Int), (q.2.1 : Int), (q.2.2 : Int)) := rfl
abbrev rO2 (W : Os) (b : Str) (cols : List (List Card)) (cells : List (Option Card)) (i j m : Nat) : Os := [some (.l ((topsL b cols i j m).map .int ++ [.none])), some (.t [.d (.int (freeC cells : Nat)), .d (.int (freeE cols : Nat)), .o W.length]), some (.t [.d (.str (kindS cols i j m)), .o (W.length + 1)])]
abbrev uB : SE := (sSeq (sAsg (xFn m_law_sensible (xaD (xVar 1) (xaD (xVar 2) (xaD (xVar 3) xaNil)))) (gNm 6))
  (sSeq (sIf (xOrT (xBool (xOp neD (xCall reprD (xaD (xFn m_is_sensible (xaD (xVar 1) (xaD (xVar 2) (xaD (xVar 3) xaNil)))) xaNil)) (xCall reprD (xaD (xVar 6) xaNil)))) (xBool (xOp neD (xFn (fun ss => m_is_sensible (pmI [2, 1, 0] ss)) (xaD (xVar 3) (xaD (xVar 2) (xaD (xVar 1) xaNil)))) (xVar 6))))
  (sRet (xC (.bool false)))
  sNext)
  (sIf (xTruth (xVar 6))
  (sSeq (sTupV [7, 8] (xaS (xrD (xFn m_law_room_of (xaD (xVar 1) (xaD (xVar 2) (xaD (xVar 3) xaNil))))) (xaS (xsFn m_room_of (xaS (xrD (xVar 1)) (xaS (xrD (xVar 2)) (xaS (xrD (xVar 3)) xaNil)))) xaNil)))
  (sSeq (sIf (xOrT (xBool (xOp neD (xViewN (xCall reprD (xaD (xVar 8) xaNil))) (xCall reprD (xaD (xVar 7) xaNil)))) (xBool (xOp neD (xCall reprD (xaD (xFn (fun ss => (asMN m_room_of) (pmI [2, 1, 0] ss)) (xaD (xVar 3) (xaD (xVar 2) (xaD (xVar 1) xaNil)))) xaNil)) (xCall reprD (xaD (xVar 7) xaNil)))))
  (sRet (xC (.bool false)))
  sNext)
  (sSeq (sAppV (xrIx (xrIx (xrVar 8) (xC (.int 1))) (xC (.int 2))) (xrD (xC .none)))
  (sIf (xBool (xOp neD (xCall reprD (xaD (xFn (asMN m_room_of) (xaD (xVar 1) (xaD (xVar 2) (xaD (xVar 3) xaNil)))) xaNil)) (xCall reprD (xaD (xVar 7) xaNil))))
  (sRet (xC (.bool false)))
  sNext))))
  sNext)))
abbrev uR (k : Nat) (R P : PyData) (y3 : Sl) (K4 : Str) (y6 y7 y8 : Sl) : List Sl := [.o k, .d R, .d P, y3, .d (.str K4), .d (.int 0), y6, y7, y8]
theorem turn_room {W : Os} (hW : Tidy W) (h : Rl r s b) (p : Ps r s cols cells homes) {i j m : Nat} (v : Sv b cols i j m) (K4 : Str) (y6 y7 y8 : Sl) (pr : Pr (roomL b cols cells i j m) 90000) : ∃ z6 z7 z8 X, Tidy (W ++ X) ∧ uB (uR k (rulesD r s b) (posD cols cells homes) (.d (supD (i, j, m))) K4 y6 y7 y8) W = some (.nx (uR k (rulesD r s b) (posD cols cells homes) (.d (supD (i, j, m))) K4 z6 z7 z8) (W ++ X)) := by
  have v5 := v.m1
  have rl := run_le (b := b) (col := cols.getD i [])
  have cl := p.collen h (p.at v.i1)
  have rp := repr_ok pr (by decide)
  have pm : pmI [2, 1, 0] [Sl.d (supD (i, j, m)), .d (posD cols cells homes), .d (rulesD r s b)] = [.d (rulesD r s b), .d (posD cols cells homes), .d (supD (i, j, m))] := rfl
  obtain ⟨P, hP⟩ : ∃ P, P = posD cols cells homes := ⟨_, rfl⟩
  obtain ⟨Q, hQ⟩ : ∃ Q, Q = supD ((i : Int), (j : Int), (m : Int)) := ⟨_, rfl⟩
  have ls := law_sensible_ok (cells := cells) (homes := homes) hW h v
  have se := sensible_ok hW h p v
  rw [← hP, ← hQ] at ls se pm
  rw [← hP, ← hQ]
  have s1 : sAsg (xFn m_law_sensible (xaD (xVar 1) (xaD (xVar 2) (xaD (xVar 3) xaNil)))) (gNm 6) (uR k (rulesD r s b) P (.d Q) K4 y6 y7 y8) W = some (.nx (uR k (rulesD r s b) P (.d Q) K4 (.d (.bool (sens b cols i j m))) y7 y8) W) := by
    simp -implicitDefEqProofs only [a_asg, a_fn, a_d, a_nil, a_var, List.getElem?_cons_zero, List.getElem?_cons_succ, slD_d, Option.map_some, Option.bind_some, ls, a_nm, List.set_cons_succ, List.set_cons_zero]
  have s2 : (xOrT (xBool (xOp neD (xCall reprD (xaD (xFn m_is_sensible (xaD (xVar 1) (xaD (xVar 2) (xaD (xVar 3) xaNil)))) xaNil)) (xCall reprD (xaD (xVar 6) xaNil)))) (xBool (xOp neD (xFn (fun ss => m_is_sensible (pmI [2, 1, 0] ss)) (xaD (xVar 3) (xaD (xVar 2) (xaD (xVar 1) xaNil)))) (xVar 6)))) (uR k (rulesD r s b) P (.d Q) K4 (.d (.bool (sens b cols i j m))) y7 y8) W = some (false, W) := by
    simp -implicitDefEqProofs only [a_orT, a_bool, a_op, a_call, a_fn, a_d, a_nil, a_var, List.getElem?_cons_zero, List.getElem?_cons_succ, slD_d, Option.map_some, Option.bind_some, se, datas_d, datas_nil, bool_repr, ne_str, boolOf_bool, Bool.false_eq_true, if_false, pm, ne_bool]
  cases hs : sens b cols i j m with
  | false =>
    rw [hs] at s1 s2
    refine ⟨.d (.bool false), y7, y8, [], by rw [List.append_nil]; exact hW, ?_⟩
    rw [List.append_nil]
    unfold uB
    refine seq_nx s1 (seq_nx (if_no s2) ?_)
    refine if_no ?_
    simp -implicitDefEqProofs only [a_truth, a_var, List.getElem?_cons_zero, List.getElem?_cons_succ, slD_d, Option.map_some, Option.bind_some, truthD_bool]
  | true =>
    rw [hs] at s1 s2
    have lr := law_room_ok hW h p v
    have ro := room_of_ok hW h p v hs
    have rd := room_of_data hW h p v hs
    rw [← hP, ← hQ] at lr ro rd
    have tX : Tidy (W ++ roomO W b cols cells i j m) := hW.app (by simp [oLt, obLt, slLt])
    have tY : Tidy (W ++ rO2 W b cols cells i j m) := hW.app (by simp [oLt, obLt, slLt])
    have rd2 := room_of_data tX h p v hs
    have rd3 := room_of_data tY h p v hs
    rw [← hP, ← hQ] at rd2 rd3
    have D := repr_ok pr (by decide)
    obtain ⟨DU, hDU⟩ : ∃ DU, DU = roomL b cols cells i j m := ⟨_, rfl⟩
    rw [← hDU] at lr rd rd2 rd3 D
    generalize hKD : DU.shown = KD at D
    have c1 : sTupV [7, 8] (xaS (xrD (xFn m_law_room_of (xaD (xVar 1) (xaD (xVar 2) (xaD (xVar 3) xaNil))))) (xaS (xsFn m_room_of (xaS (xrD (xVar 1)) (xaS (xrD (xVar 2)) (xaS (xrD (xVar 3)) xaNil)))) xaNil)) (uR k (rulesD r s b) P (.d Q) K4 (.d (.bool true)) y7 y8) W = some (.nx (uR k (rulesD r s b) P (.d Q) K4 (.d (.bool true)) (.d DU) (.o (W.length + 2))) (W ++ roomO W b cols cells i j m)) := by
      rw [a_tupV]
      simp -implicitDefEqProofs only [a_s, a_rD, a_fn, a_sfn, a_d, a_nil, a_var, List.getElem?_cons_zero, List.getElem?_cons_succ, slD_d, Option.map_some, Option.bind_some, lr, ro]
      rfl
    have vt : viewN (W ++ roomO W b cols cells i j m) (.o (W.length + 2)) = .d DU := by
      unfold viewN
      rw [room_data (n := 5) rfl rfl rfl, hDU]
    have c2 : (xOrT (xBool (xOp neD (xViewN (xCall reprD (xaD (xVar 8) xaNil))) (xCall reprD (xaD (xVar 7) xaNil)))) (xBool (xOp neD (xCall reprD (xaD (xFn (fun ss => (asMN m_room_of) (pmI [2, 1, 0] ss)) (xaD (xVar 3) (xaD (xVar 2) (xaD (xVar 1) xaNil)))) xaNil)) (xCall reprD (xaD (xVar 7) xaNil))))) (uR k (rulesD r s b) P (.d Q) K4 (.d (.bool true)) (.d DU) (.o (W.length + 2))) (W ++ roomO W b cols cells i j m) = some (false, W ++ roomO W b cols cells i j m) := by
      have x1 : xViewN (xCall reprD (xaD (xVar 8) xaNil)) (uR k (rulesD r s b) P (.d Q) K4 (.d (.bool true)) (.d DU) (.o (W.length + 2))) (W ++ roomO W b cols cells i j m) = some (.str KD, W ++ roomO W b cols cells i j m) := by
        unfold xViewN
        simp -implicitDefEqProofs only [List.map_cons, a_call, a_d, a_nil, a_var, List.getElem?_cons_succ, List.getElem?_cons_zero, vt, slD_d, Option.map_some, Option.bind_some, datas_d, datas_nil, D, flatD, if_true]
      simp -implicitDefEqProofs only [a_orT, a_bool, a_op, x1, a_call, a_fn, a_d, a_nil, a_var, List.getElem?_cons_zero, List.getElem?_cons_succ, slD_d, Option.map_some, Option.bind_some, datas_d, datas_nil, D, ne_str, boolOf_bool, Bool.false_eq_true, if_false, pm, rd2]
    have c3 : sAppV (xrIx (xrIx (xrVar 8) (xC (.int 1))) (xC (.int 2))) (xrD (xC .none)) (uR k (rulesD r s b) P (.d Q) K4 (.d (.bool true)) (.d DU) (.o (W.length + 2))) (W ++ roomO W b cols cells i j m) = some (.nx (uR k (rulesD r s b) P (.d Q) K4 (.d (.bool true)) (.d DU) (.o (W.length + 2))) (W ++ rO2 W b cols cells i j m)) := by
      obtain ⟨Z, hZ⟩ : ∃ Z, Z = W ++ roomO W b cols cells i j m := ⟨_, rfl⟩
      have z0 : Z[W.length]? = some (some (.l ((topsL b cols i j m).map .int))) := by
        have := room_at (os := W) 0 (by omega) (X := roomO W b cols cells i j m) rfl
        rw [hZ]
        exact this
      have z1 : Z[W.length + 1]? = some (some (.t [.d (.int (freeC cells : Nat)), .d (.int (freeE cols : Nat)), .o W.length])) := by
        rw [hZ, room_at 1 (by omega) rfl]
        rfl
      have z2 : Z[W.length + 2]? = some (some (.t [.d (.str (kindS cols i j m)), .o (W.length + 1)])) := by
        rw [hZ, room_at 2 (by omega) rfl]
        rfl
      have ixt : ∀ (q : Nat) (c : List Sl) (x : Int), Z[q]? = some (some (.t c)) → ixV Z (.o q) (.int x) = L2.atI c x := fun q c x hq => by
        show (match Z[q]? with
          | some (some (.l c)) => (L2.atI c x).map Sl.d
          | some (some (.r c)) => L2.atI c x
          | some (some (.t c)) => L2.atI c x
          | _ => none) = _
        rw [hq]
      rw [← hZ]
      have r8 : xrVar 8 (uR k (rulesD r s b) P (.d Q) K4 (.d (.bool true)) (.d DU) (.o (W.length + 2))) Z = some (.o (W.length + 2), Z) := rfl
      have a1 : L2.atI [Sl.d (.str (kindS cols i j m)), .o (W.length + 1)] 1 = some (.o (W.length + 1)) := rfl
      have a2 : L2.atI [Sl.d (.int (freeC cells : Nat)), .d (.int (freeE cols : Nat)), .o W.length] 2 = some (.o W.length) := rfl
      have rx : xrIx (xrIx (xrVar 8) (xC (.int 1))) (xC (.int 2)) (uR k (rulesD r s b) P (.d Q) K4 (.d (.bool true)) (.d DU) (.o (W.length + 2))) Z = some (.o W.length, Z) := by
        simp -implicitDefEqProofs only [a_rIx, r8, a_c, Option.bind_some, Option.map_some, ixt _ _ _ z2, a1, ixt _ _ _ z1, a2]
      have ln : lenO Z W.length = some ((topsL b cols i j m).map PyData.int).length := by
        unfold lenO
        rw [z0]
      have xd : xrD (xC .none) (uR k (rulesD r s b) P (.d Q) K4 (.d (.bool true)) (.d DU) (.o (W.length + 2))) Z = some (.d .none, Z) := rfl
      have tl : (topsL b cols i j m).length ≤ 200 := by
        unfold topsL
        rw [List.length_map]
        refine Nat.le_trans (List.length_filter_le _ _) ?_
        rw [List.length_range]
        omega
      have ap : appO Z W.length (.d .none) = some (W ++ rO2 W b cols cells i j m) := by
        unfold appO
        rw [z0]
        simp only
        rw [if_pos (by rw [List.length_map, DL.sizeLine_eq]; omega), hZ, List.set_append_right _ _ (Nat.le_refl _), Nat.sub_self]
        rfl
      unfold DL.sAppV
      rw [rx, Option.bind_some]
      simp only
      rw [ln, Option.bind_some, xd, Option.bind_some]
      simp only
      rw [ap]
      rfl
    have c4 : xBool (xOp neD (xCall reprD (xaD (xFn (asMN m_room_of) (xaD (xVar 1) (xaD (xVar 2) (xaD (xVar 3) xaNil)))) xaNil)) (xCall reprD (xaD (xVar 7) xaNil))) (uR k (rulesD r s b) P (.d Q) K4 (.d (.bool true)) (.d DU) (.o (W.length + 2))) (W ++ rO2 W b cols cells i j m) = some (false, W ++ rO2 W b cols cells i j m) := by
      simp -implicitDefEqProofs only [a_bool, a_op, a_call, a_fn, a_d, a_nil, a_var, List.getElem?_cons_zero, List.getElem?_cons_succ, slD_d, Option.map_some, Option.bind_some, rd3, datas_d, datas_nil, D, ne_str, boolOf_bool]
    refine ⟨.d (.bool true), .d DU, .o (W.length + 2), rO2 W b cols cells i j m, tY, ?_⟩
    unfold uB
    refine seq_nx s1 (seq_nx (if_no s2) ?_)
    have tr : xTruth (xVar 6) (uR k (rulesD r s b) P (.d Q) K4 (.d (.bool true)) y7 y8) W = some (true, W) := by
      simp -implicitDefEqProofs only [a_truth, a_var, List.getElem?_cons_zero, List.getElem?_cons_succ, slD_d, Option.map_some, Option.bind_some, truthD_bool]
    rw [a_sIf, tr, Option.bind_some]
    simp only [if_true]
    exact seq_nx c1 (seq_nx (if_no c2) (seq_nx c3 (if_no c4)))
end
end Lw

set_option Elab.async false
set_option linter.all false
set_option maxRecDepth 100000
set_option maxHeartbeats 4000000
set_option exponentiation.threshold 3000
namespace Lw
open PySem PySem.Spec PyProof.Rows L2 Evl DL
theorem depthAll_le {D : Nat} : ∀ {ds : List PyData}, (∀ d ∈ ds, d.depth ≤ D) → PyData.depthAll ds ≤ D
  | [], _ => by simp [PyData.depthAll]
  | d :: t, h => by
    have e1 : PyData.depthAll (d :: t) = max d.depth (PyData.depthAll t) := by simp [PyData.depthAll]
    have := h d (by simp)
    have := depthAll_le (ds := t) fun x hx => h x (by simp [hx])
    rw [e1]
    omega
theorem dep_list {ds : List PyData} {D : Nat} (h : ∀ d ∈ ds, d.depth ≤ D) : (PyData.list ds).depth ≤ D + 1 := by
  have := depthAll_le h
  simp only [PyData.depth]
  omega
theorem dep_tuple {ds : List PyData} {D : Nat} (h : ∀ d ∈ ds, d.depth ≤ D) : (PyData.tuple ds).depth ≤ D + 1 := by
  have := depthAll_le h
  simp only [PyData.depth]
  omega
theorem pr_word {x : Str} (h : x = "other" ∨ x = "same" ∨ x = "any" ∨ x = "into" ∨ x = "whole" ∨ x = "over") : Pr (.str x) 61 := by
  rcases h with rfl | rfl | rfl | rfl | rfl | rfl <;> exact ⟨by decide +kernel, by simp [PyData.depth], by decide +kernel, by simp [PyData.hasDict]⟩
theorem e60 : (10 : Nat) ^ 60 = 1000000000000000000000000000000000000000000000000000000000000 := by decide
theorem pr_pair {c : Card} (h1 : 0 ≤ c.1 ∧ c.1 ≤ 1000) (h2 : 0 ≤ c.2 ∧ c.2 ≤ 1000) : Pr (pairD c) 140 := pr_tuple (B := 61) (D := 0) (fun d hd => by
  simp only [List.mem_cons, List.not_mem_nil, or_false] at hd
  rcases hd with rfl | rfl
  · exact pr_int (by rw [e60]; omega)
  · exact pr_int (by rw [e60]; omega)) (fun d hd => by
  simp only [List.mem_cons, List.not_mem_nil, or_false] at hd
  rcases hd with rfl | rfl <;> simp [PyData.depth]) (by decide) (by simp)
theorem dep_pair {c : Card} : (pairD c).depth ≤ 1 := dep_tuple fun d hd => by
  simp only [List.mem_cons, List.not_mem_nil, or_false] at hd
  rcases hd with rfl | rfl <;> simp [PyData.depth]
section
variable {r s : Int} {b : Str} {os : Os} {k : Nat} {cols : List (List Card)} {cells : List (Option Card)} {homes : List Int}
theorem card_small (h : Rl r s b) {c : Card} (hc : inDeck r s c = true) : (0 ≤ c.1 ∧ c.1 ≤ 1000) ∧ (0 ≤ c.2 ∧ c.2 ≤ 1000) := by
  have r1 := h.r1
  have s1 := h.s1
  unfold inDeck at hc
  simp only [Bool.and_eq_true, decide_eq_true_eq] at hc
  omega
theorem pr_rules (h : Rl r s b) : Pr (rulesD r s b) 200 := by
  have r0 := h.r0
  have r1 := h.r1
  have s0 := h.s0
  have s1 := h.s1
  refine pr_tuple (B := 61) (D := 0) (fun d hd => ?_) (fun d hd => ?_) (by decide) (by simp)
  · simp only [List.mem_cons, List.not_mem_nil, or_false] at hd
    rcases hd with rfl | rfl | rfl
    · exact pr_int (by rw [e60]; omega)
    · exact pr_int (by rw [e60]; omega)
    · rcases h.bd with rfl | rfl | rfl
      · exact pr_word (.inl rfl)
      · exact pr_word (.inr (.inl rfl))
      · exact pr_word (.inr (.inr (.inl rfl)))
  · simp only [List.mem_cons, List.not_mem_nil, or_false] at hd
    rcases hd with rfl | rfl | rfl <;> simp [PyData.depth]
theorem dep_rules : (rulesD r s b).depth ≤ 1 := dep_tuple fun d hd => by
  simp only [List.mem_cons, List.not_mem_nil, or_false] at hd
  rcases hd with rfl | rfl | rfl <;> simp [PyData.depth]
theorem deck_few (h : Rl r s b) (h6 : r ≤ 6) (h3 : s ≤ 3) : (deck r s).length ≤ 18 := by
  have r0 := h.r0
  have s0 := h.s0
  unfold deck
  have : ((List.range r.toNat).flatMap fun i => (List.range s.toNat).map fun j => (((i : Nat) : Int) + 1, ((j : Nat) : Int))).length = r.toNat * s.toNat := by
    rw [List.length_flatMap]
    simp only [List.length_map, List.length_range]
    rw [sum_const, List.length_range]
  rw [this]
  have : r.toNat * s.toNat ≤ 6 * 3 := Nat.mul_le_mul (by omega) (by omega)
  omega
theorem pr_both (h : Rl r s b) (h6 : r ≤ 6) (h3 : s ≤ 3) (p : Ps r s cols cells homes) (hc : cols.length ≤ 5) : Pr (.list [rulesD r s b, posD cols cells homes]) 90000 := by
  have pl : (about cols cells).length ≤ 18 := by
    rw [p.pm.length_eq]
    exact Nat.le_trans (List.length_filter_le _ _) (deck_few h h6 h3)
  have cl : ∀ col ∈ cols, col.length ≤ 18 := fun col hcm => by
    have := (List.sublist_flatten_of_mem hcm).length_le
    unfold about at pl
    rw [List.length_append] at pl
    omega
  have p1 : ∀ col ∈ cols, Pr (colD col) 2560 := fun col hcm => pr_list (B := 140) (D := 1) (fun d hd => by
    obtain ⟨c, hcc, rfl⟩ := List.mem_map.mp hd
    exact pr_pair (card_small h (p.col hcm c hcc)).1 (card_small h (p.col hcm c hcc)).2) (fun d hd => by
    obtain ⟨c, _, rfl⟩ := List.mem_map.mp hd
    exact dep_pair) (by decide) (by rw [List.length_map]; have := cl col hcm; omega)
  have d1 : ∀ col : List Card, (colD col).depth ≤ 2 := fun col => dep_list fun d hd => by
    obtain ⟨c, _, rfl⟩ := List.mem_map.mp hd
    exact dep_pair
  have p2 : Pr (.list (cols.map colD)) 14204 := pr_list (B := 2560) (D := 2) (fun d hd => by
    obtain ⟨c, hcc, rfl⟩ := List.mem_map.mp hd
    exact p1 c hcc) (fun d hd => by
    obtain ⟨c, _, rfl⟩ := List.mem_map.mp hd
    exact d1 c) (by decide) (by rw [List.length_map]; omega)
  have d2 : (PyData.list (cols.map colD)).depth ≤ 3 := dep_list fun d hd => by
    obtain ⟨c, _, rfl⟩ := List.mem_map.mp hd
    exact d1 c
  have p3 : Pr (.list (cells.map optD)) 14204 := pr_list (B := 140) (D := 1) (fun d hd => by
    obtain ⟨c, hcc, rfl⟩ := List.mem_map.mp hd
    cases c with
    | none => exact pr_mono pr_none (by decide)
    | some c => exact pr_pair (card_small h (p.cell hcc)).1 (card_small h (p.cell hcc)).2) (fun d hd => by
    obtain ⟨c, _, rfl⟩ := List.mem_map.mp hd
    cases c with
    | none => simp [optD, PyData.depth]
    | some c => exact dep_pair) (by decide) (by rw [List.length_map]; have := p.few; omega)
  have d3 : (PyData.list (cells.map optD)).depth ≤ 3 := Nat.le_trans (dep_list (D := 1) fun d hd => by
    obtain ⟨c, _, rfl⟩ := List.mem_map.mp hd
    cases c with
    | none => simp [optD, PyData.depth]
    | some c => exact dep_pair) (by decide)
  have hl := p.hl
  have s1 := h.s1
  have r1 := h.r1
  have p4 : Pr (.list (homes.map .int)) 14204 := pr_list (B := 61) (D := 0) (fun d hd => by
    obtain ⟨c, hcc, rfl⟩ := List.mem_map.mp hd
    have := p.hr c hcc
    exact pr_int (by rw [e60]; omega)) (fun d hd => by
    obtain ⟨c, _, rfl⟩ := List.mem_map.mp hd
    simp [PyData.depth]) (by decide) (by rw [List.length_map]; omega)
  have d4 : (PyData.list (homes.map .int)).depth ≤ 3 := Nat.le_trans (dep_list (D := 0) fun d hd => by
    obtain ⟨c, _, rfl⟩ := List.mem_map.mp hd
    simp [PyData.depth]) (by decide)
  have p5 : Pr (posD cols cells homes) 42622 := pr_tuple (B := 14204) (D := 3) (fun d hd => by
    simp only [List.mem_cons, List.not_mem_nil, or_false] at hd
    rcases hd with rfl | rfl | rfl
    · exact p2
    · exact p3
    · exact p4) (fun d hd => by
    simp only [List.mem_cons, List.not_mem_nil, or_false] at hd
    rcases hd with rfl | rfl | rfl
    · exact d2
    · exact d3
    · exact d4) (by decide) (by simp)
  have d5 : (posD cols cells homes).depth ≤ 4 := dep_tuple fun d hd => by
    simp only [List.mem_cons, List.not_mem_nil, or_false] at hd
    rcases hd with rfl | rfl | rfl
    · exact d2
    · exact d3
    · exact d4
  refine pr_list (B := 42622) (D := 4) (fun d hd => ?_) (fun d hd => ?_) (by decide) (by simp)
  · simp only [List.mem_cons, List.not_mem_nil, or_false] at hd
    rcases hd with rfl | rfl
    · exact pr_mono (pr_rules h) (by decide)
    · exact p5
  · simp only [List.mem_cons, List.not_mem_nil, or_false] at hd
    rcases hd with rfl | rfl
    · exact Nat.le_trans dep_rules (by decide)
    · exact d5
theorem pr_roomL (h : Rl r s b) (p : Ps r s cols cells homes) {i j m : Nat} (v : Sv b cols i j m) : Pr (roomL b cols cells i j m) 90000 := by
  have v5 := v.m1
  have rl := run_le (b := b) (col := cols.getD i [])
  have cl := p.collen h (p.at v.i1)
  have tl : (topsL b cols i j m).length ≤ 160 := by
    unfold topsL
    rw [List.length_map]
    refine Nat.le_trans (List.length_filter_le _ _) ?_
    rw [List.length_range]
    omega
  have tm : ∀ x ∈ topsL b cols i j m, 0 ≤ x ∧ x ≤ 1000 := fun x hx => by
    unfold topsL at hx
    obtain ⟨t, ht, rfl⟩ := List.mem_map.mp hx
    have := List.mem_range.mp (List.mem_filter.mp ht).1
    omega
  have f1 : freeC cells ≤ 100 := Nat.le_trans List.countP_le_length p.few
  have f2 : freeE cols ≤ 100 := Nat.le_trans List.countP_le_length p.many
  have p1 : Pr (.list ((topsL b cols i j m).map .int)) 10100 := pr_list (B := 61) (D := 0) (fun d hd => by
    obtain ⟨c, hcc, rfl⟩ := List.mem_map.mp hd
    have := tm c hcc
    exact pr_int (by rw [e60]; omega)) (fun d hd => by
    obtain ⟨c, _, rfl⟩ := List.mem_map.mp hd
    simp [PyData.depth]) (by decide) (by rw [List.length_map]; omega)
  have d1 : (PyData.list ((topsL b cols i j m).map .int)).depth ≤ 1 := dep_list (D := 0) fun d hd => by
    obtain ⟨c, _, rfl⟩ := List.mem_map.mp hd
    simp [PyData.depth]
  have p2 : Pr (.tuple [.int (freeC cells : Nat), .int (freeE cols : Nat), .list ((topsL b cols i j m).map .int)]) 30310 := pr_tuple (B := 10100) (D := 1) (fun d hd => by
    simp only [List.mem_cons, List.not_mem_nil, or_false] at hd
    rcases hd with rfl | rfl | rfl
    · exact pr_mono (pr_int (by rw [e60]; omega)) (by decide)
    · exact pr_mono (pr_int (by rw [e60]; omega)) (by decide)
    · exact p1) (fun d hd => by
    simp only [List.mem_cons, List.not_mem_nil, or_false] at hd
    rcases hd with rfl | rfl | rfl
    · simp [PyData.depth]
    · simp [PyData.depth]
    · exact d1) (by decide) (by simp)
  have d2 : (PyData.tuple [.int (freeC cells : Nat), .int (freeE cols : Nat), .list ((topsL b cols i j m).map .int)]).depth ≤ 2 := dep_tuple (D := 1) fun d hd => by
    simp only [List.mem_cons, List.not_mem_nil, or_false] at hd
    rcases hd with rfl | rfl | rfl
    · simp [PyData.depth]
    · simp [PyData.depth]
    · exact d1
  have kw : Pr (.str (kindS cols i j m)) 61 := by
    unfold kindS
    split
    · exact pr_word (.inr (.inr (.inr (.inl rfl))))
    · split
      · exact pr_word (.inr (.inr (.inr (.inr (.inl rfl)))))
      · exact pr_word (.inr (.inr (.inr (.inr (.inr rfl)))))
  refine pr_tuple (B := 30310) (D := 2) (fun d hd => ?_) (fun d hd => ?_) (by decide) (by simp)
  · simp only [List.mem_cons, List.not_mem_nil, or_false] at hd
    rcases hd with rfl | rfl
    · exact pr_mono kw (by decide)
    · exact p2
  · simp only [List.mem_cons, List.not_mem_nil, or_false] at hd
    rcases hd with rfl | rfl
    · simp [PyData.depth]
    · exact d2
theorem uturns (h : Rl r s b) (p : Ps r s cols cells homes) (K4 : Str) : ∀ (S : List Sm) (W : Os) (y3 y6 y7 y8 : Sl), AllSv b cols S → Tidy W → ∃ z3 z6 z7 z8 X, Tidy (W ++ X) ∧
    forRun (gNm 3) uB (S.map smD) (uR k (rulesD r s b) (posD cols cells homes) y3 K4 y6 y7 y8) W = some (.nx (uR k (rulesD r s b) (posD cols cells homes) z3 K4 z6 z7 z8) (W ++ X))
  | [], W, y3, y6, y7, y8, _, hW => ⟨y3, y6, y7, y8, [], by rw [List.append_nil]; exact hW, by rw [List.append_nil]; rfl⟩
  | q :: S, W, y3, y6, y7, y8, hS, hW => by
    have v := hS q (by simp)
    obtain ⟨w6, w7, w8, X1, t1, e1⟩ := turn_room (k := k) hW h p v K4 y6 y7 y8 (pr_roomL h p v)
    obtain ⟨z3, z6, z7, z8, X2, t2, e2⟩ := uturns h p K4 S (W ++ X1) (.d (smD q)) w6 w7 w8 (fun x hx => hS x (by simp [hx])) t1
    rw [List.append_assoc] at t2 e2
    refine ⟨z3, z6, z7, z8, X1 ++ X2, t2, ?_⟩
    have g0 : gNm 3 (smD q) (uR k (rulesD r s b) (posD cols cells homes) y3 K4 y6 y7 y8) = some (uR k (rulesD r s b) (posD cols cells homes) (.d (smD q)) K4 y6 y7 y8) := rfl
    rw [List.map_cons, forRun, g0, Option.bind_some]
    have e1 : uB (uR k (rulesD r s b) (posD cols cells homes) (.d (smD q)) K4 y6 y7 y8) W = _ := e1
    rw [e1]
    exact e2
theorem law_right_ok (ht : Tidy os) (hk : k < os.length) {g : List PyData} {B : Int} (hg : GenL g B) (hB : B < 2 ^ 30) : ∃ g', m_law_right [.o k] (St os k g []) = some (.bool true, St os k g' []) := by
  obtain ⟨r, s, b, g1, e1, q1, h, r3, r6, s3⟩ := rules_drawn ht hk hg (by omega)
  obtain ⟨cols, cells, homes, g2, e2, q2, p, hc⟩ := position_drawn ht hk h r3 q1 (by omega)
  have tS : Tidy (St os k g2 []) := st_tidy ht rfl
  obtain ⟨S, hS, e3⟩ := supermoves_ok tS h p (by omega)
  have rp := repr_ok (pr_both h r6 s3 p hc) (by decide)
  generalize hK : (PyData.list [rulesD r s b, posD cols cells homes]).shown = K at rp
  obtain ⟨z3, z6, z7, z8, X, tX, e4⟩ := uturns (k := k) h p K S (St os k g2 []) .u .u .u .u hS tS
  obtain ⟨P, hP⟩ : ∃ P, P = posD cols cells homes := ⟨_, rfl⟩
  rw [← hP] at e2 e3 e4 rp
  have s1 : sAsg (xFn m_law_rules (xaO 0 xaNil)) (gNm 1) [.o k, .u, .u, .u, .u, .u, .u, .u, .u] (St os k g []) = some (.nx [.o k, .d (rulesD r s b), .u, .u, .u, .u, .u, .u, .u] (St os k g1 [])) := by
    simp -implicitDefEqProofs only [a_asg, a_fn, a_o, a_nil, List.getElem?_cons_zero, slO_o, Option.map_some, Option.bind_some, e1, a_nm, List.set_cons_succ, List.set_cons_zero]
  have s2 : sAsg (xFn (asMN m_law_position) (xaO 0 (xaD (xVar 1) xaNil))) (gNm 2) [.o k, .d (rulesD r s b), .u, .u, .u, .u, .u, .u, .u] (St os k g1 []) = some (.nx [.o k, .d (rulesD r s b), .d P, .u, .u, .u, .u, .u, .u] (St os k g2 [])) := by
    simp -implicitDefEqProofs only [a_asg, a_fn, a_o, a_d, a_nil, a_var, List.getElem?_cons_zero, List.getElem?_cons_succ, slO_o, slD_d, Option.map_some, Option.bind_some, e2, a_nm, List.set_cons_succ, List.set_cons_zero]
  have s3 : sPar 4 5 (xCall reprD (xaD (xCall lstD (xaD (xVar 1) (xaD (xVar 2) xaNil))) xaNil)) (xC (.int 0)) [.o k, .d (rulesD r s b), .d P, .u, .u, .u, .u, .u, .u] (St os k g2 []) = some (.nx (uR k (rulesD r s b) P .u K .u .u .u) (St os k g2 [])) := by
    simp -implicitDefEqProofs only [a_par, a_call, a_d, a_nil, a_c, a_var, List.getElem?_cons_zero, List.getElem?_cons_succ, slD_d, Option.map_some, Option.bind_some, datas_d, datas_nil, lstD_2, rp, List.set_cons_succ, List.set_cons_zero]
  have s4 : sFor (iLst (xFn m_law_supermoves (xaD (xVar 1) (xaD (xVar 2) xaNil)))) (gNm 3) uB (uR k (rulesD r s b) P .u K .u .u .u) (St os k g2 []) = some (.nx (uR k (rulesD r s b) P z3 K z6 z7 z8) (St os k g2 [] ++ X)) := by
    have it : iLst (xFn m_law_supermoves (xaD (xVar 1) (xaD (xVar 2) xaNil))) (uR k (rulesD r s b) P .u K .u .u .u) (St os k g2 []) = some (S.map smD, St os k g2 []) := by
      simp -implicitDefEqProofs only [a_iLst, a_fn, a_d, a_nil, a_var, List.getElem?_cons_zero, List.getElem?_cons_succ, slD_d, Option.map_some, Option.bind_some, e3, listOf_list]
    rw [a_for, it, Option.bind_some]
    exact e4
  have s5 : sRet (xOp eqD (xCall reprD (xaD (xCall lstD (xaD (xVar 1) (xaD (xVar 2) xaNil))) xaNil)) (xVar 4)) (uR k (rulesD r s b) P z3 K z6 z7 z8) (St os k g2 [] ++ X) = some (.rt (.bool true) (St os k g2 [] ++ X)) := by
    have q : eqD (.str K) (.str K) = some (.bool true) := by rw [eqD_str]; simp
    simp -implicitDefEqProofs only [a_ret, a_op, a_call, a_d, a_nil, a_c, a_var, List.getElem?_cons_zero, List.getElem?_cons_succ, slD_d, Option.map_some, Option.bind_some, datas_d, datas_nil, lstD_2, rp, q]
  have bb : b_law_right [.o k, .u, .u, .u, .u, .u, .u, .u, .u] (St os k g []) = _ := seq_nx s1 (seq_nx s2 (seq_nx s3 (seq_nx s4 s5)))
  refine ⟨g2, ?_⟩
  have cu := cutW_app (w := X) tS
  have ln : (St os k g []).length = (St os k g2 []).length := by rw [st_len, st_len]
  unfold m_law_right
  rw [m_1]
  simp -implicitDefEqProofs only [List.reduceReplicate, Nat.reduceSub, bb, Option.bind_some, outM_rt, ln, cu, Option.map_some]
end
end Lw

set_option Elab.async false
set_option linter.all false
set_option maxRecDepth 100000
set_option maxHeartbeats 4000000
set_option exponentiation.threshold 3000
namespace Lw
open PySem PySem.Spec PyProof.Rows L2 Evl DL
section
variable {os : Os}
/-! the law's six turns -/
abbrev q0b : SE := (sIf (xNotT (xTruth (xFnN m_law_right (fFn m_law_generator (xaD (xVar 0) (xaD (xVar 1) xaNil))) xaNil))) (sRet (xC (.bool false))) sNext)
abbrev q0 : SE := (sFor (iRg (xaD (xC (.int 6)) xaNil)) (gNm 1) q0b)
abbrev e0 (ns : List Int) (y : Sl) : List Sl := [.d (.list (ns.map .int)), y, .u, .u, .u, .u, .u, .u, .u, .u, .u, .u, .u, .u, .u]
theorem st_end {g : List PyData} : St (os ++ [some (.l g)]) os.length g [] = os ++ [some (.l g)] := by
  unfold St
  rw [List.append_nil, List.set_append_right _ _ (Nat.le_refl _)]
  simp
theorem st_end2 {g g' : List PyData} : St (os ++ [some (.l g)]) os.length g' [] = os ++ [some (.l g')] := by
  unfold St
  rw [List.append_nil, List.set_append_right _ _ (Nat.le_refl _)]
  simp
theorem q0_turn (ns : List Int) {i : Nat} (hi : i < 6) (ht : Tidy os) : q0b (e0 ns (.d (.int (i : Int)))) os = some (.nx (e0 ns (.d (.int (i : Int)))) os) := by
  obtain ⟨g, h0, hg⟩ := generator_ok ns i os ht (by omega)
  have tG : Tidy (os ++ [some (.l g)]) := ht.l
  obtain ⟨g', h1⟩ := law_right_ok (os := os ++ [some (.l g)]) (k := os.length) tG (by simp) hg (by decide)
  rw [st_end, st_end2] at h1
  have cu := cutW_app (w := [some (.l g')]) ht
  have f0 : xFnN m_law_right (fFn m_law_generator (xaD (xVar 0) (xaD (xVar 1) xaNil))) xaNil (e0 ns (.d (.int (i : Int)))) os = some (.bool true, os) := by
    simp -implicitDefEqProofs only [a_fnN, a_ffn, a_d, a_var, a_nil, List.getElem?_cons_succ, List.getElem?_cons_zero, slD_d, Option.map_some, Option.bind_some, h0, h1, cu]
  have f1 : xNotT (xTruth (xFnN m_law_right (fFn m_law_generator (xaD (xVar 0) (xaD (xVar 1) xaNil))) xaNil)) (e0 ns (.d (.int (i : Int)))) os = some (false, os) := by
    rw [a_notT, a_truth, f0, Option.bind_some, truthD_bool]
    rfl
  exact if_no f1
theorem q0_run (ns : List Int) (ht : Tidy os) : ∀ (l : List Nat) (y : Sl), (∀ i ∈ l, i < 6) → ∃ z, forRun (gNm 1) q0b (l.map fun (i : Nat) => PyData.int (i : Int)) (e0 ns y) os = some (.nx (e0 ns z) os)
  | [], y, _ => ⟨y, rfl⟩
  | i :: l, y, h => by
    obtain ⟨z, e1⟩ := q0_run ns ht l (.d (.int (i : Int))) fun x hx => h x (by simp [hx])
    refine ⟨z, ?_⟩
    have g0 : gNm 1 (PyData.int (i : Int)) (e0 ns y) = some (e0 ns (.d (.int (i : Int)))) := rfl
    rw [List.map_cons, forRun, g0, Option.bind_some, q0_turn ns (h i (by simp)) ht]
    exact e1
theorem q0_ok (ns : List Int) : ∃ z, q0 (e0 ns .u) [] = some (.nx (e0 ns z) []) := by
  obtain ⟨z, e1⟩ := q0_run (os := []) ns (by rfl) [0, 1, 2, 3, 4, 5] .u (by decide)
  refine ⟨z, ?_⟩
  have it : iRg (xaD (xC (.int 6)) xaNil) (e0 ns .u) [] = some ([0, 1, 2, 3, 4, 5].map fun (i : Nat) => PyData.int (i : Int), []) := rfl
  unfold q0
  rw [a_for, it, Option.bind_some]
  exact e1
end
end Lw

set_option Elab.async false
set_option linter.all false
set_option maxRecDepth 100000
set_option maxHeartbeats 4000000
set_option exponentiation.threshold 3000
namespace Lw
open PySem PySem.Spec PyProof.Rows L2 Evl DL
abbrev C1 : List (List Card) := [[(13, 1), (12, 1), (11, 0), (10, 1), (9, 0), (8, 1), (7, 0), (6, 1), (5, 0), (4, 1), (3, 0), (2, 1), (1, 0)], [(13, 0)], [(12, 0), (11, 1), (10, 0), (9, 1), (8, 0), (7, 1)], [(8, 2), (9, 2), (10, 2), (11, 2), (12, 2), (13, 2), (7, 2)], [(11, 3), (12, 3), (13, 3), (10, 3)], [], [], [(6, 0), (5, 1), (4, 0), (3, 1), (2, 0)]]
abbrev K1 : List (Option Card) := [none, some (1, 1), none, none]
abbrev H1 : List Int := [0, 0, 6, 9]
abbrev C2 : List (List Card) := [[(9, 0)], [(8, 0), (7, 0), (6, 0), (5, 0), (4, 0), (3, 0), (2, 0), (1, 0)]]
abbrev K2 : List (Option Card) := [none, none, none, none, none, none, none]
abbrev C3 : List (List Card) := [[(9, 0)], [(8, 0), (7, 0), (6, 0), (5, 0), (4, 0), (3, 0), (2, 0), (1, 0)], [], [], [], [], [], [], []]
abbrev C4 : List (List Card) := [[(4, 0), (3, 1), (2, 0), (1, 1)], [(4, 1), (3, 0)], [], [(2, 1)]]
abbrev K4 : List (Option Card) := [none, some (1, 0)]
abbrev C5 : List (List Card) := [[(4, 0), (3, 0), (2, 0), (1, 0)], [(3, 1)], [(2, 1)], [(4, 1), (1, 1)]]
theorem rl1 : Rl 13 4 "other" := ⟨by decide, by decide, by decide, by decide, .inl rfl⟩
theorem rl2 : Rl 9 1 "same" := ⟨by decide, by decide, by decide, by decide, .inr (.inl rfl)⟩
theorem rl4 : Rl 4 2 "other" := ⟨by decide, by decide, by decide, by decide, .inl rfl⟩
theorem rl5 : Rl 4 2 "any" := ⟨by decide, by decide, by decide, by decide, .inr (.inr rfl)⟩
theorem rl6 : Rl 4 2 "same" := ⟨by decide, by decide, by decide, by decide, .inr (.inl rfl)⟩
theorem ps1 : Ps 13 4 C1 K1 H1 := ⟨by decide, by decide, by decide, rfl, by decide, by decide +kernel⟩
theorem ps2 : Ps 9 1 C2 K2 [0] := ⟨by decide, by decide, by decide, rfl, by decide, by decide +kernel⟩
theorem ps3 : Ps 9 1 C3 [] [0] := ⟨by decide, by decide, by decide, rfl, by decide, by decide +kernel⟩
theorem ps4 : Ps 4 2 C4 K4 [0, 0] := ⟨by decide, by decide, by decide, rfl, by decide, by decide +kernel⟩
theorem ps5 : Ps 4 2 C5 [] [0, 0] := ⟨by decide, by decide, by decide, rfl, by decide, by decide +kernel⟩
theorem sv1a : Sv "other" C1 0 1 12 := ⟨by decide, by decide, by decide, by decide, by decide +kernel⟩
theorem sv1b : Sv "other" C1 0 5 12 := ⟨by decide, by decide, by decide, by decide, by decide +kernel⟩
theorem sv2 : Sv "same" C2 1 0 8 := ⟨by decide, by decide, by decide, by decide, by decide +kernel⟩
theorem sv3a : Sv "same" C3 1 0 8 := ⟨by decide, by decide, by decide, by decide, by decide +kernel⟩
theorem sv3b : Sv "same" C3 1 5 3 := ⟨by decide, by decide, by decide, by decide, by decide +kernel⟩
theorem sv4a : Sv "other" C4 0 2 3 := ⟨by decide, by decide, by decide, by decide, by decide +kernel⟩
theorem sv4b : Sv "other" C4 0 1 1 := ⟨by decide, by decide, by decide, by decide, by decide +kernel⟩
theorem sv4c : Sv "other" C4 0 2 2 := ⟨by decide, by decide, by decide, by decide, by decide +kernel⟩
theorem sv4d : Sv "other" C4 3 1 1 := ⟨by decide, by decide, by decide, by decide, by decide +kernel⟩
theorem sv5a : Sv "any" C5 0 1 2 := ⟨by decide, by decide, by decide, by decide, by decide +kernel⟩
theorem sv5b : Sv "any" C5 3 2 1 := ⟨by decide, by decide, by decide, by decide, by decide +kernel⟩
theorem sv6 : Sv "same" C5 0 1 2 := ⟨by decide, by decide, by decide, by decide, by decide +kernel⟩
abbrev rmD (k : Str) (c e : Int) (ts : List Int) : PyData := .tuple [.str k, .tuple [.int c, .int e, .list (ts.map .int)]]
theorem room_val {b : Str} {cols : List (List Card)} {cells : List (Option Card)} {i j m : Nat} (k : Str) (c e : Nat) (ts : List Int) (h1 : kindS cols i j m = k) (h2 : freeC cells = c) (h3 : freeE cols = e) (h4 : topsL b cols i j m = ts) : roomL b cols cells i j m = rmD k (c : Int) (e : Int) ts := by
  unfold roomL
  rw [h1, h2, h3, h4]
theorem rv1a : roomL "other" C1 K1 0 1 12 = rmD "over" 3 2 [6, 9] := room_val _ 3 2 _ (by decide +kernel) (by decide +kernel) (by decide +kernel) (by decide +kernel)
theorem rv1b : roomL "other" C1 K1 0 5 12 = rmD "into" 3 2 [6, 9] := room_val _ 3 2 _ (by decide +kernel) (by decide +kernel) (by decide +kernel) (by decide +kernel)
theorem rv2 : roomL "same" C2 K2 1 0 8 = rmD "whole" 7 0 [] := room_val _ 7 0 _ (by decide +kernel) (by decide +kernel) (by decide +kernel) (by decide +kernel)
theorem rv3a : roomL "same" C3 [] 1 0 8 = rmD "whole" 0 7 [] := room_val _ 0 7 _ (by decide +kernel) (by decide +kernel) (by decide +kernel) (by decide +kernel)
theorem rv3b : roomL "same" C3 [] 1 5 3 = rmD "into" 0 7 [] := room_val _ 0 7 _ (by decide +kernel) (by decide +kernel) (by decide +kernel) (by decide +kernel)
theorem rv4a : roomL "other" C4 K4 0 2 3 = rmD "into" 1 1 [] := room_val _ 1 1 _ (by decide +kernel) (by decide +kernel) (by decide +kernel) (by decide +kernel)
theorem rv4c : roomL "other" C4 K4 0 2 2 = rmD "into" 1 1 [] := room_val _ 1 1 _ (by decide +kernel) (by decide +kernel) (by decide +kernel) (by decide +kernel)
theorem rv4d : roomL "other" C4 K4 3 1 1 = rmD "whole" 1 1 [] := room_val _ 1 1 _ (by decide +kernel) (by decide +kernel) (by decide +kernel) (by decide +kernel)
theorem rv5a : roomL "any" C5 [] 0 1 2 = rmD "over" 0 0 [1] := room_val _ 0 0 _ (by decide +kernel) (by decide +kernel) (by decide +kernel) (by decide +kernel)
theorem rv5b : roomL "any" C5 [] 3 2 1 = rmD "over" 0 0 [] := room_val _ 0 0 _ (by decide +kernel) (by decide +kernel) (by decide +kernel) (by decide +kernel)
theorem se1a : sens "other" C1 0 1 12 = true := by decide +kernel
theorem se1b : sens "other" C1 0 5 12 = true := by decide +kernel
theorem se2 : sens "same" C2 1 0 8 = true := by decide +kernel
theorem se3a : sens "same" C3 1 0 8 = true := by decide +kernel
theorem se3b : sens "same" C3 1 5 3 = true := by decide +kernel
theorem se4a : sens "other" C4 0 2 3 = true := by decide +kernel
theorem se4b : sens "other" C4 0 1 1 = false := by decide +kernel
theorem se4c : sens "other" C4 0 2 2 = true := by decide +kernel
theorem se4d : sens "other" C4 3 1 1 = true := by decide +kernel
theorem se5a : sens "any" C5 0 1 2 = true := by decide +kernel
theorem se5b : sens "any" C5 3 2 1 = true := by decide +kernel
theorem se6 : sens "same" C5 0 1 2 = false := by decide +kernel
end Lw

set_option Elab.async false
set_option linter.all false
set_option maxRecDepth 100000
set_option maxHeartbeats 4000000
set_option exponentiation.threshold 3000
namespace Lw
open PySem PySem.Spec PyProof.Rows L2 Evl DL
abbrev q1 : SE := (sAsg (xF (lcD (iRgN (xaD (xC (.int 12)) (xaD (xC (.int 0)) (xaD (xUn negD (xC (.int 1))) xaNil)))) (gNm 12) xYes (xCall tupD (xaD (xVar 12) (xaD (xCall intD (xaD (xOp eqD (xOp modD (xVar 12) (xC (.int 2))) (xC (.int 0))) xaNil)) xaNil))) [12])) (gNm 2))
abbrev q2 : SE := (sAsg (xCall lstD (xaD (xOp addD (xCall lstD (xaD (xCall tupD (xaD (xC (.int 13)) (xaD (xC (.int 1)) xaNil))) xaNil)) (xVar 2)) (xaD (xCall lstD (xaD (xCall tupD (xaD (xC (.int 13)) (xaD (xC (.int 0)) xaNil))) xaNil)) (xaD (xF (lcD (iRgN (xaD (xC (.int 12)) (xaD (xC (.int 6)) (xaD (xUn negD (xC (.int 1))) xaNil)))) (gNm 12) xYes (xCall tupD (xaD (xVar 12) (xaD (xCall intD (xaD (xOp eqD (xOp modD (xVar 12) (xC (.int 2))) (xC (.int 1))) xaNil)) xaNil))) [12])) xaNil)))) (gNm 3))
abbrev q3 : SE := (sAsg (xOp addD (xVar 3) (xCall lstD (xaD (xCall lstD (xaD (xCall tupD (xaD (xC (.int 8)) (xaD (xC (.int 2)) xaNil))) (xaD (xCall tupD (xaD (xC (.int 9)) (xaD (xC (.int 2)) xaNil))) (xaD (xCall tupD (xaD (xC (.int 10)) (xaD (xC (.int 2)) xaNil))) (xaD (xCall tupD (xaD (xC (.int 11)) (xaD (xC (.int 2)) xaNil))) (xaD (xCall tupD (xaD (xC (.int 12)) (xaD (xC (.int 2)) xaNil))) (xaD (xCall tupD (xaD (xC (.int 13)) (xaD (xC (.int 2)) xaNil))) (xaD (xCall tupD (xaD (xC (.int 7)) (xaD (xC (.int 2)) xaNil))) xaNil)))))))) (xaD (xCall lstD (xaD (xCall tupD (xaD (xC (.int 11)) (xaD (xC (.int 3)) xaNil))) (xaD (xCall tupD (xaD (xC (.int 12)) (xaD (xC (.int 3)) xaNil))) (xaD (xCall tupD (xaD (xC (.int 13)) (xaD (xC (.int 3)) xaNil))) (xaD (xCall tupD (xaD (xC (.int 10)) (xaD (xC (.int 3)) xaNil))) xaNil))))) xaNil)))) (gNm 3))
abbrev q4 : SE := (sAsg (xOp addD (xVar 3) (xCall lstD (xaD (xCall lstD xaNil) (xaD (xCall lstD xaNil) (xaD (xF (lcD (iRgN (xaD (xC (.int 6)) (xaD (xC (.int 1)) (xaD (xUn negD (xC (.int 1))) xaNil)))) (gNm 12) xYes (xCall tupD (xaD (xVar 12) (xaD (xCall intD (xaD (xOp eqD (xOp modD (xVar 12) (xC (.int 2))) (xC (.int 1))) xaNil)) xaNil))) [12])) xaNil))))) (gNm 3))
abbrev q5 : SE := (sAsg (xCall tupD (xaD (xVar 3) (xaD (xCall lstD (xaD (xC .none) (xaD (xCall tupD (xaD (xC (.int 1)) (xaD (xC (.int 1)) xaNil))) (xaD (xC .none) (xaD (xC .none) xaNil))))) (xaD (xCall lstD (xaD (xC (.int 0)) (xaD (xC (.int 0)) (xaD (xC (.int 6)) (xaD (xC (.int 9)) xaNil))))) xaNil)))) (gNm 4))
abbrev q7 : SE := (sPar 10 11 (xCall tupD (xaD (xC (.int 9)) (xaD (xC (.int 1)) (xaD (xC (.str "same")) xaNil)))) (xCall tupD (xaD (xCall lstD (xaD (xCall lstD (xaD (xCall tupD (xaD (xC (.int 9)) (xaD (xC (.int 0)) xaNil))) xaNil)) (xaD (xF (lcD (iRgN (xaD (xC (.int 8)) (xaD (xC (.int 0)) (xaD (xUn negD (xC (.int 1))) xaNil)))) (gNm 12) xYes (xCall tupD (xaD (xVar 12) (xaD (xC (.int 0)) xaNil))) [12])) xaNil))) (xaD (xF (fRep (fLst (xaD (xC .none) xaNil)) (xC (.int 7)))) (xaD (xCall lstD (xaD (xC (.int 0)) xaNil)) xaNil)))))
abbrev q8 : SE := (sAsg (xCall tupD (xaD (xCall lstD (xaD (xCall lstD (xaD (xCall tupD (xaD (xC (.int 9)) (xaD (xC (.int 0)) xaNil))) xaNil)) (xaD (xF (lcD (iRgN (xaD (xC (.int 8)) (xaD (xC (.int 0)) (xaD (xUn negD (xC (.int 1))) xaNil)))) (gNm 12) xYes (xCall tupD (xaD (xVar 12) (xaD (xC (.int 0)) xaNil))) [12])) (xaD (xCall lstD xaNil) (xaD (xCall lstD xaNil) (xaD (xCall lstD xaNil) (xaD (xCall lstD xaNil) (xaD (xCall lstD xaNil) (xaD (xCall lstD xaNil) (xaD (xCall lstD xaNil) xaNil)))))))))) (xaD (xCall lstD xaNil) (xaD (xCall lstD (xaD (xC (.int 0)) xaNil)) xaNil)))) (gNm 5))
abbrev q10 : SE := (sAsg (xCall tupD (xaD (xC (.int 4)) (xaD (xC (.int 2)) (xaD (xC (.str "other")) xaNil)))) (gNm 6))
abbrev q11 : SE := (sAsg (xCall tupD (xaD (xCall lstD (xaD (xCall lstD (xaD (xCall tupD (xaD (xC (.int 4)) (xaD (xC (.int 0)) xaNil))) (xaD (xCall tupD (xaD (xC (.int 3)) (xaD (xC (.int 1)) xaNil))) (xaD (xCall tupD (xaD (xC (.int 2)) (xaD (xC (.int 0)) xaNil))) (xaD (xCall tupD (xaD (xC (.int 1)) (xaD (xC (.int 1)) xaNil))) xaNil))))) (xaD (xCall lstD (xaD (xCall tupD (xaD (xC (.int 4)) (xaD (xC (.int 1)) xaNil))) (xaD (xCall tupD (xaD (xC (.int 3)) (xaD (xC (.int 0)) xaNil))) xaNil))) (xaD (xCall lstD xaNil) (xaD (xCall lstD (xaD (xCall tupD (xaD (xC (.int 2)) (xaD (xC (.int 1)) xaNil))) xaNil)) xaNil))))) (xaD (xCall lstD (xaD (xC .none) (xaD (xCall tupD (xaD (xC (.int 1)) (xaD (xC (.int 0)) xaNil))) xaNil))) (xaD (xCall lstD (xaD (xC (.int 0)) (xaD (xC (.int 0)) xaNil))) xaNil)))) (gNm 7))
abbrev q14 : SE := (sAsg (xCall tupD (xaD (xCall lstD (xaD (xCall lstD (xaD (xCall tupD (xaD (xC (.int 4)) (xaD (xC (.int 0)) xaNil))) (xaD (xCall tupD (xaD (xC (.int 3)) (xaD (xC (.int 0)) xaNil))) (xaD (xCall tupD (xaD (xC (.int 2)) (xaD (xC (.int 0)) xaNil))) (xaD (xCall tupD (xaD (xC (.int 1)) (xaD (xC (.int 0)) xaNil))) xaNil))))) (xaD (xCall lstD (xaD (xCall tupD (xaD (xC (.int 3)) (xaD (xC (.int 1)) xaNil))) xaNil)) (xaD (xCall lstD (xaD (xCall tupD (xaD (xC (.int 2)) (xaD (xC (.int 1)) xaNil))) xaNil)) (xaD (xCall lstD (xaD (xCall tupD (xaD (xC (.int 4)) (xaD (xC (.int 1)) xaNil))) (xaD (xCall tupD (xaD (xC (.int 1)) (xaD (xC (.int 1)) xaNil))) xaNil))) xaNil))))) (xaD (xCall lstD xaNil) (xaD (xCall lstD (xaD (xC (.int 0)) (xaD (xC (.int 0)) xaNil))) xaNil)))) (gNm 9))
section
variable {ns : List Int} {z : Sl}
abbrev L0 (ns : List Int) : Sl := .d (.list (ns.map .int))
abbrev P1 : PyData := posD C1 K1 H1
abbrev P2 : PyData := posD C2 K2 [0]
abbrev P3 : PyData := posD C3 [] [0]
abbrev P4 : PyData := posD C4 K4 [0, 0]
abbrev P5 : PyData := posD C5 [] [0, 0]
abbrev R1 : PyData := colD [(12, 1), (11, 0), (10, 1), (9, 0), (8, 1), (7, 0), (6, 1), (5, 0), (4, 1), (3, 0), (2, 1), (1, 0)]
theorem q1_ok : q1 [L0 ns, z, .u, .u, .u, .u, .u, .u, .u, .u, .u, .u, .u, .u, .u] [] = some (.nx [L0 ns, z, .d R1, .u, .u, .u, .u, .u, .u, .u, .u, .u, .u, .u, .u] []) := by kernel_rfl
theorem q2_ok : q2 [L0 ns, z, .d R1, .u, .u, .u, .u, .u, .u, .u, .u, .u, .u, .u, .u] [] = some (.nx [L0 ns, z, .d R1, .d (.list ((C1.take 3).map colD)), .u, .u, .u, .u, .u, .u, .u, .u, .u, .u, .u] []) := by kernel_rfl
theorem q3_ok : q3 [L0 ns, z, .d R1, .d (.list ((C1.take 3).map colD)), .u, .u, .u, .u, .u, .u, .u, .u, .u, .u, .u] [] = some (.nx [L0 ns, z, .d R1, .d (.list ((C1.take 5).map colD)), .u, .u, .u, .u, .u, .u, .u, .u, .u, .u, .u] []) := by kernel_rfl
theorem q4_ok : q4 [L0 ns, z, .d R1, .d (.list ((C1.take 5).map colD)), .u, .u, .u, .u, .u, .u, .u, .u, .u, .u, .u] [] = some (.nx [L0 ns, z, .d R1, .d (.list (C1.map colD)), .u, .u, .u, .u, .u, .u, .u, .u, .u, .u, .u] []) := by kernel_rfl
theorem q5_ok : q5 [L0 ns, z, .d R1, .d (.list (C1.map colD)), .u, .u, .u, .u, .u, .u, .u, .u, .u, .u, .u] [] = some (.nx [L0 ns, z, .d R1, .d (.list (C1.map colD)), .d P1, .u, .u, .u, .u, .u, .u, .u, .u, .u, .u] []) := by kernel_rfl
variable {r1 c1 : Sl}
theorem q7_ok {a : Sl} : q7 [L0 ns, z, r1, c1, .d P1, .u, .u, .u, .u, .u, .u, .u, .u, .u, a] [] = some (.nx [L0 ns, z, r1, c1, .d P1, .u, .u, .u, .u, .u, .d (rulesD 9 1 "same"), .d P2, .u, .u, a] []) := by kernel_rfl
theorem q8_ok {a : Sl} : q8 [L0 ns, z, r1, c1, .d P1, .u, .u, .u, .u, .u, .d (rulesD 9 1 "same"), .d P2, .u, .u, a] [] = some (.nx [L0 ns, z, r1, c1, .d P1, .d P3, .u, .u, .u, .u, .d (rulesD 9 1 "same"), .d P2, .u, .u, a] []) := by kernel_rfl
theorem q10_ok {a : Sl} : q10 [L0 ns, z, r1, c1, .d P1, .d P3, .u, .u, .u, .u, .d (rulesD 9 1 "same"), .d P2, .u, .u, a] [] = some (.nx [L0 ns, z, r1, c1, .d P1, .d P3, .d (rulesD 4 2 "other"), .u, .u, .u, .d (rulesD 9 1 "same"), .d P2, .u, .u, a] []) := by kernel_rfl
theorem q11_ok {a : Sl} : q11 [L0 ns, z, r1, c1, .d P1, .d P3, .d (rulesD 4 2 "other"), .u, .u, .u, .d (rulesD 9 1 "same"), .d P2, .u, .u, a] [] = some (.nx [L0 ns, z, r1, c1, .d P1, .d P3, .d (rulesD 4 2 "other"), .d P4, .u, .u, .d (rulesD 9 1 "same"), .d P2, .u, .u, a] []) := by kernel_rfl
theorem q14_ok {a b d : Sl} : q14 [L0 ns, z, r1, c1, .d P1, .d P3, .d (rulesD 4 2 "other"), .d P4, b, .u, .d (rulesD 9 1 "same"), .d P2, .u, d, a] [] = some (.nx [L0 ns, z, r1, c1, .d P1, .d P3, .d (rulesD 4 2 "other"), .d P4, b, .d P5, .d (rulesD 9 1 "same"), .d P2, .u, d, a] []) := by kernel_rfl
end
end Lw

set_option Elab.async false
set_option linter.all false
set_option maxRecDepth 100000
set_option maxHeartbeats 4000000
set_option exponentiation.threshold 3000
namespace Lw
open PySem PySem.Spec PyProof.Rows L2 Evl DL
abbrev q6 : SE := (sIf (xBool (xOp neD (xF (lcD (iLst (xCall lstD (xaD (xC (.int 1)) (xaD (xC (.int 5)) xaNil)))) (gNm 14) xYes (xFn (asMN m_room_of) (xaD (xCall tupD (xaD (xC (.int 13)) (xaD (xC (.int 4)) (xaD (xC (.str "other")) xaNil)))) (xaD (xVar 4) (xaD (xCall tupD (xaD (xC (.int 0)) (xaD (xVar 14) (xaD (xC (.int 12)) xaNil)))) xaNil)))) [14])) (xCall lstD (xaD (xCall tupD (xaD (xC (.str "over")) (xaD (xCall tupD (xaD (xC (.int 3)) (xaD (xC (.int 2)) (xaD (xCall lstD (xaD (xC (.int 6)) (xaD (xC (.int 9)) xaNil))) xaNil)))) xaNil))) (xaD (xCall tupD (xaD (xC (.str "into")) (xaD (xCall tupD (xaD (xC (.int 3)) (xaD (xC (.int 2)) (xaD (xCall lstD (xaD (xC (.int 6)) (xaD (xC (.int 9)) xaNil))) xaNil)))) xaNil))) xaNil))))) (sRet (xC (.bool false))) sNext)
abbrev q9 : SE := (sIf (xBool (xOp neD (xCall reprD (xaD (xCall lstD (xaD (xFn (asMN m_room_of) (xaD (xVar 10) (xaD (xVar 11) (xaD (xCall tupD (xaD (xC (.int 1)) (xaD (xC (.int 0)) (xaD (xC (.int 8)) xaNil)))) xaNil)))) (xaD (xFn (asMN m_room_of) (xaD (xVar 10) (xaD (xVar 5) (xaD (xCall tupD (xaD (xC (.int 1)) (xaD (xC (.int 0)) (xaD (xC (.int 8)) xaNil)))) xaNil)))) (xaD (xFn (asMN m_room_of) (xaD (xVar 10) (xaD (xVar 5) (xaD (xCall tupD (xaD (xC (.int 1)) (xaD (xC (.int 5)) (xaD (xC (.int 3)) xaNil)))) xaNil)))) xaNil)))) xaNil)) (xCall reprD (xaD (xCall lstD (xaD (xCall tupD (xaD (xC (.str "whole")) (xaD (xCall tupD (xaD (xC (.int 7)) (xaD (xC (.int 0)) (xaD (xCall lstD xaNil) xaNil)))) xaNil))) (xaD (xCall tupD (xaD (xC (.str "whole")) (xaD (xCall tupD (xaD (xC (.int 0)) (xaD (xC (.int 7)) (xaD (xCall lstD xaNil) xaNil)))) xaNil))) (xaD (xCall tupD (xaD (xC (.str "into")) (xaD (xCall tupD (xaD (xC (.int 0)) (xaD (xC (.int 7)) (xaD (xCall lstD xaNil) xaNil)))) xaNil))) xaNil)))) xaNil)))) (sRet (xC (.bool false))) sNext)
abbrev q12 : SE := (sAsg (xF (lcD (iLst (xCall lstD (xaD (xCall tupD (xaD (xC (.int 0)) (xaD (xC (.int 2)) (xaD (xC (.int 3)) xaNil)))) (xaD (xCall tupD (xaD (xC (.int 0)) (xaD (xC (.int 1)) (xaD (xC (.int 1)) xaNil)))) (xaD (xCall tupD (xaD (xC (.int 0)) (xaD (xC (.int 2)) (xaD (xC (.int 2)) xaNil)))) (xaD (xCall tupD (xaD (xC (.int 3)) (xaD (xC (.int 1)) (xaD (xC (.int 1)) xaNil)))) xaNil)))))) (gNm 13) (xTruth (xFn m_is_sensible (xaD (xVar 6) (xaD (xVar 7) (xaD (xVar 13) xaNil))))) (xFn (asMN m_room_of) (xaD (xVar 6) (xaD (xVar 7) (xaD (xVar 13) xaNil)))) [13])) (gNm 8))
abbrev q13 : SE := (sIf (xBool (xOp neD (xVar 8) (xCall lstD (xaD (xCall tupD (xaD (xC (.str "into")) (xaD (xCall tupD (xaD (xC (.int 1)) (xaD (xC (.int 1)) (xaD (xCall lstD xaNil) xaNil)))) xaNil))) (xaD (xCall tupD (xaD (xC (.str "into")) (xaD (xCall tupD (xaD (xC (.int 1)) (xaD (xC (.int 1)) (xaD (xCall lstD xaNil) xaNil)))) xaNil))) (xaD (xCall tupD (xaD (xC (.str "whole")) (xaD (xCall tupD (xaD (xC (.int 1)) (xaD (xC (.int 1)) (xaD (xCall lstD xaNil) xaNil)))) xaNil))) xaNil)))))) (sRet (xC (.bool false))) sNext)
abbrev q15 : SE := (sIf (xOrT (xBool (xOp neD (xFn (asMN m_room_of) (xaD (xCall tupD (xaD (xC (.int 4)) (xaD (xC (.int 2)) (xaD (xC (.str "any")) xaNil)))) (xaD (xVar 9) (xaD (xCall tupD (xaD (xC (.int 0)) (xaD (xC (.int 1)) (xaD (xC (.int 2)) xaNil)))) xaNil)))) (xCall tupD (xaD (xC (.str "over")) (xaD (xCall tupD (xaD (xC (.int 0)) (xaD (xC (.int 0)) (xaD (xCall lstD (xaD (xC (.int 1)) xaNil)) xaNil)))) xaNil))))) (xBool (xOp (isD true) (xFn m_is_sensible (xaD (xCall tupD (xaD (xC (.int 4)) (xaD (xC (.int 2)) (xaD (xC (.str "any")) xaNil)))) (xaD (xVar 9) (xaD (xCall tupD (xaD (xC (.int 3)) (xaD (xC (.int 2)) (xaD (xC (.int 1)) xaNil)))) xaNil)))) (xC (.bool true))))) (sRet (xC (.bool false))) sNext)
abbrev q16 : SE := (sRet (xAndV (xOp eqD (xFn (asMN m_room_of) (xaD (xCall tupD (xaD (xC (.int 4)) (xaD (xC (.int 2)) (xaD (xC (.str "any")) xaNil)))) (xaD (xVar 9) (xaD (xCall tupD (xaD (xC (.int 3)) (xaD (xC (.int 2)) (xaD (xC (.int 1)) xaNil)))) xaNil)))) (xCall tupD (xaD (xC (.str "over")) (xaD (xCall tupD (xaD (xC (.int 0)) (xaD (xC (.int 0)) (xaD (xCall lstD xaNil) xaNil)))) xaNil)))) (xOp (isD false) (xFn m_is_sensible (xaD (xCall tupD (xaD (xC (.int 4)) (xaD (xC (.int 2)) (xaD (xC (.str "same")) xaNil)))) (xaD (xVar 9) (xaD (xCall tupD (xaD (xC (.int 0)) (xaD (xC (.int 1)) (xaD (xC (.int 2)) xaNil)))) xaNil)))) (xC (.bool false)))))
theorem fn_val {M : XM} {ra : XA} {ρ : List Sl} {as : List Sl} {v : PyData} (ha : ra ρ [] = some (as, [])) (e : M as [] = some (v, [])) : xFn M ra ρ [] = some (v, []) := by
  rw [a_fn, ha]
  exact e
theorem ne_no {A B : XE} {ρ : List Sl} {v : PyData} (h1 : A ρ [] = some (v, [])) (h2 : B ρ [] = some (v, [])) (n : neD v v = some (.bool false)) : xBool (xOp neD A B) ρ [] = some (false, []) := by
  rw [a_bool, a_op, h1, Option.bind_some, h2, Option.bind_some, n]
  rfl
theorem t0 : Tidy ([] : Os) := rfl
section
variable {ns : List Int} {z r1 c1 : Sl}
abbrev V6 : PyData := .list [rmD "over" 3 2 [6, 9], rmD "into" 3 2 [6, 9]]
theorem m1a : asMN m_room_of [.d (rulesD 13 4 "other"), .d P1, .d (supD (0, 1, 12))] [] = some (rmD "over" 3 2 [6, 9], []) := by
  have e := room_of_data (os := []) t0 rl1 ps1 sv1a se1a
  rw [rv1a] at e
  exact e
theorem m1b : asMN m_room_of [.d (rulesD 13 4 "other"), .d P1, .d (supD (0, 5, 12))] [] = some (rmD "into" 3 2 [6, 9], []) := by
  have e := room_of_data (os := []) t0 rl1 ps1 sv1b se1b
  rw [rv1b] at e
  exact e
theorem m2 : asMN m_room_of [.d (rulesD 9 1 "same"), .d P2, .d (supD (1, 0, 8))] [] = some (rmD "whole" 7 0 [], []) := by
  have e := room_of_data (os := []) t0 rl2 ps2 sv2 se2
  rw [rv2] at e
  exact e
theorem m3a : asMN m_room_of [.d (rulesD 9 1 "same"), .d P3, .d (supD (1, 0, 8))] [] = some (rmD "whole" 0 7 [], []) := by
  have e := room_of_data (os := []) t0 rl2 ps3 sv3a se3a
  rw [rv3a] at e
  exact e
theorem m3b : asMN m_room_of [.d (rulesD 9 1 "same"), .d P3, .d (supD (1, 5, 3))] [] = some (rmD "into" 0 7 [], []) := by
  have e := room_of_data (os := []) t0 rl2 ps3 sv3b se3b
  rw [rv3b] at e
  exact e
theorem m5a : asMN m_room_of [.d (rulesD 4 2 "any"), .d P5, .d (supD (0, 1, 2))] [] = some (rmD "over" 0 0 [1], []) := by
  have e := room_of_data (os := []) t0 rl5 ps5 sv5a se5a
  rw [rv5a] at e
  exact e
theorem m5b : asMN m_room_of [.d (rulesD 4 2 "any"), .d P5, .d (supD (3, 2, 1))] [] = some (rmD "over" 0 0 [], []) := by
  have e := room_of_data (os := []) t0 rl5 ps5 sv5b se5b
  rw [rv5b] at e
  exact e
theorem m5c : m_is_sensible [.d (rulesD 4 2 "any"), .d P5, .d (supD (3, 2, 1))] [] = some (.bool true, []) := by
  have e := sensible_ok (os := []) t0 rl5 ps5 sv5b
  rw [se5b] at e
  exact e
theorem m6 : m_is_sensible [.d (rulesD 4 2 "same"), .d P5, .d (supD (0, 1, 2))] [] = some (.bool false, []) := by
  have e := sensible_ok (os := []) t0 rl6 ps5 sv6
  rw [se6] at e
  exact e
theorem q6_ok : q6 [L0 ns, z, r1, c1, .d P1, .u, .u, .u, .u, .u, .u, .u, .u, .u, .u] [] = some (.nx [L0 ns, z, r1, c1, .d P1, .u, .u, .u, .u, .u, .u, .u, .u, .u, .u] []) := by
  refine if_no (ne_no (v := V6) ?_ (by kernel_rfl) (by kernel_rfl))
  rw [a_F, lcD_all (l := ([1, 5] : List Int)) (f := PyData.int) (h := fun n => rmD (if n = 1 then "over" else "into") 3 2 [6, 9]) (by kernel_rfl) (fun n hn => by
    simp only [List.mem_cons, List.not_mem_nil, or_false] at hn
    rcases hn with rfl | rfl
    · exact ⟨[L0 ns, z, r1, c1, .d P1, .u, .u, .u, .u, .u, .u, .u, .u, .u, .d (.int 1)], rfl, fn_val (as := [.d (rulesD 13 4 "other"), .d P1, .d (supD (0, 1, 12))]) (by kernel_rfl) m1a⟩
    · exact ⟨[L0 ns, z, r1, c1, .d P1, .u, .u, .u, .u, .u, .u, .u, .u, .u, .d (.int 5)], rfl, fn_val (as := [.d (rulesD 13 4 "other"), .d P1, .d (supD (0, 5, 12))]) (by kernel_rfl) m1b⟩) (by decide)]
  rfl
abbrev V9 : PyData := .list [rmD "whole" 7 0 [], rmD "whole" 0 7 [], rmD "into" 0 7 []]
theorem q9_ok {a : Sl} {ρ : List Sl} (hρ : ρ = [L0 ns, z, r1, c1, .d P1, .d P3, .u, .u, .u, .u, .d (rulesD 9 1 "same"), .d P2, .u, .u, a]) : q9 ρ [] = some (.nx ρ []) := by
  subst hρ
  have rp : reprD [V9] = some (.str V9.shown) := by kernel_rfl
  have x1 : ∀ {ra : XA}, ra [L0 ns, z, r1, c1, .d P1, .d P3, .u, .u, .u, .u, .d (rulesD 9 1 "same"), .d P2, .u, .u, a] [] = some ([.d (rulesD 9 1 "same"), .d P2, .d (supD (1, 0, 8))], []) → xFn (asMN m_room_of) ra [L0 ns, z, r1, c1, .d P1, .d P3, .u, .u, .u, .u, .d (rulesD 9 1 "same"), .d P2, .u, .u, a] [] = some (rmD "whole" 7 0 [], []) := fun h => fn_val h m2
  have x2 : ∀ {ra : XA}, ra [L0 ns, z, r1, c1, .d P1, .d P3, .u, .u, .u, .u, .d (rulesD 9 1 "same"), .d P2, .u, .u, a] [] = some ([.d (rulesD 9 1 "same"), .d P3, .d (supD (1, 0, 8))], []) → xFn (asMN m_room_of) ra [L0 ns, z, r1, c1, .d P1, .d P3, .u, .u, .u, .u, .d (rulesD 9 1 "same"), .d P2, .u, .u, a] [] = some (rmD "whole" 0 7 [], []) := fun h => fn_val h m3a
  have x3 : ∀ {ra : XA}, ra [L0 ns, z, r1, c1, .d P1, .d P3, .u, .u, .u, .u, .d (rulesD 9 1 "same"), .d P2, .u, .u, a] [] = some ([.d (rulesD 9 1 "same"), .d P3, .d (supD (1, 5, 3))], []) → xFn (asMN m_room_of) ra [L0 ns, z, r1, c1, .d P1, .d P3, .u, .u, .u, .u, .d (rulesD 9 1 "same"), .d P2, .u, .u, a] [] = some (rmD "into" 0 7 [], []) := fun h => fn_val h m3b
  refine if_no (ne_no (v := .str V9.shown) ?_ (by kernel_rfl) (by rw [neD_str]; simp))
  rw [a_call, a_d, a_call, a_d, x1 (by kernel_rfl), Option.bind_some, a_d, x2 (by kernel_rfl), Option.bind_some, a_d, x3 (by kernel_rfl), Option.bind_some, a_nil]
  kernel_rfl
abbrev V12 : PyData := .list [rmD "into" 1 1 [], rmD "into" 1 1 [], rmD "whole" 1 1 []]
theorem q13_ok {a d : Sl} {ρ : List Sl} (hρ : ρ = [L0 ns, z, r1, c1, .d P1, .d P3, .d (rulesD 4 2 "other"), .d P4, .d V12, .u, .d (rulesD 9 1 "same"), .d P2, .u, d, a]) : q13 ρ [] = some (.nx ρ []) := by
  subst hρ
  exact if_no (ne_no (v := V12) (by kernel_rfl) (by kernel_rfl) (by kernel_rfl))
abbrev S4 : List Sm := [(0, 2, 3), (0, 1, 1), (0, 2, 2), (3, 1, 1)]
theorem q12_ok {a : Sl} : q12 [L0 ns, z, r1, c1, .d P1, .d P3, .d (rulesD 4 2 "other"), .d P4, .u, .u, .d (rulesD 9 1 "same"), .d P2, .u, .u, a] [] = some (.nx [L0 ns, z, r1, c1, .d P1, .d P3, .d (rulesD 4 2 "other"), .d P4, .d V12, .u, .d (rulesD 9 1 "same"), .d P2, .u, .u, a] []) := by
  have all : ∀ q ∈ S4, Sv "other" C4 q.1 q.2.1 q.2.2 := fun q hq => by
    simp only [List.mem_cons, List.not_mem_nil, or_false] at hq
    rcases hq with rfl | rfl | rfl | rfl
    · exact sv4a
    · exact sv4b
    · exact sv4c
    · exact sv4d
  have fl : S4.filter (fun q => sens "other" C4 q.1 q.2.1 q.2.2) = [(0, 2, 3), (0, 2, 2), (3, 1, 1)] := by decide +kernel
  have l := lcD_pure (xg := gNm 13) (vs := [13]) (f := smD) (l := S4) (os := ([] : Os)) (ρ := [L0 ns, z, r1, c1, .d P1, .d P3, .d (rulesD 4 2 "other"), .d P4, .u, .u, .d (rulesD 9 1 "same"), .d P2, .u, .u, a])
    (xi := (iLst (xCall lstD (xaD (xCall tupD (xaD (xC (.int 0)) (xaD (xC (.int 2)) (xaD (xC (.int 3)) xaNil)))) (xaD (xCall tupD (xaD (xC (.int 0)) (xaD (xC (.int 1)) (xaD (xC (.int 1)) xaNil)))) (xaD (xCall tupD (xaD (xC (.int 0)) (xaD (xC (.int 2)) (xaD (xC (.int 2)) xaNil)))) (xaD (xCall tupD (xaD (xC (.int 3)) (xaD (xC (.int 1)) (xaD (xC (.int 1)) xaNil)))) xaNil)))))))
    (tt := (xTruth (xFn m_is_sensible (xaD (xVar 6) (xaD (xVar 7) (xaD (xVar 13) xaNil)))))) (te := (xFn (asMN m_room_of) (xaD (xVar 6) (xaD (xVar 7) (xaD (xVar 13) xaNil))))) (p := fun q => sens "other" C4 q.1 q.2.1 q.2.2) (h := fun q => roomL "other" C4 K4 q.1 q.2.1 q.2.2) (by kernel_rfl) (fun q hq => by
      have v := all q hq
      refine ⟨[L0 ns, z, r1, c1, .d P1, .d P3, .d (rulesD 4 2 "other"), .d P4, .u, .u, .d (rulesD 9 1 "same"), .d P2, .u, .d (smD q), a], rfl, ?_, fun hs => ?_⟩
      · rw [a_truth, fn_val (as := [.d (rulesD 4 2 "other"), .d P4, .d (smD q)]) (by rfl) (sensible_ok (os := []) t0 rl4 ps4 v), Option.bind_some, truthD_bool]
        rfl
      · exact fn_val (as := [.d (rulesD 4 2 "other"), .d P4, .d (smD q)]) (by rfl) (room_of_data (os := []) t0 rl4 ps4 v hs)) (by decide)
  rw [fl, List.map_cons, List.map_cons, List.map_cons, rv4a, rv4c, rv4d] at l
  unfold q12
  rw [a_asg, a_F, l]
  rfl
theorem q15_ok {a d b : Sl} {ρ : List Sl} (hρ : ρ = [L0 ns, z, r1, c1, .d P1, .d P3, .d (rulesD 4 2 "other"), .d P4, b, .d P5, .d (rulesD 9 1 "same"), .d P2, .u, d, a]) : q15 ρ [] = some (.nx ρ []) := by
  subst hρ
  refine if_no ?_
  rw [a_orT, ne_no (v := rmD "over" 0 0 [1]) (fn_val (as := [.d (rulesD 4 2 "any"), .d P5, .d (supD (0, 1, 2))]) (by kernel_rfl) m5a) (by kernel_rfl) (by kernel_rfl), Option.bind_some]
  simp only [Bool.false_eq_true, if_false]
  rw [a_bool, a_op, fn_val (as := [.d (rulesD 4 2 "any"), .d P5, .d (supD (3, 2, 1))]) (by kernel_rfl) m5c]
  rfl
theorem q16_ok {a d b : Sl} {ρ : List Sl} (hρ : ρ = [L0 ns, z, r1, c1, .d P1, .d P3, .d (rulesD 4 2 "other"), .d P4, b, .d P5, .d (rulesD 9 1 "same"), .d P2, .u, d, a]) : q16 ρ [] = some (.rt (.bool true) []) := by
  subst hρ
  have q2 : eqD (rmD "over" 0 0 []) (rmD "over" 0 0 []) = some (.bool true) := by kernel_rfl
  unfold q16
  rw [a_ret, a_andV, a_op, fn_val (as := [.d (rulesD 4 2 "any"), .d P5, .d (supD (3, 2, 1))]) (by kernel_rfl) m5b, Option.bind_some]
  have k : ∀ {ρ : List Sl}, (xCall tupD (xaD (xC (.str "over")) (xaD (xCall tupD (xaD (xC (.int 0)) (xaD (xC (.int 0)) (xaD (xCall lstD xaNil) xaNil)))) xaNil))) ρ [] = some (rmD "over" 0 0 [], []) := by intro ρ; kernel_rfl
  rw [k, Option.bind_some, q2]
  simp -implicitDefEqProofs only [Option.map_some, Option.bind_some, boolOf_bool, truthD_bool, if_true]
  rw [a_op, fn_val (as := [.d (rulesD 4 2 "same"), .d P5, .d (supD (0, 1, 2))]) (by kernel_rfl) m6]
  rfl
end
theorem law_true (ns : List Int) (_hl : ns.length ≤ 63) : ∃ w', m_law [.d (.list (ns.map PyData.int))] [] = some (.bool true, w') := by
  obtain ⟨z, s0⟩ := q0_ok ns
  have b : b_law [.d (.list (ns.map .int)), .u, .u, .u, .u, .u, .u, .u, .u, .u, .u, .u, .u, .u, .u] [] = some (.rt (.bool true) []) := seq_nx s0 (seq_nx q1_ok (seq_nx q2_ok (seq_nx q3_ok (seq_nx q4_ok (seq_nx q5_ok (seq_nx q6_ok (seq_nx q7_ok (seq_nx q8_ok (seq_nx (q9_ok rfl) (seq_nx q10_ok (seq_nx q11_ok (seq_nx q12_ok (seq_nx (q13_ok rfl) (seq_nx q14_ok (seq_nx (q15_ok rfl) (q16_ok rfl))))))))))))))))
  unfold m_law
  rw [m_1]
  refine ⟨[], ?_⟩
  simp -implicitDefEqProofs only [List.reduceReplicate, Nat.reduceSub, b, Option.bind_some, outM_rt]
  rfl
end Lw

open PySem PySem.W PyProof.Rows
set_option maxRecDepth 100000 in
set_option maxHeartbeats 0 in
theorem PySem.Challenge.cw_supermoves_k41_whole_rooms_of_supermoves_holds : PySem.Challenge.rw_supermoves_k41_whole_rooms_of_supermoves.Holds := by
  w_on; o_law; k_head; (case hw => w_witness2)
  k_fill
  refine DL.walk_g (l := PySem.Challenge.rw_supermoves_k41_whole_rooms_of_supermoves) (n := 63) (k := 12) (x := "script") (M := Lw.m_law) rfl (by decide) rfl ⟨⟨rfl, by decide, by decide⟩, rfl⟩ (fun w h Y => PySem.W.kIn_of Y) ?F Lw.law_true
  case F =>
    intro w mg fa h KX G hmg
    refine' Lw.all_mk KX G hmg ?a0 ?l0 ?c0 ?k0 ?a1 ?l1 ?c1 ?k1 ?a2 ?l2 ?c2 ?k2 ?a3 ?l3 ?c3 ?k3 ?a4 ?l4 ?c4 ?k4 ?a5 ?l5 ?c5 ?k5 ?a6 ?l6 ?c6 ?k6 ?a7 ?l7 ?c7 ?k7 ?a8 ?l8 ?c8 ?k8 ?a9 ?l9 ?c9 ?k9 ?a10 ?l10 ?c10 ?k10 ?a11 ?l11 ?c11 ?k11 ?a12 ?l12 ?c12 ?k12 ?a13 ?l13 ?c13 ?k13 ?a14 ?l14 ?c14 ?k14 ?a15 ?l15 ?c15 ?k15 ?a16 ?l16 ?c16 ?k16 ?a17 ?l17 ?c17 ?k17 ?a18 ?l18 ?c18 ?k18 ?a19 ?l19 ?c19 ?k19 ?a20 ?l20 ?c20 ?k20 ?a21 ?l21 ?c21 ?k21 ?a22 ?l22 ?c22 ?k22 ?a23 ?l23 ?c23 ?k23 ?a24 ?l24 ?c24 ?k24 ?a25 ?l25 ?c25 ?k25 ?a26 ?l26 ?c26 ?k26 ?a27 ?l27 ?c27 ?k27 ?a28 ?l28 ?c28 ?k28 ?a29 ?l29 ?c29 ?k29 ?a30 ?l30 ?c30 ?k30 ?a31 ?l31 ?c31 ?k31 ?a32 ?l32 ?c32 ?k32 ?a33 ?l33 ?c33 ?k33 ?a34 ?l34 ?c34 ?k34 ?a35 ?l35 ?c35 ?k35 ?a36 ?l36 ?c36 ?k36 ?a37 ?l37 ?c37 ?k37 ?a38 ?l38 ?c38 ?k38 ?a39 ?l39 ?c39 ?k39 ?z_all ?z_bool ?z_enumerate ?z_int ?z_isinstance ?z_len ?z_list ?z_max ?z_range ?z_repr ?z_sorted ?z_sum ?z_tuple ?g_BUILDS ?o_BUILDS ?g_MOST_RANKS ?g_MOST_SUITS
    (case a0 => k_is)
    (case l0 => k_is)
    (case c0 => k_is)
    (case k0 => k_is)
    (case a1 => k_is)
    (case l1 => k_is)
    (case c1 => k_is)
    (case k1 => k_is)
    (case a2 => k_is)
    (case l2 => k_is)
    (case c2 => k_is)
    (case k2 => k_is)
    (case a3 => k_is)
    (case l3 => k_is)
    (case c3 => k_is)
    (case k3 => k_is)
    (case a4 => k_is)
    (case l4 => k_is)
    (case c4 => k_is)
    (case k4 => k_is)
    (case a5 => k_is)
    (case l5 => k_is)
    (case c5 => k_is)
    (case k5 => k_is)
    (case a6 => k_is)
    (case l6 => k_is)
    (case c6 => k_is)
    (case k6 => k_is)
    (case a7 => k_is)
    (case l7 => k_is)
    (case c7 => k_is)
    (case k7 => k_is)
    (case a8 => k_is)
    (case l8 => k_is)
    (case c8 => k_is)
    (case k8 => k_is)
    (case a9 => k_is)
    (case l9 => k_is)
    (case c9 => k_is)
    (case k9 => k_is)
    (case a10 => k_is)
    (case l10 => k_is)
    (case c10 => k_is)
    (case k10 => k_is)
    (case a11 => k_is)
    (case l11 => k_is)
    (case c11 => k_is)
    (case k11 => k_is)
    (case a12 => k_is)
    (case l12 => k_is)
    (case c12 => k_is)
    (case k12 => k_is)
    (case a13 => k_is)
    (case l13 => k_is)
    (case c13 => k_is)
    (case k13 => k_is)
    (case a14 => k_is)
    (case l14 => k_is)
    (case c14 => k_is)
    (case k14 => k_is)
    (case a15 => k_is)
    (case l15 => k_is)
    (case c15 => k_is)
    (case k15 => k_is)
    (case a16 => k_is)
    (case l16 => k_is)
    (case c16 => k_is)
    (case k16 => k_is)
    (case a17 => k_is)
    (case l17 => k_is)
    (case c17 => k_is)
    (case k17 => k_is)
    (case a18 => k_is)
    (case l18 => k_is)
    (case c18 => k_is)
    (case k18 => k_is)
    (case a19 => k_is)
    (case l19 => k_is)
    (case c19 => k_is)
    (case k19 => k_is)
    (case a20 => k_is)
    (case l20 => k_is)
    (case c20 => k_is)
    (case k20 => k_is)
    (case a21 => k_is)
    (case l21 => k_is)
    (case c21 => k_is)
    (case k21 => k_is)
    (case a22 => k_is)
    (case l22 => k_is)
    (case c22 => k_is)
    (case k22 => k_is)
    (case a23 => k_is)
    (case l23 => k_is)
    (case c23 => k_is)
    (case k23 => k_is)
    (case a24 => k_is)
    (case l24 => k_is)
    (case c24 => k_is)
    (case k24 => k_is)
    (case a25 => k_is)
    (case l25 => k_is)
    (case c25 => k_is)
    (case k25 => k_is)
    (case a26 => k_is)
    (case l26 => k_is)
    (case c26 => k_is)
    (case k26 => k_is)
    (case a27 => k_is)
    (case l27 => k_is)
    (case c27 => k_is)
    (case k27 => k_is)
    (case a28 => k_is)
    (case l28 => k_is)
    (case c28 => k_is)
    (case k28 => k_is)
    (case a29 => k_is)
    (case l29 => k_is)
    (case c29 => k_is)
    (case k29 => k_is)
    (case a30 => k_is)
    (case l30 => k_is)
    (case c30 => k_is)
    (case k30 => k_is)
    (case a31 => k_is)
    (case l31 => k_is)
    (case c31 => k_is)
    (case k31 => k_is)
    (case a32 => k_is)
    (case l32 => k_is)
    (case c32 => k_is)
    (case k32 => k_is)
    (case a33 => k_is)
    (case l33 => k_is)
    (case c33 => k_is)
    (case k33 => k_is)
    (case a34 => k_is)
    (case l34 => k_is)
    (case c34 => k_is)
    (case k34 => k_is)
    (case a35 => k_is)
    (case l35 => k_is)
    (case c35 => k_is)
    (case k35 => k_is)
    (case a36 => k_is)
    (case l36 => k_is)
    (case c36 => k_is)
    (case k36 => k_is)
    (case a37 => k_is)
    (case l37 => k_is)
    (case c37 => k_is)
    (case k37 => k_is)
    (case a38 => k_is)
    (case l38 => k_is)
    (case c38 => k_is)
    (case k38 => k_is)
    (case a39 => k_is)
    (case l39 => k_is)
    (case c39 => k_is)
    (case k39 => k_is)
    (case z_all => k_is)
    (case z_bool => k_is)
    (case z_enumerate => k_is)
    (case z_int => k_is)
    (case z_isinstance => k_is)
    (case z_len => k_is)
    (case z_list => k_is)
    (case z_max => k_is)
    (case z_range => k_is)
    (case z_repr => k_is)
    (case z_sorted => k_is)
    (case z_sum => k_is)
    (case z_tuple => k_is)
    (case g_BUILDS => k_is)
    (case o_BUILDS => k_is)
    (case g_MOST_RANKS => k_is)
    (case g_MOST_SUITS => k_is)

